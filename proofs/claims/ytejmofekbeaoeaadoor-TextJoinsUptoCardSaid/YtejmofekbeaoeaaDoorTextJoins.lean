/- TextJoins: for any list of strings and any string that hold together at most 1048576 values and letters the law returns true, and both read afterwards as before. The library's tables are as the card ties them. -/
import Derived.Test.YtejmofekbeaoeaaDoorRows
import Derived.Test.YtejmofekbeaoeaaDoorCards
import Derived.Test.YtejmofekbeaoeaaDoorTie
import Derived.Test.YtejmofekbeaoeaaDoorTxtKnown
import Derived.Test.YtejmofekbeaoeaaDoorTxtTabs
import Derived.Test.YtejmofekbeaoeaaDoorTxtJoin
import Derived.Deep.Strs
import Derived.WalkKit
import Derived.ProofKit
import Derived.OpenShut
import Derived.ShutString
import Derived.ChangeOld
import Derived.Below
import Derived.SevenTiedAt
import Derived.Deep.DeepHandedRow
namespace Go.Proofs.YtejmofekbeaoeaaDoor
open Go.ChangeShapes Go.WideShapes Go.ChangeAt Go.RowKit Go.Lib
open Go.ChangeMaps (open_string shut_string)
set_option linter.unusedVariables false

theorem sumZ_le_join : ∀ zs : List ByteArray, sumZ zs ≤ (joinL (zs.map lst)).length + 1
  | [] => by simp [sumZ]
  | [x] => by simp only [List.map_cons, List.map_nil, joinL, sumZ, lst_len]; omega
  | x :: y :: r => by
    have := sumZ_le_join (y :: r)
    simp only [List.map_cons, joinL, sumZ, List.length_append, List.length_cons, lst_len] at this ⊢
    omega
theorem wordsE_cases2 (l : List UInt8) : (wordsE l = 0 ∧ validD l = true ∧ ctlL l = false ∧ wordsV l = wordsA l []) ∨ (wordsE l = 5 ∧ wordsV l = []) := by
  by_cases h : validD l = true ∧ ctlL l = false
  · exact Or.inl ⟨(wordsV_yes h.1 h.2).2, h.1, h.2, (wordsV_yes h.1 h.2).1⟩
  · right; rw [wordsE, if_neg h, wordsV, if_neg h]; exact ⟨rfl, rfl⟩

set_option maxHeartbeats 3200000 in
theorem walk_TextJoins (w : World) (hT : Tabs w) (A : Option Addr) (c : Nat) (zs : List ByteArray) (hS : Strs w A zs) (hcap : zs.length ≤ c) (b : ByteArray) (hb : b.size ≤ maxLen) (hsum : sumZ zs + (b.data.toList.length + 1 + 0) ≤ 1048576) :
    Calls Tryd.prog 6 #[.slice A zs.length c, .string b] w fun e w' => e = .returned (.bool true) ∧ Below w.heap.size w w' := by
  have HT := Lib.hid hT; clear hT
  have HS := Lib.hid hS; clear hS
  have hB : b.size ≤ 1048576 := by have : b.data.toList.length = b.size := rfl; omega
  have hZ : sumZ zs ≤ 1048576 := by omega
  have hzl := sumZ_len zs
  clear hsum hb
  have HCP := Lib.hid hcap; clear hcap
  go_enter Tryd.func6, Tryd.ntmps6
  go_wp2_with fail
  go_loop [5, 6] (fun n i => ∃ k : Nat, i = .int .i64 (k : Int) ∧ n = .int .i64 ((sumZ (zs.take k) : Nat) : Int) ∧ k ≤ zs.length) (fun _ i => zs.length - (intOf i).toNat)
  case atStart => exact ⟨0, rfl, rfl, by omega⟩
  case round =>
    obtain ⟨k, rfl, rfl, hk⟩ := hrel
    have hle := sumZ_take_le zs k
    by_cases hlt : k < zs.length
    · obtain ⟨bk, off, x, rfl, ex, cx⟩ := HS.out.at_ hlt
      have h2 := sumZ_take ex
      have h3 := sumZ_take_le zs (k + 1)
      have HE := Lib.hid h2
      have h4 : sumZ (zs.take k) + 1 + x.size ≤ 1048576 := by omega
      clear ex h2 h3
      generalize sumZ (zs.take k) = N at *
      go_wp2
      go_round
      case rel => exact ⟨k + 1, by go_num, by rw [HE.out]; first | rfl | (congr 1; omega) | (congr 1; done), by omega⟩
      case measure => simp [intOf]; omega
    · have hN : zs.take k = zs := List.take_of_length_le (by omega)
      rw [hN] at hle ⊢
      clear hN
      have cJ := join_any A c zs w HS.out HCP.out (by omega)
      have cR := fun w1 (h : Below w.heap.size w w1) => rjoin_any A c zs w1 (HS.out.below h) (by omega)
      generalize bs (joinL (zs.map lst)) = V at cJ cR
      by_cases hn : 2000 < sumZ zs
      · generalize sumZ zs = N at *
        clear cJ cR
        go_wp2_with fail
        refine (known_any _ HT.out).mono ?_
        rintro e w1 ⟨rfl, hb1⟩
        go_wp2_with fail
        go_ret
        exact ⟨rfl, hb1⟩
      by_cases hlb : 2000 < b.size
      · generalize sumZ zs = N at *
        clear cJ cR
        go_wp2_with fail
        refine (known_any _ HT.out).mono ?_
        rintro e w1 ⟨rfl, hb1⟩
        go_wp2_with fail
        go_ret
        exact ⟨rfl, hb1⟩
      generalize sumZ zs = N at *
      go_wp2_with fail
      refine cJ.mono ?_
      rintro e w1 ⟨rfl, hb1⟩
      go_wp2_with fail
      refine (cR _ hb1).mono ?_
      rintro e w1' ⟨rfl, rfl⟩
      clear cJ cR
      have hvv : (V.toList == V.toList) = true := by simp
      rcases wordsE_cases2 (lst b) with ⟨ea, hva, hca, hwa⟩ | ⟨ea, hwa⟩
      · have HV := Lib.hid (And.intro hva hca)
        clear ea hwa hva hca
        go_wp2_with fail
        refine (words_as2 _ _ (by omega) (HT.out.below hb1) (lst b) rfl HV.out.1 HV.out.2).mono ?_
        rintro e w2 ⟨⟨A2, d2, z2, rfl, hS2, hz2, hc2⟩, hb2⟩
        have hq2 := blw hb1 hb2
        have hlen2 : (joinL (z2.map lst)).length ≤ 2000 := by rw [hz2]; have := joinA_len (lst b) []; simp only [List.length_nil, lst_len] at this; omega
        have hsz2 : sumZ z2 ≤ 2001 := by have := sumZ_le_join z2; omega
        have hzl2 : z2.length ≤ 2001 := by have := sumZ_len z2; omega
        have HG := Lib.hid (words_again HV.out.1 HV.out.2)
        have HZ2 := Lib.hid hz2
        have HS2 := Lib.hid hS2
        have HC2 := Lib.hid hc2
        have HBZ := Lib.hid (show (bs (joinL (z2.map lst))).size ≤ 1100000 from by rw [← lst_len, lst_bs]; omega)
        have HBL := Lib.hid (show lst (bs (joinL (z2.map lst))) = joinL (wordsA (lst b) []) from by rw [lst_bs, HZ2.out])
        clear hz2 hS2 hc2 hlen2
        go_wp2_with fail
        refine (join_any _ _ z2 _ HS2.out HC2.out (by omega)).mono ?_
        rintro e w3 ⟨rfl, hb3⟩
        have hq3 := blw hq2 hb3
        go_wp2_with fail
        refine (words_as2 _ _ HBZ.out (HT.out.below hq3) (joinL (wordsA (lst b) [])) HBL.out HG.out.1 HG.out.2.1).mono ?_
        rintro e w4 ⟨⟨A4, d4, z4, rfl, hS4, hz4, -⟩, hb4⟩
        have hq4 := blw hq3 hb4
        obtain rfl : z4 = z2 := lsts_inj (by rw [hz4, HG.out.2.2, HZ2.out])
        have HS4 := Lib.hid hS4
        clear hS4 hz4
        go_wp2_with fail
        refine (sameAll_any _ _ _ _ z4 z4 _ HS4.out ((HS2.out.below hb3).below hb4) (by omega) (by omega)).mono ?_
        rintro e w5 ⟨rfl, hb5⟩
        rw [decide_eq_true (rfl : z4 = z4)]
        have hq5 := blw hq4 hb5
        go_wp2_with fail
        refine (known_any _ (HT.out.below hq5)).mono ?_
        rintro e w6 ⟨rfl, hb6⟩
        go_wp2_with fail
        go_ret
        exact ⟨rfl, blw hq5 hb6⟩
      · have hC := words_any b w1 (by omega) (HT.out.below hb1)
        unfold WordsAt at hC
        rw [ea, hwa] at hC
        clear ea hwa
        go_wp2_with fail
        refine hC.mono ?_
        rintro e w2 ⟨⟨A2, d2, z2, rfl, hS2, hz2, -, -⟩, hb2⟩
        obtain rfl : z2 = [] := by simpa using hz2
        have hq2 := blw hb1 hb2
        clear hS2 hz2
        go_wp2_with fail
        refine (known_any _ (HT.out.below hq2)).mono ?_
        rintro e w3 ⟨rfl, hb3⟩
        go_wp2_with fail
        go_ret
        exact ⟨rfl, blw hq2 hb3⟩

namespace textJoins
theorem own : ownKnob Tryd.prog.godebug = none := by kernel_rfl
theorem laidOut : laidOutB Tryd.prog = true := by kernel_rfl
theorem reads (os : Os) {H : Type} (enc : TypeId × Value → H) : ∃ places, DataW.whole enc Tryd.prog ((World.laidAll Tryd.prog os laid5).forCall (fun _ _ => 0) ⟨#[], #[.slice none 0 0, .string ByteArray.empty], []⟩).memory Tryd.f6.params.toList Rows.textJoinsSpec.vars false #[.slice none 0 0, .string ByteArray.empty].toList 8 = some ([.nil, .lit (.string [])], [], places) :=
  ⟨[], by kernel_rfl⟩
set_option maxRecDepth 100000 in
theorem lifted (os : Os) (started : os.Started) (H : Type) (enc : TypeId × Value → H) (F : Stop.Interp) :
    ReturnsInHanded {} Tryd.checked os 6 .any ((Rows.OpenSpec.upto Rows.textJoinsSpec).preRow enc Tryd.prog Tryd.f6 Rows.textJoinsUptoRow.domain false Rows.textJoinsUptoRow.laid) (((Rows.OpenSpec.upto Rows.textJoinsSpec).at F).post enc Tryd.prog Tryd.f6 false true false false) := by
  obtain ⟨places, hx⟩ := reads os enc
  have hok : Input.okWideB Tryd.checked.prog ((World.laidAll Tryd.prog os laid5).forCall (fun _ _ => 0) ⟨#[], #[.slice none 0 0, .string ByteArray.empty], []⟩) 6 ⟨#[], #[.slice none 0 0, .string ByteArray.empty], []⟩ = true := by kernel_rfl
  have hlaid : laidMetH Tryd.prog laid5 ((World.laidAll Tryd.prog os laid5).forCall (fun _ _ => 0) ⟨#[], #[.slice none 0 0, .string ByteArray.empty], []⟩).memory := by rw [MakeChecks.laidMetH_plain _ _ _ (by kernel_rfl)]; exact laidMet_laidAll _ (by kernel_rfl) (by kernel_rfl)
  refine returnsInHanded_of_row (C := Tryd.checked) (s := Rows.OpenSpec.upto Rows.textJoinsSpec) own started (by kernel_rfl) Tryd.func6
    ⟨World.laidAll Tryd.prog os laid5, fun _ _ => 0, ⟨#[], #[.slice none 0 0, .string ByteArray.empty], []⟩, World.laidAll_os _ _ _, World.shaped_of_ZipB (by kernel_rfl) (by kernel_rfl), (Input.okWide_of_okWideB (base := 0) hok).1, (Input.okWide_of_okWideB hok).2,
      OpenSpec.preRow_of_cond 8 hx (by kernel_rfl) (fun k hk => by cases hk; kernel_rfl) (by kernel_rfl) hlaid, by
      simp only [Assume.holds]
      exact ⟨by simp, by simp, fun _ => Modest.zero, by simp, by simp⟩⟩ ?_
  intro W base args ds gs before hval0 hW _ hcond _ hL _ _
  clear hlaid hok hx
  have hval : ∀ (j : Nat) t v, Tryd.f6.params[j]? = some t → args[j]? = some v → Value.okWide Tryd.prog W .any base t v := hval0
  have hW' := hW
  obtain ⟨p, q, hA0, hV, rfl, _, _⟩ := hW
  have hA : DataW.TrodAll enc Tryd.prog W 0 (fun _ => true) true Tryd.f6.params.toList args.toList ds p := hA0
  rw [Tryd.params6] at hA hval
  obtain ⟨v0, vs0, d0, ds0, p0, q0, hargs, rfl, rfl, h0, r0⟩ := trodAll_cons hA
  obtain ⟨v1, vs1, d1, ds1, p1, q1, rfl, rfl, rfl, h1, r1⟩ := trodAll_cons r0
  obtain ⟨rfl, rfl, rfl⟩ := trodAll_nil r1
  obtain rfl : args = #[v0, v1] := by cases args; simp_all
  obtain ⟨rfl, rfl⟩ := trodVars_none hV
  have hk := of_decide_eq_true (hcond _ rfl)
  simp only [List.append_nil, Rows.uptoBulkAll] at hk
  obtain ⟨a0, len0, c0, rfl⟩ := okWide_slice Tryd.underlying23 (hval 0 23 v0 rfl rfl)
  have k0 := h0
  have lt0 : ∀ x ∈ p0, x.block < W.heap.size := by obtain ⟨m, hm⟩ := k0; exact DataW.trod_lt m _ _ _ hm
  obtain ⟨z0, rfl, w0, cc0, m0⟩ : ∃ zs : List ByteArray, zs.length = len0 ∧ Strs W a0 zs ∧ len0 ≤ c0 ∧ sumZ zs ≤ Rows.uptoBulk d0 := by
    obtain ⟨fuel, hf⟩ := h0
    rcases Go.Deep.open_strs Tryd.underlying23 Tryd.underlying9 (by kernel_rfl) hf with ⟨hcs, _⟩ | ⟨x, l, c, m, Sx, hcs, _, hl, hm, hmm, hx, hcell⟩
    · simp [Value.cells] at hcs
      obtain ⟨rfl, rfl, rfl⟩ := hcs
      exact ⟨[], rfl, Strs.none_, Nat.le_refl _, Nat.zero_le _⟩
    · simp [Value.cells] at hcs
      obtain ⟨rfl, rfl, rfl⟩ := hcs
      simp only [Prod.mk.injEq] at hx
      obtain ⟨rfl, _⟩ := hx
      simp only [if_true] at hmm
      refine ⟨(List.range len0).map Sx, by simp, strs_of (by omega) hcell, hl, ?_⟩
      rw [bulk_of (H := H) Sx]
      simp only [Rows.uptoBulk]
      omega
  obtain ⟨a1, rfl, rfl, rfl, w1⟩ := open_string Tryd.underlying9 (hval 1 9 v1 rfl rfl) h1
  clear hA0 hval0
  rw [MakeChecks.laidMetH_plain _ _ _ (by kernel_rfl)] at hL
  refine (walk_TextJoins W (tabs_of hL) a0 c0 z0 w0 cc0 a1 w1 (by first | (simp only [Rows.uptoBulk] at hk; exact hk) | (simp only [Rows.uptoBulk] at hk; omega))).mono fun e W' ⟨he, bel⟩ => ?_
  subst he
  exact ⟨_, rfl, _, _, _, [], _, [], hW', trodAll_mk1 (shut_bool Tryd.underlying4 _), (trodAll_cons_mk (Below.trod laidOut (by kernel_rfl) (of_decide_eq_true (by kernel_rfl)) k0 bel lt0) (trodAll_cons_mk (shut_string Tryd.underlying9 w1) trodAll_mk0)), rfl, bel.frame _, fun h => by cases h⟩
theorem said : Rows.TextJoinsUptoSaid :=
  OpenClaim.holds_of_cond 6 Tryd.f6 rfl rfl rfl rfl rfl rfl rfl ⟨rfl, rfl, rfl, rfl, rfl⟩ rfl rfl rfl rfl rfl (by kernel_rfl) Tryd.func6 (by kernel_rfl)
    (of_decide_eq_true (by kernel_rfl)) (by unfold Func.isWrapper; first | (rw [if_pos (by decide +kernel)]; kernel_rfl) | (rw [if_neg (by decide +kernel)]; exact ⟨rfl, rfl⟩))
    (fun os started H enc _ F => by rw [OpenClaim.pre_eq_preRow]; exact lifted os started H enc F)
theorem plain (f : FuncId) (fn : Func) (hf : Tryd.pinned.checked.prog.funcNamed "timekeeper/timekeeperlaw02.TextJoins" = some f) (hfn : Tryd.pinned.checked.prog.funcs[f]? = some fn) :
    false = Tryd.pinned.checked.prog.looks [] ∧ ∀ (j : Nat) t, fn.params[j]? = some t → Tryd.pinned.checked.prog.wantsStandIn t = false := by
  obtain rfl : f = 6 := Option.some.inj ((show Tryd.prog.funcNamed "timekeeper/timekeeperlaw02.TextJoins" = some 6 by kernel_rfl).symm.trans hf) |>.symm
  obtain rfl : fn = Tryd.f6 := (Option.some.inj (Tryd.func6.symm.trans hfn)).symm
  refine ⟨by kernel_rfl, fun j t ht => ?_⟩
  rw [Tryd.params6] at ht
  have hm : t ∈ [23, 9] := by simpa using Array.mem_of_getElem? ht
  have hall : ([23, 9].all fun u => !Tryd.prog.wantsStandIn u) = true := by kernel_rfl
  exact (show Tryd.prog.wantsStandIn t = false by simpa using List.all_eq_true.1 hall t hm)
theorem proved : Rows.TextJoinsUptoCardSaid :=
  Claim7.holds_tied_plain_at .later [] _ _ _ _ said (fun _ h => by cases h) (by kernel_rfl) (fun _ h => by cases h) textJoinsUpto_row_tie rfl ⟨rfl, rfl⟩ (by kernel_rfl) rfl plain (by kernel_rfl)
#print axioms proved
end textJoins
end Go.Proofs.YtejmofekbeaoeaaDoor
