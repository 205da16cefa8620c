/- TextNotes: for any two strings that hold together at most 1048576 values and letters the law returns true, and both read afterwards as before. The library's tables are as the card ties them. -/
import Derived.Test.YtejmofekbeaoeaaDoorRows
import Derived.Test.YtejmofekbeaoeaaDoorCards
import Derived.Test.YtejmofekbeaoeaaDoorTie
import Derived.Test.YtejmofekbeaoeaaDoorTxtKnown
import Derived.Test.YtejmofekbeaoeaaDoorTxtTabs
import Derived.WalkKit
import Derived.ProofKit
import Derived.OpenShut
import Derived.ShutString
import Derived.ChangeOld
import Derived.Below
import Derived.SevenTiedAt
import Derived.Deep.DeepHandedRow
namespace Go.Proofs.YtejmofekbeaoeaaDoor
open Go.ChangeShapes Go.WideShapes Go.ChangeAt Go.RowKit Go.Lib
open Go.ChangeMaps (open_string shut_string)
set_option linter.unusedVariables false

theorem lst_two (a b : ByteArray) : lst (a ++ b) = lst a ++ lst b := by simp [lst]
theorem two_size (a b : ByteArray) : (a ++ b).size = a.size + b.size := by simp
theorem wordsE_cases (l : List UInt8) : (wordsE l = 0 ∧ validD l = true ∧ ctlL l = false ∧ wordsV l = wordsA l []) ∨ wordsE l = 5 := by
  by_cases h : validD l = true ∧ ctlL l = false
  · exact Or.inl ⟨(wordsV_yes h.1 h.2).2, h.1, h.2, (wordsV_yes h.1 h.2).1⟩
  · right; rw [wordsE, if_neg h]
theorem wordsV_len {zs : List ByteArray} {l : List UInt8} (h : zs.map lst = wordsV l) : zs.length ≤ l.length + 1 := by
  have := congrArg List.length h
  rw [List.length_map] at this
  rw [this, wordsV]
  split
  · exact wordsA_len l []
  · simp

theorem words_as (s : ByteArray) (w : World) (hs : s.size ≤ 1100000) (hT : Tabs w) (l : List UInt8) (h : lst s = l) (hv : validD l = true) (hc : ctlL l = false) :
    Calls Tryd.prog 13 #[.string s] w fun e w' => (∃ A c zs, e = .returned (.tuple #[.slice A zs.length c, .int .i64 0]) ∧ Strs w' A zs ∧ zs.map lst = wordsA l [] ∧ zs.length ≤ c ∧ (∀ k, A = some k → k.block < w'.heap.size)) ∧ Below w.heap.size w w' := by
  have := words_any s w hs hT
  unfold WordsAt at this
  rw [h, (wordsV_yes hv hc).1, (wordsV_yes hv hc).2] at this
  exact this

set_option maxHeartbeats 1600000 in
theorem walk_TextNotes (w : World) (hT : Tabs w) (a : ByteArray) (ha : a.size ≤ maxLen) (b : ByteArray) (hb : b.size ≤ maxLen) (hsum : a.data.toList.length + 1 + (b.data.toList.length + 1 + 0) ≤ 1048576) :
    Calls Tryd.prog 8 #[.string a, .string b] w fun e w' => e = .returned (.bool true) ∧ Below w.heap.size w w' := by
  have HT := Lib.hid hT; clear hT
  have hA : a.size ≤ 1048576 := by have : a.data.toList.length = a.size := rfl; omega
  have hB : b.size ≤ 1048576 := by have : b.data.toList.length = b.size := rfl; omega
  clear hsum ha hb
  have c1 : ∀ w1, Tabs w1 → Calls Tryd.prog 13 #[.string a] w1 _ := fun w1 h => words_any a w1 (by omega) h
  have c2 : ∀ w1, Tabs w1 → Calls Tryd.prog 13 #[.string b] w1 _ := fun w1 h => words_any b w1 (by omega) h
  unfold WordsAt at c1 c2
  by_cases hla : 2000 < a.size
  · generalize wordsE (lst a) = E1 at c1
    generalize wordsE (lst b) = E2 at c2
    go_enter Tryd.func8, Tryd.ntmps8
    go_wp2_with fail
    refine (c1 _ HT.out).mono ?_
    rintro e w1 ⟨⟨A1, d1, z1, rfl, hS1, hz1, -, -⟩, hb1⟩
    have H1 := Lib.hid hS1; have Z1 := Lib.hid hz1; clear hS1 hz1
    go_wp2_with fail
    refine (c2 _ (HT.out.below hb1)).mono ?_
    rintro e w2 ⟨⟨A2, d2, z2, rfl, -, -, -, -⟩, hb2⟩
    have hc2 := blw hb1 hb2
    go_wp2_with fail
    refine (known_any _ (HT.out.below hc2)).mono ?_
    rintro e w3 ⟨rfl, hb3⟩
    go_wp2_with fail
    go_ret
    exact ⟨rfl, blw hc2 hb3⟩
  by_cases hlb : 2000 < b.size
  · generalize wordsE (lst a) = E1 at c1
    generalize wordsE (lst b) = E2 at c2
    go_enter Tryd.func8, Tryd.ntmps8
    go_wp2_with fail
    refine (c1 _ HT.out).mono ?_
    rintro e w1 ⟨⟨A1, d1, z1, rfl, hS1, hz1, -, -⟩, hb1⟩
    have H1 := Lib.hid hS1; have Z1 := Lib.hid hz1; clear hS1 hz1
    go_wp2_with fail
    refine (c2 _ (HT.out.below hb1)).mono ?_
    rintro e w2 ⟨⟨A2, d2, z2, rfl, -, -, -, -⟩, hb2⟩
    have hc2 := blw hb1 hb2
    go_wp2_with fail
    refine (known_any _ (HT.out.below hc2)).mono ?_
    rintro e w3 ⟨rfl, hb3⟩
    go_wp2_with fail
    go_ret
    exact ⟨rfl, blw hc2 hb3⟩
  rcases wordsE_cases (lst a) with ⟨ea, hva, hca, hwa⟩ | ea
  · simp only [ea] at c1
    rcases wordsE_cases (lst b) with ⟨eb, hvb, hcb, hwb⟩ | eb
    · simp only [eb] at c2
      have hno := note_ok hva hca hvb hcb
      have hl : lst (a ++ ⟨#[32, 35]⟩ ++ b) = lst a ++ 32 :: 35 :: lst b := by rw [lst_two, lst_two]; show lst a ++ [32, 35] ++ lst b = _; simp
      have HSZ := Lib.hid (show (a ++ ⟨#[32, 35]⟩ ++ b : ByteArray).size ≤ 1100000 from by rw [← lst_len, hl]; simp only [List.length_append, List.length_cons, lst_len]; omega)
      have HLL := Lib.hid hl
      have HV := Lib.hid hno
      have HL2 : Hid (∀ zs : List ByteArray, zs.map lst = wordsV (lst a) → zs.length ≤ 2001) := Lib.hid fun zs h => by have := wordsV_len h; rw [lst_len] at this; omega
      have HW := Lib.hid hwa
      clear hno hl hva hca hwa hvb hcb hwb ea eb
      go_enter Tryd.func8, Tryd.ntmps8
      go_wp2_with fail
      refine (c1 _ HT.out).mono ?_
      rintro e w1 ⟨⟨A1, d1, z1, rfl, hS1, hz1, -, -⟩, hb1⟩
      have H1 := Lib.hid hS1; have Z1 := Lib.hid hz1; clear hS1 hz1
      go_wp2_with fail
      refine (c2 _ (HT.out.below hb1)).mono ?_
      rintro e w2 ⟨⟨A2, d2, z2, rfl, -, -, -, -⟩, hb2⟩
      have hc2 := blw hb1 hb2
      go_wp2_with fail
      refine (words_as _ _ HSZ.out (HT.out.below hc2) (lst a ++ 32 :: 35 :: lst b) HLL.out HV.out.1 HV.out.2).mono ?_
      rintro e w3 ⟨⟨A3, d3, z3, rfl, hS3, hz3, -, -⟩, hb3⟩
      have hc3 := blw hc2 hb3
      obtain rfl : z3 = z1 := lsts_inj (by rw [hz3, Z1.out, HW.out, note_words])
      have H3 := Lib.hid hS3; clear hS3 hz3
      have hz1 := HL2.out _ Z1.out
      go_wp2_with fail
      refine (sameAll_any _ _ _ _ z3 z3 _ H3.out ((H1.out.below hb2).below hb3) (by omega) (by omega)).mono ?_
      rintro e w4 ⟨rfl, hb4⟩
      rw [decide_eq_true (rfl : z3 = z3)]
      have hc4 := blw hc3 hb4
      go_wp2_with fail
      refine (known_any _ (HT.out.below hc4)).mono ?_
      rintro e w5 ⟨rfl, hb5⟩
      go_wp2_with fail
      go_ret
      exact ⟨rfl, blw hc4 hb5⟩
    · simp only [eb] at c2
      clear ea hva hca hwa eb
      go_enter Tryd.func8, Tryd.ntmps8
      go_wp2_with fail
      refine (c1 _ HT.out).mono ?_
      rintro e w1 ⟨⟨A1, d1, z1, rfl, hS1, hz1, -, -⟩, hb1⟩
      have H1 := Lib.hid hS1; have Z1 := Lib.hid hz1; clear hS1 hz1
      go_wp2_with fail
      refine (c2 _ (HT.out.below hb1)).mono ?_
      rintro e w2 ⟨⟨A2, d2, z2, rfl, -, -, -, -⟩, hb2⟩
      have hc2 := blw hb1 hb2
      go_wp2_with fail
      refine (known_any _ (HT.out.below hc2)).mono ?_
      rintro e w3 ⟨rfl, hb3⟩
      go_wp2_with fail
      go_ret
      exact ⟨rfl, blw hc2 hb3⟩
  · simp only [ea] at c1
    clear ea
    generalize wordsE (lst b) = E2 at c2
    go_enter Tryd.func8, Tryd.ntmps8
    go_wp2_with fail
    refine (c1 _ HT.out).mono ?_
    rintro e w1 ⟨⟨A1, d1, z1, rfl, hS1, hz1, -, -⟩, hb1⟩
    have H1 := Lib.hid hS1; have Z1 := Lib.hid hz1; clear hS1 hz1
    go_wp2_with fail
    refine (c2 _ (HT.out.below hb1)).mono ?_
    rintro e w2 ⟨⟨A2, d2, z2, rfl, -, -, -, -⟩, hb2⟩
    have hc2 := blw hb1 hb2
    go_wp2_with fail
    refine (known_any _ (HT.out.below hc2)).mono ?_
    rintro e w3 ⟨rfl, hb3⟩
    go_wp2_with fail
    go_ret
    exact ⟨rfl, blw hc2 hb3⟩

namespace textNotes
theorem own : ownKnob Tryd.prog.godebug = none := by kernel_rfl
theorem laidOut : laidOutB Tryd.prog = true := by kernel_rfl
theorem reads (os : Os) {H : Type} (enc : TypeId × Value → H) : ∃ places, DataW.whole enc Tryd.prog ((World.laidAll Tryd.prog os laid5).forCall (fun _ _ => 0) ⟨#[], #[.string ByteArray.empty, .string ByteArray.empty], []⟩).memory Tryd.f8.params.toList Rows.textNotesSpec.vars false #[.string ByteArray.empty, .string ByteArray.empty].toList 8 = some ([.lit (.string []), .lit (.string [])], [], places) :=
  ⟨[], by kernel_rfl⟩
set_option maxRecDepth 100000 in
theorem lifted (os : Os) (started : os.Started) (H : Type) (enc : TypeId × Value → H) (F : Stop.Interp) :
    ReturnsInHanded {} Tryd.checked os 8 .any ((Rows.OpenSpec.upto Rows.textNotesSpec).preRow enc Tryd.prog Tryd.f8 Rows.textNotesUptoRow.domain false Rows.textNotesUptoRow.laid) (((Rows.OpenSpec.upto Rows.textNotesSpec).at F).post enc Tryd.prog Tryd.f8 false true false false) := by
  obtain ⟨places, hx⟩ := reads os enc
  have hok : Input.okWideB Tryd.checked.prog ((World.laidAll Tryd.prog os laid5).forCall (fun _ _ => 0) ⟨#[], #[.string ByteArray.empty, .string ByteArray.empty], []⟩) 8 ⟨#[], #[.string ByteArray.empty, .string ByteArray.empty], []⟩ = true := by kernel_rfl
  have hlaid : laidMetH Tryd.prog laid5 ((World.laidAll Tryd.prog os laid5).forCall (fun _ _ => 0) ⟨#[], #[.string ByteArray.empty, .string ByteArray.empty], []⟩).memory := by rw [MakeChecks.laidMetH_plain _ _ _ (by kernel_rfl)]; exact laidMet_laidAll _ (by kernel_rfl) (by kernel_rfl)
  refine returnsInHanded_of_row (C := Tryd.checked) (s := Rows.OpenSpec.upto Rows.textNotesSpec) own started (by kernel_rfl) Tryd.func8
    ⟨World.laidAll Tryd.prog os laid5, fun _ _ => 0, ⟨#[], #[.string ByteArray.empty, .string ByteArray.empty], []⟩, World.laidAll_os _ _ _, World.shaped_of_ZipB (by kernel_rfl) (by kernel_rfl), (Input.okWide_of_okWideB (base := 0) hok).1, (Input.okWide_of_okWideB hok).2,
      OpenSpec.preRow_of_cond 8 hx (by kernel_rfl) (fun k hk => by cases hk; kernel_rfl) (by kernel_rfl) hlaid, by
      simp only [Assume.holds]
      exact ⟨by simp, by simp, fun _ => Modest.zero, by simp, by simp⟩⟩ ?_
  intro W base args ds gs before hval0 hW _ hcond _ hL _ _
  clear hlaid hok hx
  have hval : ∀ (j : Nat) t v, Tryd.f8.params[j]? = some t → args[j]? = some v → Value.okWide Tryd.prog W .any base t v := hval0
  have hW' := hW
  obtain ⟨p, q, hA0, hV, rfl, _, _⟩ := hW
  have hA : DataW.TrodAll enc Tryd.prog W 0 (fun _ => true) true Tryd.f8.params.toList args.toList ds p := hA0
  rw [Tryd.params8] at hA hval
  obtain ⟨v0, vs0, d0, ds0, p0, q0, hargs, rfl, rfl, h0, r0⟩ := trodAll_cons hA
  obtain ⟨v1, vs1, d1, ds1, p1, q1, rfl, rfl, rfl, h1, r1⟩ := trodAll_cons r0
  obtain ⟨rfl, rfl, rfl⟩ := trodAll_nil r1
  obtain rfl : args = #[v0, v1] := by cases args; simp_all
  obtain ⟨rfl, rfl⟩ := trodVars_none hV
  have hk := of_decide_eq_true (hcond _ rfl)
  simp only [List.append_nil, Rows.uptoBulkAll] at hk
  obtain ⟨a0, rfl, rfl, rfl, w0⟩ := open_string Tryd.underlying9 (hval 0 9 v0 rfl rfl) h0
  obtain ⟨a1, rfl, rfl, rfl, w1⟩ := open_string Tryd.underlying9 (hval 1 9 v1 rfl rfl) h1
  clear hA0 hval0
  simp only [List.append_nil] at hW'
  rw [MakeChecks.laidMetH_plain _ _ _ (by kernel_rfl)] at hL
  refine (walk_TextNotes W (tabs_of hL) a0 w0 a1 w1 (by first | (simp only [Rows.uptoBulk] at hk; exact hk) | (simp only [Rows.uptoBulk] at hk; omega))).mono fun e W' ⟨he, bel⟩ => ?_
  subst he
  exact ⟨_, rfl, _, _, _, [], _, [], hW', trodAll_mk1 (shut_bool Tryd.underlying4 _), (trodAll_cons_mk (shut_string Tryd.underlying9 w0) (trodAll_cons_mk (shut_string Tryd.underlying9 w1) trodAll_mk0)), rfl, bel.frame _, fun h => by cases h⟩
theorem said : Rows.TextNotesUptoSaid :=
  OpenClaim.holds_of_cond 8 Tryd.f8 rfl rfl rfl rfl rfl rfl rfl ⟨rfl, rfl, rfl, rfl, rfl⟩ rfl rfl rfl rfl rfl (by kernel_rfl) Tryd.func8 (by kernel_rfl)
    (of_decide_eq_true (by kernel_rfl)) (by unfold Func.isWrapper; first | (rw [if_pos (by decide +kernel)]; kernel_rfl) | (rw [if_neg (by decide +kernel)]; exact ⟨rfl, rfl⟩))
    (fun os started H enc _ F => by rw [OpenClaim.pre_eq_preRow]; exact lifted os started H enc F)
theorem plain (f : FuncId) (fn : Func) (hf : Tryd.pinned.checked.prog.funcNamed "timekeeper/timekeeperlaw02.TextNotes" = some f) (hfn : Tryd.pinned.checked.prog.funcs[f]? = some fn) :
    false = Tryd.pinned.checked.prog.looks [] ∧ ∀ (j : Nat) t, fn.params[j]? = some t → Tryd.pinned.checked.prog.wantsStandIn t = false := by
  obtain rfl : f = 8 := Option.some.inj ((show Tryd.prog.funcNamed "timekeeper/timekeeperlaw02.TextNotes" = some 8 by kernel_rfl).symm.trans hf) |>.symm
  obtain rfl : fn = Tryd.f8 := (Option.some.inj (Tryd.func8.symm.trans hfn)).symm
  refine ⟨by kernel_rfl, fun j t ht => ?_⟩
  rw [Tryd.params8] at ht
  have hm : t ∈ [9, 9] := by simpa using Array.mem_of_getElem? ht
  have hall : ([9, 9].all fun u => !Tryd.prog.wantsStandIn u) = true := by kernel_rfl
  exact (show Tryd.prog.wantsStandIn t = false by simpa using List.all_eq_true.1 hall t hm)
theorem proved : Rows.TextNotesUptoCardSaid :=
  Claim7.holds_tied_plain_at .later [] _ _ _ _ said (fun _ h => by cases h) (by kernel_rfl) (fun _ h => by cases h) textNotesUpto_row_tie rfl ⟨rfl, rfl⟩ (by kernel_rfl) rfl plain (by kernel_rfl)
#print axioms proved
end textNotes
end Go.Proofs.YtejmofekbeaoeaaDoor
