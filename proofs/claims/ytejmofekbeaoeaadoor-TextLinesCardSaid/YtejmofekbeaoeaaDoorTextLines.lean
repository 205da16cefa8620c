/- TextLines: for any string the law returns true, and it reads afterwards as before. The library's tables are as the card ties them. -/
import Derived.Test.YtejmofekbeaoeaaDoorRows
import Derived.Test.YtejmofekbeaoeaaDoorCards
import Derived.Test.YtejmofekbeaoeaaDoorTie
import Derived.Test.YtejmofekbeaoeaaDoorTxtKnown
import Derived.Test.YtejmofekbeaoeaaDoorTxtTabs
import Derived.WalkKit
import Derived.ProofKit
import Derived.OpenShut
import Derived.ShutString
import Derived.ChangeOld
import Derived.Below
import Derived.SevenTiedAt
namespace Go.Proofs.YtejmofekbeaoeaaDoor
open Go.ChangeShapes Go.WideShapes Go.ChangeAt Go.RowKit Go.Lib
open Go.ChangeMaps (open_string shut_string)
set_option linter.unusedVariables false

theorem lst_two (a b : ByteArray) : lst (a ++ b) = lst a ++ lst b := by simp [lst]
theorem two_size (a b : ByteArray) : (a ++ b).size = a.size + b.size := by simp
theorem lines_len {zs : List ByteArray} {l : List UInt8} (h : zs.map lst = linesA l []) : zs.length ≤ l.length + 1 := by
  have := congrArg List.length h
  rw [List.length_map] at this
  rw [this]; exact linesA_len l []
theorem cat_take {zs : List ByteArray} {k : Nat} {x : ByteArray} (h : zs[k]? = some x) : catL ((zs.take (k + 1)).map lst) = catL ((zs.take k).map lst) ++ lst x ++ [10] := by
  rw [map_some h, List.map_append, List.map_cons, List.map_nil, catL_snoc]
theorem catL_le : ∀ (ws vs : List (List UInt8)), (catL ws).length ≤ (catL (ws ++ vs)).length
  | [], vs => by simp [catL]
  | w :: ws, vs => by
    have := catL_le ws vs
    simp [catL]; omega
theorem cat_take_le (zs : List ByteArray) (k : Nat) : (catL ((zs.take k).map lst)).length ≤ (catL (zs.map lst)).length := by
  have := catL_le ((zs.take k).map lst) ((zs.drop k).map lst)
  rwa [← List.map_append, List.take_append_drop] at this

set_option maxHeartbeats 12800000 in
theorem walk_TextLines (w : World) (hT : Tabs w) (s : ByteArray) (hs : s.size ≤ maxLen) :
    Calls Tryd.prog 7 #[.string s] w fun e w' => e = .returned (.bool true) ∧ Below w.heap.size w w' := by
  have HT := Lib.hid hT
  have cL := lines_any s w hs hT
  clear hT
  have hs2 := hs
  unfold maxLen at hs2
  clear hs
  by_cases hla : 3000 < s.size
  · generalize linesE (lst s) = E at cL
    go_enter Tryd.func7, Tryd.ntmps7
    go_wp2_with fail
    refine cL.mono ?_
    rintro e w1 ⟨⟨A, c, zs, rfl, -, -⟩, hb1⟩
    go_wp2_with fail
    refine (known_any _ (HT.out.below hb1)).mono ?_
    rintro e w2 ⟨rfl, hb2⟩
    go_wp2_with fail
    go_ret
    exact ⟨rfl, blw hb1 hb2⟩
  · have hlong : ¬ 60000 < (lst s).length := by rw [lst_len]; omega
    cases hv : validD (lst s)
    · rw [(linesV_bad hlong hv).1, (linesV_bad hlong hv).2] at cL
      clear hv hlong
      go_enter Tryd.func7, Tryd.ntmps7
      go_wp2_with fail
      refine cL.mono ?_
      rintro e w1 ⟨⟨A, c, zs, rfl, -, -⟩, hb1⟩
      go_wp2_with fail
      refine (known_any _ (HT.out.below hb1)).mono ?_
      rintro e w2 ⟨rfl, hb2⟩
      go_wp2_with fail
      go_ret
      exact ⟨rfl, blw hb1 hb2⟩
    · rw [(linesV_yes hlong hv).1, (linesV_yes hlong hv).2] at cL
      have HV := Lib.hid hv
      clear hv hlong
      go_enter Tryd.func7, Tryd.ntmps7
      go_wp2_with fail
      refine cL.mono ?_
      rintro e w1 ⟨⟨A, c, zs, rfl, hS, hz⟩, hb1⟩
      have hzl : zs.length ≤ 3001 := by have := lines_len hz; rw [lst_len] at this; omega
      have HF : Hid (∀ x ∈ zs, ∀ b ∈ lst x, b ≠ 10) := Lib.hid fun x hx b hb => linesA_free (lst s) [] (by simp) (lst x) (hz ▸ List.mem_map_of_mem hx) b hb
      have HC : Hid (catL (zs.map lst) = lst s ∨ catL (zs.map lst) = lst s ++ [10]) := Lib.hid (by rw [hz]; simpa using linesA_cat (lst s) [])
      have HB : Hid (linesA (catL (zs.map lst)) [] = zs.map lst) := Lib.hid (linesA_of_cat _ (by intro w hw; obtain ⟨x, hx, rfl⟩ := List.mem_map.1 hw; exact HF.out x hx))
      have HCL : Hid ((catL (zs.map lst)).length ≤ s.size + 1) := Lib.hid (by rcases HC.out with h | h <;> rw [h] <;> simp)
      have HCV : Hid (validD (catL (zs.map lst)) = true) := Lib.hid (by
        rcases HC.out with h | h
        · rw [h]; exact HV.out
        · rw [h, valid_app _ HV.out]; rfl)
      clear hz cL
      have HS := Lib.hid hS; clear hS
      go_wp2_with fail
      go_loop [5, 6, 7] (fun t i k => ∃ (y : ByteArray) (n : Nat), t = .string y ∧ i = .int .i64 (n : Int) ∧ n ≤ zs.length ∧ y.size ≤ 4000 ∧ Hid (lst y = catL ((zs.take n).map lst))) (fun _ i _ => zs.length - (intOf i).toNat)
      case atStart => exact ⟨⟨#[]⟩, 0, rfl, rfl, by omega, Nat.zero_le _, Lib.hid rfl⟩
      case round =>
        obtain ⟨y, n, rfl, rfl, hn, hy, hi⟩ := hrel
        by_cases hlt : n < zs.length
        · obtain ⟨b, off, x, rfl, ex, cx⟩ := HS.out.at_ hlt
          have HX := Lib.hid (HF.out x (List.mem_of_getElem? ex))
          have HE := Lib.hid (show lst (y ++ x ++ ⟨#[10]⟩) = catL ((zs.take (n + 1)).map lst) from by rw [lst_two, lst_two, hi.out, cat_take ex])
          have hyz : (y ++ x ++ ⟨#[10]⟩ : ByteArray).size ≤ 4000 := by
            have h1 := cat_take_le zs (n + 1)
            have h2 := HCL.out
            rw [← HE.out, lst_len] at h1
            omega
          have hxz : x.size ≤ 4000 := by
            rw [two_size, two_size] at hyz; omega
          have HY := Lib.hid hyz; clear hyz
          clear ex
          go_wp2
          go_loop [7] (fun k => ∃ j : Nat, j ≤ x.size ∧ k = .int .i64 (j : Int)) (fun k => x.size - (intOf k).toNat)
          case atStart => exact ⟨0, by omega, rfl⟩
          case round =>
            obtain ⟨j, hj, rfl⟩ := hrel
            by_cases hjx : j < x.size
            · have e10 : (((x[j].toNat : Nat) : Int) == 10) = false := by
                rw [beq_eq_false_iff_ne]
                intro e
                exact HX.out x[j] (List.mem_of_getElem? (byte_at x j hjx)) (UInt8.toNat_inj.1 (by show x[j].toNat = 10; omega))
              go_wp2
              go_round
              case rel => exact ⟨j + 1, by omega, by go_num⟩
              case measure => simp [intOf]; omega
            · go_wp2
              go_round
              case rel => exact ⟨y ++ x ++ ⟨#[10]⟩, n + 1, rfl, by go_num, by omega, HY.out, HE⟩
              case measure => simp [intOf]; omega
        · have HE := Lib.hid (show lst y = catL (zs.map lst) from by rw [hi.out, List.take_of_length_le (by omega)])
          have cM := lines_any y w1 (by unfold maxLen; omega) (HT.out.below hb1)
          rw [(linesV_yes (l := lst y) (by rw [lst_len]; omega) (by rw [HE.out]; exact HCV.out)).1, (linesV_yes (l := lst y) (by rw [lst_len]; omega) (by rw [HE.out]; exact HCV.out)).2] at cM
          rw [HE.out, HB.out] at cM
          go_wp2_with fail
          refine cM.mono ?_
          rintro e w2 ⟨⟨A2, c2, zs2, rfl, hS2, hz2⟩, hb2⟩
          obtain rfl := lsts_inj hz2
          clear hz2 cM
          have HS2 := Lib.hid hS2; clear hS2
          go_wp2_with fail
          refine (sameAll_any _ _ _ _ zs2 zs2 _ HS2.out (HS.out.below hb2) (by omega) (by omega)).mono ?_
          rintro e w3 ⟨rfl, hb3⟩
          rw [decide_eq_true (rfl : zs2 = zs2)]
          have hb123 := blw (blw hb1 hb2) hb3
          by_cases hys : y = s
          · have e1 : (y.toList == s.toList) = true := by rw [hys]; simp
            clear hys
            go_wp2_with fail
            refine (known_any _ (HT.out.below hb123)).mono ?_
            rintro e w4 ⟨rfl, hb4⟩
            go_wp2_with fail
            go_ret
            exact ⟨rfl, blw hb123 hb4⟩
          · have e1 : (y.toList == s.toList) = false := by
              rw [beq_eq_false_iff_ne]; intro e; rw [ByteArray.toList_eq, ByteArray.toList_eq] at e; exact hys (lst_inj e)
            have e2 : y = s ++ ⟨#[10]⟩ := by
              rcases HC.out with h | h
              · exact absurd (lst_inj (HE.out.trans h)) hys
              · exact lst_inj (by rw [HE.out, h, lst_two])
            have e3 : (y.toList == (s ++ ⟨#[10]⟩ : ByteArray).toList) = true := by rw [e2]; simp
            clear hys e2
            go_wp2_with fail
            refine (known_any _ (HT.out.below hb123)).mono ?_
            rintro e w4 ⟨rfl, hb4⟩
            go_wp2_with fail
            go_ret
            exact ⟨rfl, blw hb123 hb4⟩

namespace textLines
theorem own : ownKnob Tryd.prog.godebug = none := by kernel_rfl
set_option maxRecDepth 100000 in
theorem lifted (os : Os) (started : os.Started) (H : Type) (enc : TypeId × Value → H) :
    ReturnsInHanded {} Tryd.checked os 7 .any (fun w args => (Rows.textLinesSpec.pre enc Tryd.prog Tryd.f7 [] false w args ∧ laidMetH Tryd.prog laid5 w) ∧ sizedMet enc Tryd.prog Tryd.f7 (OpenSpec.ofChange Rows.textLinesSpec) false w args)
      (Rows.textLinesSpec.post enc Tryd.prog Tryd.f7 false true false false) := by
  refine returnsInHanded_of_change_and (C := Tryd.checked) (X := fun w _ => laidMetH Tryd.prog laid5 w) (fun _ _ _ hh h => h.of_heap hh) own started (by kernel_rfl) Tryd.func7
    (ChangeSpec.witness_shaped (enc := enc) (C := Tryd.checked) (os := os) (X := fun w _ => laidMetH Tryd.prog laid5 w) false (World.laidAll Tryd.prog os laid5) #[.string ByteArray.empty] 8 (World.laidAll_os _ _ _)
      (World.shaped_of_ZipB (by kernel_rfl) (by kernel_rfl)) (by kernel_rfl) (by kernel_rfl) (by kernel_rfl)
      (by rw [MakeChecks.laidMetH_plain _ _ _ (by kernel_rfl)]; exact laidMet_laidAll _ (by kernel_rfl) (by kernel_rfl))) ?_
  intro W base args ds gs before hval0 hW _ _ hL _
  have hval : ∀ (j : Nat) t v, Tryd.f7.params[j]? = some t → args[j]? = some v → Value.okWide Tryd.prog W .any base t v := hval0
  have hW' := hW
  obtain ⟨p, q, hA0, hV, rfl, _, _⟩ := hW
  have hA : DataW.TrodAll enc Tryd.prog W 0 (fun _ => true) true Tryd.f7.params.toList args.toList ds p := hA0
  rw [Tryd.params7] at hA hval
  obtain ⟨v0, vs0, d0, ds0, p0, q0, hargs, rfl, rfl, h0, r0⟩ := trodAll_cons hA
  obtain ⟨rfl, rfl, rfl⟩ := trodAll_nil r0
  obtain rfl : args = #[v0] := by cases args; simp_all
  obtain ⟨rfl, rfl⟩ := trodVars_none hV
  obtain ⟨a0, rfl, rfl, rfl, w0⟩ := open_string Tryd.underlying9 (hval 0 9 v0 rfl rfl) h0
  clear hA0 hval0
  simp only [List.append_nil] at hW'
  rw [MakeChecks.laidMetH_plain _ _ _ (by kernel_rfl)] at hL
  refine (walk_TextLines W (tabs_of hL) a0 w0).mono fun e W' ⟨he, bel⟩ => ?_
  subst he
  exact ⟨_, rfl, _, _, _, [], _, [], hW', trodAll_mk1 (shut_bool Tryd.underlying4 _), (trodAll_cons_mk (shut_string Tryd.underlying9 w0) trodAll_mk0), rfl, bel.frame _, fun h => by cases h⟩
theorem said : Rows.TextLinesSaid :=
  OpenClaim.holds_of_wide 7 Tryd.f7 rfl rfl rfl rfl rfl rfl rfl ⟨rfl, rfl, rfl, rfl, rfl⟩ rfl rfl rfl rfl rfl (by kernel_rfl) Tryd.func7 (by kernel_rfl)
    (of_decide_eq_true (by kernel_rfl)) (by unfold Func.isWrapper; first | (rw [if_pos (by decide +kernel)]; kernel_rfl) | (rw [if_neg (by decide +kernel)]; exact ⟨rfl, rfl⟩))
    (fun os started H enc _ => lifted os started H enc)
theorem plain (f : FuncId) (fn : Func) (hf : Tryd.pinned.checked.prog.funcNamed "timekeeper/timekeeperlaw02.TextLines" = some f) (hfn : Tryd.pinned.checked.prog.funcs[f]? = some fn) :
    false = Tryd.pinned.checked.prog.looks [] ∧ ∀ (j : Nat) t, fn.params[j]? = some t → Tryd.pinned.checked.prog.wantsStandIn t = false := by
  obtain rfl : f = 7 := Option.some.inj ((show Tryd.prog.funcNamed "timekeeper/timekeeperlaw02.TextLines" = some 7 by kernel_rfl).symm.trans hf) |>.symm
  obtain rfl : fn = Tryd.f7 := (Option.some.inj (Tryd.func7.symm.trans hfn)).symm
  refine ⟨by kernel_rfl, fun j t ht => ?_⟩
  rw [Tryd.params7] at ht
  have hm : t ∈ [9] := by simpa using Array.mem_of_getElem? ht
  have hall : ([9].all fun u => !Tryd.prog.wantsStandIn u) = true := by kernel_rfl
  exact (show Tryd.prog.wantsStandIn t = false by simpa using List.all_eq_true.1 hall t hm)
theorem proved : Rows.TextLinesCardSaid :=
  Claim7.holds_tied_plain_at .later [] _ _ _ _ said (fun _ h => by cases h) (by kernel_rfl) (fun _ h => by cases h) textLines_row_tie rfl ⟨rfl, rfl⟩ (by kernel_rfl) rfl plain (by kernel_rfl)
#print axioms proved
end textLines
end Go.Proofs.YtejmofekbeaoeaaDoor
