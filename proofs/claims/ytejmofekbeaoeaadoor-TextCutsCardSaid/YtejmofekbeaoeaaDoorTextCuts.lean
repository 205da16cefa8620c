/- TextCuts: for any string the law returns true, and it reads afterwards as before. The library's tables are as the card ties them. -/
import Derived.Test.YtejmofekbeaoeaaDoorRows
import Derived.Test.YtejmofekbeaoeaaDoorCards
import Derived.Test.YtejmofekbeaoeaaDoorTie
import Derived.Test.YtejmofekbeaoeaaDoorTxtKnown
import Derived.Test.YtejmofekbeaoeaaDoorTxtTabs
import Derived.Test.YtejmofekbeaoeaaDoorTxtRWords
import Derived.WalkKit
import Derived.ProofKit
import Derived.OpenShut
import Derived.ShutString
import Derived.ChangeOld
import Derived.Below
import Derived.SevenTiedAt
namespace Go.Proofs.YtejmofekbeaoeaaDoor
open Go.ChangeShapes Go.WideShapes Go.ChangeAt Go.RowKit Go.Lib
open Go.ChangeMaps (open_string shut_string)
set_option linter.unusedVariables false

theorem linesV_len {zs : List ByteArray} {l : List UInt8} (h : zs.map lst = linesV l) : zs.length ≤ l.length + 1 := by
  have := congrArg List.length h
  rw [List.length_map] at this
  rw [this, linesV]
  split
  · simp
  · split
    · exact linesA_len l []
    · simp
theorem wordsV_len {zs : List ByteArray} {l : List UInt8} (h : zs.map lst = wordsV l) : zs.length ≤ l.length + 1 := by
  have := congrArg List.length h
  rw [List.length_map] at this
  rw [this, wordsV]
  split
  · exact wordsA_len l []
  · simp

set_option maxHeartbeats 3200000 in
theorem walk_TextCuts (w : World) (hT : Tabs w) (s : ByteArray) (hs : s.size ≤ maxLen) :
    Calls Tryd.prog 3 #[.string s] w fun e w' => e = .returned (.bool true) ∧ Below w.heap.size w w' := by
  have HT := Lib.hid hT; clear hT
  have HS := Lib.hid hs
  unfold maxLen at hs
  by_cases hla : 3000 < s.size
  · go_enter Tryd.func3, Tryd.ntmps3
    go_wp2_with fail
    refine (known_any _ HT.out).mono ?_
    rintro e w1 ⟨rfl, hb1⟩
    go_wp2_with fail
    go_ret
    exact ⟨rfl, hb1⟩
  · have c1 : ∀ w1, Tabs w1 → Calls Tryd.prog 11 #[.string s] w1 _ := fun w1 h => lines_any s w1 HS.out h
    have c2 : ∀ w1, Calls Tryd.prog 12 #[.string s] w1 _ := fun w1 => rlines_any s w1 (by omega)
    have c3 : ∀ w1, Tabs w1 → Calls Tryd.prog 13 #[.string s] w1 _ := fun w1 h => words_any s w1 (by omega) h
    have c4 : ∀ w1, Calls Tryd.prog 14 #[.string s] w1 _ := fun w1 => rwords_any s w1 (by omega)
    have hl1 : (lst s).length ≤ 3000 := by rw [lst_len]; omega
    unfold WordsAt at c3 c4
    have HL1 : Hid (∀ zs : List ByteArray, zs.map lst = linesV (lst s) → zs.length ≤ 3001) := Lib.hid fun zs h => by have := linesV_len h; omega
    have HL2 : Hid (∀ zs : List ByteArray, zs.map lst = wordsV (lst s) → zs.length ≤ 3001) := Lib.hid fun zs h => by have := wordsV_len h; omega
    generalize linesE (lst s) = E1 at c1 c2
    generalize wordsE (lst s) = E2 at c3 c4
    go_enter Tryd.func3, Tryd.ntmps3
    go_wp2_with fail
    refine (c1 _ HT.out).mono ?_
    rintro e w1 ⟨⟨A1, d1, z1, rfl, hS1, hz1⟩, hb1⟩
    have H1 := Lib.hid hS1; have Z1 := Lib.hid hz1; clear hS1 hz1
    go_wp2_with fail
    refine (c2 _).mono ?_
    rintro e w2 ⟨⟨A2, d2, z2, rfl, hS2, hz2⟩, hb2⟩
    have hc2 := blw hb1 hb2
    obtain rfl : z2 = z1 := lsts_inj (by rw [hz2, Z1.out])
    have H2 := Lib.hid hS2; clear hS2 hz2
    go_wp2_with fail
    refine (c3 _ (HT.out.below hc2)).mono ?_
    rintro e w3 ⟨⟨A3, d3, z3, rfl, hS3, hz3, -, -⟩, hb3⟩
    have hc3 := blw hc2 hb3
    have H3 := Lib.hid hS3; have Z3 := Lib.hid hz3; clear hS3 hz3
    go_wp2_with fail
    refine (c4 _).mono ?_
    rintro e w4 ⟨⟨A4, d4, z4, rfl, hS4, hz4, -, -⟩, hb4⟩
    have hc4 := blw hc3 hb4
    obtain rfl : z4 = z3 := lsts_inj (by rw [hz4, Z3.out])
    have H4 := Lib.hid hS4; clear hS4 hz4
    have hz1 := HL1.out _ Z1.out
    have hz3 := HL2.out _ Z3.out
    go_wp2_with fail
    refine (sameAll_any _ _ _ _ z2 z2 _ (((H1.out.below hb2).below hb3).below hb4) ((H2.out.below hb3).below hb4) (by omega) (by omega)).mono ?_
    rintro e w5 ⟨rfl, hb5⟩
    rw [decide_eq_true (rfl : z2 = z2)]
    have hc5 := blw hc4 hb5
    go_wp2_with fail
    refine (sameAll_any _ _ _ _ z4 z4 _ ((H3.out.below hb4).below hb5) (H4.out.below hb5) (by omega) (by omega)).mono ?_
    rintro e w6 ⟨rfl, hb6⟩
    rw [decide_eq_true (rfl : z4 = z4)]
    have hc6 := blw hc5 hb6
    go_wp2_with fail
    refine (known_any _ (HT.out.below hc6)).mono ?_
    rintro e w7 ⟨rfl, hb7⟩
    go_wp2_with fail
    go_ret
    exact ⟨rfl, blw hc6 hb7⟩

namespace textCuts
theorem own : ownKnob Tryd.prog.godebug = none := by kernel_rfl
set_option maxRecDepth 100000 in
theorem lifted (os : Os) (started : os.Started) (H : Type) (enc : TypeId × Value → H) :
    ReturnsInHanded {} Tryd.checked os 3 .any (fun w args => (Rows.textCutsSpec.pre enc Tryd.prog Tryd.f3 [] false w args ∧ laidMetH Tryd.prog laid5 w) ∧ sizedMet enc Tryd.prog Tryd.f3 (OpenSpec.ofChange Rows.textCutsSpec) false w args)
      (Rows.textCutsSpec.post enc Tryd.prog Tryd.f3 false true false false) := by
  refine returnsInHanded_of_change_and (C := Tryd.checked) (X := fun w _ => laidMetH Tryd.prog laid5 w) (fun _ _ _ hh h => h.of_heap hh) own started (by kernel_rfl) Tryd.func3
    (ChangeSpec.witness_shaped (enc := enc) (C := Tryd.checked) (os := os) (X := fun w _ => laidMetH Tryd.prog laid5 w) false (World.laidAll Tryd.prog os laid5) #[.string ByteArray.empty] 8 (World.laidAll_os _ _ _)
      (World.shaped_of_ZipB (by kernel_rfl) (by kernel_rfl)) (by kernel_rfl) (by kernel_rfl) (by kernel_rfl)
      (by rw [MakeChecks.laidMetH_plain _ _ _ (by kernel_rfl)]; exact laidMet_laidAll _ (by kernel_rfl) (by kernel_rfl))) ?_
  intro W base args ds gs before hval0 hW _ _ hL _
  have hval : ∀ (j : Nat) t v, Tryd.f3.params[j]? = some t → args[j]? = some v → Value.okWide Tryd.prog W .any base t v := hval0
  have hW' := hW
  obtain ⟨p, q, hA0, hV, rfl, _, _⟩ := hW
  have hA : DataW.TrodAll enc Tryd.prog W 0 (fun _ => true) true Tryd.f3.params.toList args.toList ds p := hA0
  rw [Tryd.params3] at hA hval
  obtain ⟨v0, vs0, d0, ds0, p0, q0, hargs, rfl, rfl, h0, r0⟩ := trodAll_cons hA
  obtain ⟨rfl, rfl, rfl⟩ := trodAll_nil r0
  obtain rfl : args = #[v0] := by cases args; simp_all
  obtain ⟨rfl, rfl⟩ := trodVars_none hV
  obtain ⟨a0, rfl, rfl, rfl, w0⟩ := open_string Tryd.underlying9 (hval 0 9 v0 rfl rfl) h0
  clear hA0 hval0
  simp only [List.append_nil] at hW'
  rw [MakeChecks.laidMetH_plain _ _ _ (by kernel_rfl)] at hL
  refine (walk_TextCuts W (tabs_of hL) a0 w0).mono fun e W' ⟨he, bel⟩ => ?_
  subst he
  exact ⟨_, rfl, _, _, _, [], _, [], hW', trodAll_mk1 (shut_bool Tryd.underlying4 _), (trodAll_cons_mk (shut_string Tryd.underlying9 w0) trodAll_mk0), rfl, bel.frame _, fun h => by cases h⟩
theorem said : Rows.TextCutsSaid :=
  OpenClaim.holds_of_wide 3 Tryd.f3 rfl rfl rfl rfl rfl rfl rfl ⟨rfl, rfl, rfl, rfl, rfl⟩ rfl rfl rfl rfl rfl (by kernel_rfl) Tryd.func3 (by kernel_rfl)
    (of_decide_eq_true (by kernel_rfl)) (by unfold Func.isWrapper; first | (rw [if_pos (by decide +kernel)]; kernel_rfl) | (rw [if_neg (by decide +kernel)]; exact ⟨rfl, rfl⟩))
    (fun os started H enc _ => lifted os started H enc)
theorem plain (f : FuncId) (fn : Func) (hf : Tryd.pinned.checked.prog.funcNamed "timekeeper/timekeeperlaw02.TextCuts" = some f) (hfn : Tryd.pinned.checked.prog.funcs[f]? = some fn) :
    false = Tryd.pinned.checked.prog.looks [] ∧ ∀ (j : Nat) t, fn.params[j]? = some t → Tryd.pinned.checked.prog.wantsStandIn t = false := by
  obtain rfl : f = 3 := Option.some.inj ((show Tryd.prog.funcNamed "timekeeper/timekeeperlaw02.TextCuts" = some 3 by kernel_rfl).symm.trans hf) |>.symm
  obtain rfl : fn = Tryd.f3 := (Option.some.inj (Tryd.func3.symm.trans hfn)).symm
  refine ⟨by kernel_rfl, fun j t ht => ?_⟩
  rw [Tryd.params3] at ht
  have hm : t ∈ [9] := by simpa using Array.mem_of_getElem? ht
  have hall : ([9].all fun u => !Tryd.prog.wantsStandIn u) = true := by kernel_rfl
  exact (show Tryd.prog.wantsStandIn t = false by simpa using List.all_eq_true.1 hall t hm)
theorem proved : Rows.TextCutsCardSaid :=
  Claim7.holds_tied_plain_at .later [] _ _ _ _ said (fun _ h => by cases h) (by kernel_rfl) (fun _ h => by cases h) textCuts_row_tie rfl ⟨rfl, rfl⟩ (by kernel_rfl) rfl plain (by kernel_rfl)
#print axioms proved
end textCuts
end Go.Proofs.YtejmofekbeaoeaaDoor
