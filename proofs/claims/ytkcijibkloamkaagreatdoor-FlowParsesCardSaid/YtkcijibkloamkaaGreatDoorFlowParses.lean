/- FlowParses: for any text the law returns true, and all read afterwards as before. The library's and the program's tables are as the card ties them. -/
import Derived.Test.YtkcijibkloamkaaGreatDoorRows
import Derived.Test.YtkcijibkloamkaaGreatDoorCards
import Derived.Test.YtkcijibkloamkaaGreatDoorTie
import Derived.Test.YtkcijibkloamkaaGreatDoorFlwRSame
import Derived.Test.YtkcijibkloamkaaGreatDoorFlwRPar
import Derived.Test.YtkcijibkloamkaaGreatDoorFlwTabs
import Derived.WalkKit
import Derived.ProofKit
import Derived.OpenShut
import Derived.ShutString
import Derived.Deep.RegionHeld3
import Derived.ChangeOld
import Derived.Below
import Derived.SevenTiedAt
namespace Go.Proofs.YtkcijibkloamkaaGreatDoor
open Go.ChangeShapes Go.WideShapes Go.ChangeAt Go.RowKit Go.Lib
open Go.ChangeMaps (open_string shut_string)
set_option linter.unusedVariables false
set_option maxRecDepth 100000

set_option maxHeartbeats 3200000 in
theorem parses_in (w : World) (l : List UInt8) (hl : l.length ≤ 1500) (f : FlowD) (i : Nat) (x : Int)
    (HK : Hid (∀ W, Below w.heap.size w W → Calls Tryz.prog 8 #[] W fun e w' => e = .returned (.bool true) ∧ Below W.heap.size W w'))
    (H1 : Hid (∀ W, Below w.heap.size w W → Calls Tryz.prog 9 #[.string (sb l)] W fun e w' => Below W.heap.size W w' ∧ ∃ A c, e = .returned (.tuple #[.agg #[.string (sb f.name), .int .i64 f.deadline, .int .i64 f.priority, .slice A f.tasks.length c], .int .i64 (i : Int), .int .i64 x]) ∧ Tasks w' A c f.tasks))
    (H2 : Hid (∀ W, Below w.heap.size w W → Calls Tryz.prog 10 #[.string (sb l)] W fun e w' => Below W.heap.size W w' ∧ ∃ A c, e = .returned (.tuple #[.agg #[.string (sb f.name), .int .i64 f.deadline, .int .i64 f.priority, .slice A f.tasks.length c], .int .i64 (i : Int), .int .i64 x]) ∧ Tasks w' A c f.tasks))
    (HS : Hid (∀ W A B c d, Tasks W A c f.tasks → Tasks W B d f.tasks → Calls Tryz.prog 11 #[.agg #[.string (sb f.name), .int .i64 f.deadline, .int .i64 f.priority, .slice A f.tasks.length c], .agg #[.string (sb f.name), .int .i64 f.deadline, .int .i64 f.priority, .slice B f.tasks.length d]] W fun e w' => e = .returned (.bool true) ∧ Below W.heap.size W w')) :
    Calls Tryz.prog 3 #[.string (sb l)] w fun e w' => e = .returned (.bool true) ∧ Below w.heap.size w w' := by
  obtain ⟨q, hq⟩ : ∃ q, (sb l).size = q := ⟨_, rfl⟩
  have hq5 : q ≤ 1500 := by rw [← hq, sb_size]; exact hl
  have hq6 : decide ((1500 : Int) < (q : Int)) = false := decide_eq_false (by omega)
  clear hl
  go_enter Tryz.func3, Tryz.ntmps3
  go_wp2_with fail
  refine (H1.out _ (Below.refl _ _)).mono ?_
  rintro e w1 ⟨hb1, A, c, rfl, ht1⟩
  have HB1 := Lib.hid hb1; have HT1 := Lib.hid ht1
  clear hb1 ht1
  go_wp2_with fail
  refine (H2.out _ (blw HB1.out (al _ _))).mono ?_
  rintro e w2 ⟨hb2, B, d, rfl, ht2⟩
  have HB2 := Lib.hid (blw (blw HB1.out (al w1 (flowO f A c))) hb2)
  have HO2 : Hid (w2.heap[w1.heap.size]? = some (flowO f A c)) := Lib.hid ((hb2.block _ (by simp)).trans (heap_alloc_new w1 _))
  have HT2 := Lib.hid (HT1.out.below (blw (al w1 (flowO f A c)) hb2)); have HU2 := Lib.hid ht2
  clear hb2 ht2 HT1 HB1
  generalize w1.heap.size = fb at HO2 ⊢
  have HB3 := Lib.hid (blw HB2.out (al w2 (flowO f B d)))
  have HO3 : Hid ((w2.alloc (flowO f B d)).heap[fb]? = some (flowO f A c)) := Lib.hid (keep_obj (al w2 (flowO f B d)) HO2.out)
  have HP3 : Hid ((w2.alloc (flowO f B d)).heap[w2.heap.size]? = some (flowO f B d)) := Lib.hid (heap_alloc_new w2 _)
  have HT3 := Lib.hid (HT2.out.below (al w2 (flowO f B d))); have HU3 := Lib.hid (HU2.out.below (al w2 (flowO f B d)))
  obtain ⟨p0, p1, p2, p3, hp⟩ := flowO_cells HO2.out
  clear HB2 HT2 HU2
  go_wp2_with (first
    | (go_at_call 11; refine (HS.out _ _ _ _ _ HT3.out HU3.out).mono ?_; rintro e w4 ⟨rfl, hb4⟩; have HB4 := Lib.hid (blw HB3.out hb4); clear hb4)
    | (go_at_call 8; refine (HK.out _ HB4.out).mono ?_; rintro e w5 ⟨rfl, hb5⟩; have HB5 := Lib.hid (blw HB4.out hb5); clear hb5))
  go_ret
  exact ⟨rfl, HB5.out⟩
theorem walk_FlowParses (w : World) (hT : Tb3 w) (s : ByteArray) (hs : s.size ≤ maxLen) :
    Calls Tryz.prog 3 #[.string s] w fun e w' => e = .returned (.bool true) ∧ Below w.heap.size w w' := by
  have HK := Lib.hid fun W (hW : Below w.heap.size w W) => known_any W (hT.below hW)
  by_cases h15 : s.size ≤ 1500
  · obtain ⟨l, rfl⟩ : ∃ l, s = sb l := ⟨s.data.toList, (sb_data s).symm⟩
    rw [sb_size] at h15 hs
    obtain ⟨⟨f, i, x⟩, hp⟩ : ∃ r, parseD l = r := ⟨_, rfl⟩
    refine parses_in w l h15 f i x HK (Lib.hid fun W hW => ?_) (Lib.hid fun W hW => ?_) (Lib.hid fun W A B c d h1 h2 => ?_)
    · have := parse_all l W hs (hT.below hW)
      rw [hp] at this
      exact this
    · have := dparse_any l W h15 (hT.below hW).txt
      rw [hp] at this
      exact this
    · have := rsame_flow f f W A B c d h1 h2
      rwa [eqv_yes rfl] at this
  · obtain ⟨q, hq⟩ : ∃ q, s.size = q := ⟨_, rfl⟩
    have hq6 : decide ((1500 : Int) < (q : Int)) = true := decide_eq_true (by omega)
    clear h15 hs hT
    go_enter Tryz.func3, Tryz.ntmps3
    go_wp2_with fail
    refine (HK.out _ (Below.refl _ _)).mono ?_
    rintro e w1 ⟨rfl, hb1⟩
    go_wp2
    go_ret
    exact ⟨rfl, hb1⟩

namespace flowParses
theorem own : ownKnob Tryz.prog.godebug = none := by kernel_rfl
theorem laidOut : laidOutB Tryz.prog = true := by kernel_rfl
set_option maxRecDepth 100000 in
theorem lifted (os : Os) (started : os.Started) (H : Type) (enc : TypeId × Value → H) :
    ReturnsInHanded {} Tryz.checked os 3 .any (fun w args => (Rows.flowParsesSpec.pre enc Tryz.prog Tryz.f3 [] false w args ∧ laidMetH Tryz.prog laid7 w) ∧ sizedMet enc Tryz.prog Tryz.f3 (OpenSpec.ofChange Rows.flowParsesSpec) false w args)
      (Rows.flowParsesSpec.post enc Tryz.prog Tryz.f3 false true false false) := by
  refine returnsInHanded_of_change_and (C := Tryz.checked) (X := fun w _ => laidMetH Tryz.prog laid7 w) (fun _ _ _ hh h => h.of_heap hh) own started (by kernel_rfl) Tryz.func3
    (ChangeSpec.witness_shaped (enc := enc) (C := Tryz.checked) (os := os) (X := fun w _ => laidMetH Tryz.prog laid7 w) false (World.laidAll Tryz.prog os laid7) #[.string ByteArray.empty] 8 (World.laidAll_os _ _ _)
      (World.shaped_of_ZipB (by kernel_rfl) (by kernel_rfl)) (by kernel_rfl) (by kernel_rfl) (by kernel_rfl)
      (by rw [MakeChecks.laidMetH_plain _ _ _ (by kernel_rfl)]; exact laidMet_laidAll _ (by kernel_rfl) (by kernel_rfl))) ?_
  intro W base args ds gs before hval0 hW _ hsz hL _
  have hval : ∀ (j : Nat) t v, Tryz.f3.params[j]? = some t → args[j]? = some v → Value.okWide Tryz.prog W .any base t v := hval0
  have hW' := hW
  obtain ⟨p, q, hA0, hV, rfl, _, _⟩ := hW
  have hA : DataW.TrodAll enc Tryz.prog W 0 (fun _ => true) true Tryz.f3.params.toList args.toList ds p := hA0
  rw [Tryz.params3] at hA hval
  obtain ⟨v0, vs0, d0, ds0, p0, q0, hargs, rfl, rfl, h0, r0⟩ := trodAll_cons hA
  obtain ⟨rfl, rfl, rfl⟩ := trodAll_nil r0
  obtain rfl : args = #[v0] := by cases args; simp_all
  obtain ⟨rfl, rfl⟩ := trodVars_none hV
  obtain ⟨a0, rfl, rfl, rfl, w0⟩ := open_string Tryz.underlying9 (hval 0 9 v0 rfl rfl) h0
  clear hA0 hval0
  rw [MakeChecks.laidMetH_plain _ _ _ (by kernel_rfl)] at hL
  refine (walk_FlowParses W (tabs_of hL) a0 w0).mono fun e W' ⟨he, bel⟩ => ?_
  subst he
  exact ⟨_, rfl, _, _, _, [], _, [], hW', trodAll_mk1 (shut_bool Tryz.underlying4 _), (trodAll_cons_mk (shut_string Tryz.underlying9 w0) trodAll_mk0), rfl, bel.frame _, fun h => by cases h⟩
theorem said : Rows.FlowParsesSaid :=
  OpenClaim.holds_of_wide 3 Tryz.f3 rfl rfl rfl rfl rfl rfl rfl ⟨rfl, rfl, rfl, rfl, rfl⟩ rfl rfl rfl rfl rfl (by kernel_rfl) Tryz.func3 (by kernel_rfl)
    (of_decide_eq_true (by kernel_rfl)) (by unfold Func.isWrapper; first | (rw [if_pos (by decide +kernel)]; kernel_rfl) | (rw [if_neg (by decide +kernel)]; exact ⟨rfl, rfl⟩))
    (fun os started H enc _ => lifted os started H enc)
theorem plain (f : FuncId) (fn : Func) (hf : Tryz.pinned.checked.prog.funcNamed "timekeeper/timekeeperlaw06.FlowParses" = some f) (hfn : Tryz.pinned.checked.prog.funcs[f]? = some fn) :
    false = Tryz.pinned.checked.prog.looks [] ∧ ∀ (j : Nat) t, fn.params[j]? = some t → Tryz.pinned.checked.prog.wantsStandIn t = false := by
  obtain rfl : f = 3 := Option.some.inj ((show Tryz.prog.funcNamed "timekeeper/timekeeperlaw06.FlowParses" = some 3 by kernel_rfl).symm.trans hf) |>.symm
  obtain rfl : fn = Tryz.f3 := (Option.some.inj (Tryz.func3.symm.trans hfn)).symm
  refine ⟨by kernel_rfl, fun j t ht => ?_⟩
  rw [Tryz.params3] at ht
  have hm : t ∈ [9] := by simpa using Array.mem_of_getElem? ht
  have hall : ([9].all fun u => !Tryz.prog.wantsStandIn u) = true := by kernel_rfl
  exact (show Tryz.prog.wantsStandIn t = false by simpa using List.all_eq_true.1 hall t hm)
theorem proved : Rows.FlowParsesCardSaid :=
  Claim7.holds_tied_plain_at .later [] _ _ _ _ said (fun _ h => by cases h) (by kernel_rfl) (fun _ h => by cases h) flowParses_row_tie rfl ⟨rfl, rfl⟩ (by kernel_rfl) rfl plain (by kernel_rfl)
#print axioms proved
end flowParses
end Go.Proofs.YtkcijibkloamkaaGreatDoor

