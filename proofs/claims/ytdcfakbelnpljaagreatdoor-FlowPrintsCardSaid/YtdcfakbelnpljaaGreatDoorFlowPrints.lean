/- FlowPrints: for any workflow the law returns true, and all read afterwards as before. The library's and the program's tables are as the card ties them. -/
import Derived.Test.YtdcfakbelnpljaaGreatDoorRows
import Derived.Test.YtdcfakbelnpljaaGreatDoorCards
import Derived.Test.YtdcfakbelnpljaaGreatDoorTie
import Derived.Test.YtdcfakbelnpljaaGreatDoorFlwRPrn
import Derived.Test.YtdcfakbelnpljaaGreatDoorFlwTabs
import Derived.WalkKit
import Derived.ProofKit
import Derived.OpenShut
import Derived.ShutString
import Derived.Deep.RegionHeld3
import Derived.ChangeOld
import Derived.Below
import Derived.SevenTiedAt
namespace Go.Proofs.YtdcfakbelnpljaaGreatDoor
open Go.ChangeShapes Go.WideShapes Go.ChangeAt Go.RowKit Go.Lib
open Go.ChangeMaps (open_string shut_string)
set_option linter.unusedVariables false
set_option maxRecDepth 100000

theorem four_keep {f : FlowD} {A : Option Addr} {c fb : Nat} {W W' : World} (h : W.cell? ⟨fb, 0, none⟩ = some (.string (sb f.name)) ∧ W.cell? ⟨fb, 1, none⟩ = some (.int .i64 f.deadline) ∧ W.cell? ⟨fb, 2, none⟩ = some (.int .i64 f.priority) ∧ W.cell? ⟨fb, 3, none⟩ = some (.slice A f.tasks.length c)) (hb : Below W.heap.size W W') : W'.cell? ⟨fb, 0, none⟩ = some (.string (sb f.name)) ∧ W'.cell? ⟨fb, 1, none⟩ = some (.int .i64 f.deadline) ∧ W'.cell? ⟨fb, 2, none⟩ = some (.int .i64 f.priority) ∧ W'.cell? ⟨fb, 3, none⟩ = some (.slice A f.tasks.length c) := by
  obtain ⟨h0, h1, h2, h3⟩ := h
  exact ⟨keep_cell hb h0, keep_cell hb h1, keep_cell hb h2, keep_cell hb h3⟩

set_option maxHeartbeats 3200000 in
theorem walk_FlowPrints (w : World) (hT : Tb3 w) (f : FlowD) (A : Option Addr) (c : Nat) (h : Tasks w A c f.tasks) (hs : Small f) :
    Calls Tryz.prog 4 #[.agg #[.string (sb f.name), .int .i64 f.deadline, .int .i64 f.priority, .slice A f.tasks.length c]] w fun e w' => e = .returned (.bool true) ∧ Below w.heap.size w w' := by
  have hk := fun W (hW : Below w.heap.size w W) => known_any W (hT.below hW)
  have hl := fun W (hW : Below w.heap.size w W) => long_any f A c W (h.below hW) hs
  have HK := Lib.hid hk
  cases hlong : longD f
  · rw [hlong] at hl
    obtain ⟨hn, hz⟩ := longD_no hlong
    obtain ⟨hfn, htn⟩ := longD_names hlong
    have HL := Lib.hid hl
    have C1 := Lib.hid fun W (hW : Below w.heap.size w W) => check30 f A c W (h.below hW) (hT.below hW) (by omega) (fun t ht => by have := (htn t ht).1; omega) hn
    have C2 := Lib.hid fun W (hW : Below w.heap.size w W) => rcheck_any f A c W (h.below hW) (hT.below hW).txt (by omega) (fun t ht => by have := (htn t ht).1; omega) hn
    have C3 := Lib.hid fun W (hW : Below w.heap.size w W) => print30 f A c W (h.below hW) (hT.below hW) (by omega) (fun t ht => by have := (htn t ht).1; omega) hn
    have C4 := Lib.hid fun W (hW : Below w.heap.size w W) => rprint_any f A c W (h.below hW) (hT.below hW).txt (by omega) (fun t ht => by have := (htn t ht).1; omega) hn
    clear hl hk h hT
    obtain ⟨S, hS⟩ : ∃ S, sb (if checkE f = 0 then printL f else []) = S := ⟨_, rfl⟩
    rw [hS] at C3 C4
    obtain ⟨x, hx⟩ : ∃ x, checkE f = x := ⟨_, rfl⟩
    rw [hx] at C1 C2 C3 C4
    clear hx hS
    go_enter Tryz.func4, Tryz.ntmps4
    go_wp2_with fail
    refine (HL.out _ (al _ _)).mono ?_
    rintro e w1 ⟨rfl, hb1⟩
    have HB1 := Lib.hid (blw (al w (flowO f A c)) hb1)
    have HO1 : Hid (w1.heap[w.heap.size]? = some (flowO f A c)) := Lib.hid ((hb1.block _ (by simp)).trans (heap_alloc_new w _))
    clear hb1
    generalize eF : w.heap.size = fb at HO1 ⊢
    obtain ⟨p0, p1, p2, p3, hp⟩ := flowO_cells HO1.out
    go_wp2_with fail
    refine (C3.out _ HB1.out).mono ?_
    rintro e w2 ⟨rfl, hb2⟩
    have HB2 := Lib.hid (blw HB1.out hb2)
    have HO2 := Lib.hid (keep_obj hb2 HO1.out)
    clear hb2 p0 p1 p2 p3 hp
    obtain ⟨p0, p1, p2, p3, hp⟩ := flowO_cells HO2.out
    go_wp2_with fail
    refine (C4.out _ HB2.out).mono ?_
    rintro e w3 ⟨rfl, hb3⟩
    have HB3 := Lib.hid (blw HB2.out hb3)
    have HO3 := Lib.hid (keep_obj hb3 HO2.out)
    clear hb3 p0 p1 p2 p3 hp
    obtain ⟨p0, p1, p2, p3, hp⟩ := flowO_cells HO3.out
    have HQ0 : Hid (Below w.heap.size w w3.drew) := Lib.hid HB3.out.drew
    have s0 : w3.drew.cell? ⟨fb, 0, none⟩ = some (.string (sb f.name)) ∧ w3.drew.cell? ⟨fb, 1, none⟩ = some (.int .i64 f.deadline) ∧ w3.drew.cell? ⟨fb, 2, none⟩ = some (.int .i64 f.priority) ∧ w3.drew.cell? ⟨fb, 3, none⟩ = some (.slice A f.tasks.length c) := ⟨p0, p1, p2, p3⟩
    clear p0 p1 p2 p3
    go_wp2_with fail
    go_region_held3 (fun (W : World) => W.cell? ⟨fb, 0, none⟩ = some (.string (sb f.name)) ∧ W.cell? ⟨fb, 1, none⟩ = some (.int .i64 f.deadline) ∧ W.cell? ⟨fb, 2, none⟩ = some (.int .i64 f.priority) ∧ W.cell? ⟨fb, 3, none⟩ = some (.slice A f.tasks.length c)) (first | exact s0 | exact s1 | exact s2 | exact s3) (first
      | (go_at_call 19; refine (C1.out _ HQ0.out).mono ?_; rintro e x1 ⟨rfl, hb1⟩; have s1 := four_keep s0 hb1; have HQ1 := Lib.hid (blw HQ0.out hb1))
      | (go_at_call 20; refine (C2.out _ HQ1.out).mono ?_; rintro e x2 ⟨rfl, hb2⟩; have s2 := four_keep s1 hb2; have HQ2 := Lib.hid (blw HQ1.out hb2))
      | (go_at_call 12; refine (HK.out _ HQ2.out).mono ?_; rintro e x3 ⟨rfl, hb3⟩; have s3 := four_keep s2 hb3; have HQ3 := Lib.hid (blw HQ2.out hb3)))
    all_goals go_wp2
    all_goals go_ret
    all_goals exact ⟨rfl, HQ3.out⟩
  · rw [hlong] at hl
    have HL := Lib.hid hl
    clear hl hk
    go_enter Tryz.func4, Tryz.ntmps4
    go_wp2_with fail
    refine (HL.out _ (al _ _)).mono ?_
    rintro e w1 ⟨rfl, hb1⟩
    have HB1 := Lib.hid (blw (al w (flowO f A c)) hb1)
    clear hb1
    go_wp2_with fail
    refine (HK.out _ HB1.out).mono ?_
    rintro e w2 ⟨rfl, hb2⟩
    go_wp2
    go_ret
    exact ⟨rfl, blw HB1.out hb2⟩

namespace flowPrints
theorem own : ownKnob Tryz.prog.godebug = none := by kernel_rfl
theorem laidOut : laidOutB Tryz.prog = true := by kernel_rfl
set_option maxRecDepth 100000 in
theorem lifted (os : Os) (started : os.Started) (H : Type) (enc : TypeId × Value → H) :
    ReturnsInHanded {} Tryz.checked os 4 .any (fun w args => (Rows.flowPrintsSpec.pre enc Tryz.prog Tryz.f4 [] false w args ∧ laidMetH Tryz.prog laid7 w) ∧ sizedMet enc Tryz.prog Tryz.f4 (OpenSpec.ofChange Rows.flowPrintsSpec) false w args)
      (Rows.flowPrintsSpec.post enc Tryz.prog Tryz.f4 false true false false) := by
  refine returnsInHanded_of_change_and (C := Tryz.checked) (X := fun w _ => laidMetH Tryz.prog laid7 w) (fun _ _ _ hh h => h.of_heap hh) own started (by kernel_rfl) Tryz.func4
    (ChangeSpec.witness_shaped (enc := enc) (C := Tryz.checked) (os := os) (X := fun w _ => laidMetH Tryz.prog laid7 w) false (World.laidAll Tryz.prog os laid7) #[.agg #[.string ByteArray.empty, .int .i64 0, .int .i64 0, .slice none 0 0]] 8 (World.laidAll_os _ _ _)
      (World.shaped_of_ZipB (by kernel_rfl) (by kernel_rfl)) (by kernel_rfl) (by kernel_rfl) (by kernel_rfl)
      (by rw [MakeChecks.laidMetH_plain _ _ _ (by kernel_rfl)]; exact laidMet_laidAll _ (by kernel_rfl) (by kernel_rfl))) ?_
  intro W base args ds gs before hval0 hW _ hsz hL _
  have hval : ∀ (j : Nat) t v, Tryz.f4.params[j]? = some t → args[j]? = some v → Value.okWide Tryz.prog W .any base t v := hval0
  have hW' := hW
  obtain ⟨p, q, hA0, hV, rfl, _, _⟩ := hW
  have hA : DataW.TrodAll enc Tryz.prog W 0 (fun _ => true) true Tryz.f4.params.toList args.toList ds p := hA0
  rw [Tryz.params4] at hA hval
  obtain ⟨v0, vs0, d0, ds0, p0, q0, hargs, rfl, rfl, h0, r0⟩ := trodAll_cons hA
  obtain ⟨rfl, rfl, rfl⟩ := trodAll_nil r0
  obtain rfl : args = #[v0] := by cases args; simp_all
  obtain ⟨rfl, rfl⟩ := trodVars_none hV
  have k0 := h0
  have lt0 : ∀ x ∈ p0, x.block < W.heap.size := by obtain ⟨m, hm⟩ := k0; exact DataW.trod_lt m _ _ _ hm
  obtain ⟨cs0, e0, _⟩ := okWide_struct Tryz.underlying25 (hval 0 25 v0 rfl rfl)
  obtain ⟨fuel0, hf0⟩ := h0
  rw [show v0.cells.toList = cs0.toList from by rw [e0]; rfl] at hf0
  obtain ⟨z0, A0, c0, hcs0, w0, s0⟩ := flow_arg hf0
  obtain rfl : cs0 = #[.string (sb z0.name), .int .i64 z0.deadline, .int .i64 z0.priority, .slice A0 z0.tasks.length c0] := by rw [← Array.toArray_toList (xs := cs0), hcs0]
  subst e0
  have s0 := s0 (weights_at hsz (j := 0) (t := 25) rfl rfl)
  clear hf0 hcs0
  clear hA0 hval0
  rw [MakeChecks.laidMetH_plain _ _ _ (by kernel_rfl)] at hL
  refine (walk_FlowPrints W (tabs_of hL) z0 A0 c0 w0 s0).mono fun e W' ⟨he, bel⟩ => ?_
  subst he
  exact ⟨_, rfl, _, _, _, [], _, [], hW', trodAll_mk1 (shut_bool Tryz.underlying4 _), (trodAll_cons_mk (Below.trod laidOut (by kernel_rfl) (of_decide_eq_true (by kernel_rfl)) k0 bel lt0) trodAll_mk0), rfl, bel.frame _, fun h => by cases h⟩
theorem said : Rows.FlowPrintsSaid :=
  OpenClaim.holds_of_wide 4 Tryz.f4 rfl rfl rfl rfl rfl rfl rfl ⟨rfl, rfl, rfl, rfl, rfl⟩ rfl rfl rfl rfl rfl (by kernel_rfl) Tryz.func4 (by kernel_rfl)
    (of_decide_eq_true (by kernel_rfl)) (by unfold Func.isWrapper; first | (rw [if_pos (by decide +kernel)]; kernel_rfl) | (rw [if_neg (by decide +kernel)]; exact ⟨rfl, rfl⟩))
    (fun os started H enc _ => lifted os started H enc)
theorem plain (f : FuncId) (fn : Func) (hf : Tryz.pinned.checked.prog.funcNamed "timekeeper/timekeeperlaw06.FlowPrints" = some f) (hfn : Tryz.pinned.checked.prog.funcs[f]? = some fn) :
    false = Tryz.pinned.checked.prog.looks [] ∧ ∀ (j : Nat) t, fn.params[j]? = some t → Tryz.pinned.checked.prog.wantsStandIn t = false := by
  obtain rfl : f = 4 := Option.some.inj ((show Tryz.prog.funcNamed "timekeeper/timekeeperlaw06.FlowPrints" = some 4 by kernel_rfl).symm.trans hf) |>.symm
  obtain rfl : fn = Tryz.f4 := (Option.some.inj (Tryz.func4.symm.trans hfn)).symm
  refine ⟨by kernel_rfl, fun j t ht => ?_⟩
  rw [Tryz.params4] at ht
  have hm : t ∈ [25] := by simpa using Array.mem_of_getElem? ht
  have hall : ([25].all fun u => !Tryz.prog.wantsStandIn u) = true := by kernel_rfl
  exact (show Tryz.prog.wantsStandIn t = false by simpa using List.all_eq_true.1 hall t hm)
theorem proved : Rows.FlowPrintsCardSaid :=
  Claim7.holds_tied_plain_at .later [] _ _ _ _ said (fun _ h => by cases h) (by kernel_rfl) (fun _ h => by cases h) flowPrints_row_tie rfl ⟨rfl, rfl⟩ (by kernel_rfl) rfl plain (by kernel_rfl)
#print axioms proved
end flowPrints
end Go.Proofs.YtdcfakbelnpljaaGreatDoor
