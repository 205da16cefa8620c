/- SplitEarliest: for any workflow and any number, the law returns true, and all read afterwards as before. The library's and the program's tables are as the card ties them. -/
import Derived.Test.YtmnehhphabiffaaDoorRows
import Derived.Test.YtmnehhphabiffaaDoorCards
import Derived.Test.YtmnehhphabiffaaDoorTie
import Derived.Test.YtmnehhphabiffaaDoorSplG
import Derived.Test.YtmnehhphabiffaaDoorSplH
import Derived.WalkKit
import Derived.ProofKit
import Derived.OpenShut
import Derived.ShutString
import Derived.Deep.RegionHeld3
import Derived.ChangeOld
import Derived.Below
import Derived.SevenTiedAt
namespace Go.Proofs.YtmnehhphabiffaaDoor
open Go.ChangeShapes Go.WideShapes Go.ChangeAt Go.RowKit Go.Lib
open Go.ChangeMaps (open_string shut_string)
open Dag (Ints)
set_option linter.unusedVariables false
set_option maxRecDepth 100000

theorem ear_wins {f : FlowD} {now : Int} (h : earE f now = 0) : winE f now (now + lengthV f) = 0 ∧ (winE f now (now + lengthV f - 1) = 60 ∨ (now + lengthV f = 0 ∧ winE f now (now + lengthV f - 1) = 2)) := by
  obtain ⟨h1, h2, h3⟩ := ear_yes h
  have hb := lenV_bd f
  have i1 := isT_iff.1 h1
  unfold maxT at h3
  have ht : Clk.isT (now + lengthV f) = true := isT_iff.2 ⟨by omega, h3⟩
  refine ⟨win_iff.2 ⟨h1, ht, h, Int.le_refl _⟩, ?_⟩
  by_cases h0 : now + lengthV f = 0
  · refine Or.inr ⟨h0, ?_⟩
    unfold winE
    rw [if_neg (fun q => by have := isT_iff.1 q.2; omega)]
  · refine Or.inl ?_
    unfold winE
    rw [if_pos ⟨h1, isT_iff.2 ⟨by omega, by omega⟩⟩, if_pos h, if_pos (by omega)]
set_option maxHeartbeats 3200000 in
theorem walk_SplitEarliest (w : World) (hT : Tb3 w) (f : FlowD) (A : Option Addr) (c : Nat) (h : Tasks w A c f.tasks) (hs : Small f) (now : Int) (hw1 : (Lit.int .i64 now).wf = true) :
    Calls Tryd.prog 8 #[.agg #[.string (sb f.name), .int .i64 f.deadline, .int .i64 f.priority, .slice A f.tasks.length c], .int .i64 now] w fun e w' => e = .returned (.bool true) ∧ Below w.heap.size w w' := by
  have hk := fun W (hW : Below w.heap.size w W) => known8_any W (hT.below hW)
  have hl := fun W (hW : Below w.heap.size w W) => long8_any f A c W (h.below hW) hs
  have HK := Lib.hid hk
  clear hk
  cases hlong : longD f
  case true =>
    rw [hlong] at hl
    have HL := Lib.hid hl
    clear hl hw1
    go_enter Tryd.func8, Tryd.ntmps8
    go_wp2_with fail
    refine (HL.out _ (al _ _)).mono ?_
    rintro e w1 ⟨rfl, hb1⟩
    have HB1 := Lib.hid (blw (al w (flowO f A c)) hb1)
    clear hb1
    go_wp2_with fail
    refine (HK.out _ HB1.out).mono ?_
    rintro e w2 ⟨rfl, hb2⟩
    go_wp2
    go_ret
    exact ⟨rfl, blw HB1.out hb2⟩
  rw [hlong] at hl
  have HL := Lib.hid hl
  have hlen := (longD_no hlong).1
  obtain ⟨e0, he0⟩ : ∃ e0, earE f now = e0 := ⟨_, rfl⟩
  obtain ⟨v0, hv0⟩ : ∃ v0, earV f now = v0 := ⟨_, rfl⟩
  have HE := Lib.hid fun W (hW : Below w.heap.size w W) => ear_any f A c now W (fla_of (h.below hW) (hT.below hW) hlong) v0 e0 hv0 he0
  have HR := Lib.hid fun W (hW : Below w.heap.size w W) => rear_any f A c now W (fla_of (h.below hW) (hT.below hW) hlong) v0 e0 hv0 he0
  have HW := Lib.hid fun (b : Int) W (hW : Below w.heap.size w W) => windows_any f A c now b W (fla_of (h.below hW) (hT.below hW) hlong)
  have HV : Hid (earV f now = v0) := Lib.hid hv0
  have HEE := Lib.hid he0
  clear hl h hT hw1 hlong hv0
  go_enter Tryd.func8, Tryd.ntmps8
  go_wp2_with fail
  refine (HL.out _ (al _ _)).mono ?_
  rintro e w1 ⟨rfl, hb1⟩
  have HB1 := Lib.hid (blw (al w (flowO f A c)) hb1)
  have HO1 : Hid (w1.heap[w.heap.size]? = some (flowO f A c)) := Lib.hid ((hb1.block _ (by simp)).trans (heap_alloc_new w _))
  clear hb1
  obtain ⟨p0, p1, p2, p3, hp⟩ := flowO_cells HO1.out
  go_wp2_with fail
  refine (HE.out _ HB1.out).mono ?_
  rintro e w2 ⟨rfl, hb2⟩
  have HB2 := Lib.hid (blw HB1.out hb2)
  have HO2 : Hid (w2.heap[w.heap.size]? = some (flowO f A c)) := Lib.hid ((hb2.block _ (Dag.blk_lt HO1.out)).trans HO1.out)
  clear hb2 p0 p1 p2 p3 hp HO1
  obtain ⟨p0, p1, p2, p3, hp⟩ := flowO_cells HO2.out
  go_wp2_with fail
  refine (HR.out _ HB2.out).mono ?_
  rintro e w3 ⟨rfl, hb3⟩
  have HB3 := Lib.hid (blw HB2.out hb3)
  have HO3 : Hid (w3.heap[w.heap.size]? = some (flowO f A c)) := Lib.hid ((hb3.block _ (Dag.blk_lt HO2.out)).trans HO2.out)
  clear hb3 p0 p1 p2 p3 hp HO2
  obtain ⟨p0, p1, p2, p3, hp⟩ := flowO_cells HO3.out
  by_cases h0 : e0 = 0
  case neg =>
    have hv : v0 = 0 := by rw [← HV.out]; unfold earV; rw [HEE.out, if_neg h0]
    subst hv
    have hxn : (e0 != 0) = true := by simp [h0]
    clear h0 he0
    go_wp2_with fail
    refine (HK.out _ HB3.out).mono ?_
    rintro e wk ⟨rfl, hbk⟩
    go_wp2
    go_ret
    exact ⟨rfl, blw HB3.out hbk⟩
  subst h0
  have hv : v0 = now + lengthV f := by rw [← HV.out]; unfold earV; rw [he0, if_pos rfl]
  obtain ⟨g1, g2⟩ := ear_wins he0
  rw [← hv] at g1 g2
  have hvb : 0 ≤ v0 ∧ v0 ≤ 1099511627775 := by
    obtain ⟨q1, _, q3⟩ := ear_yes he0
    have q4 := isT_iff.1 q1
    have q5 := lenV_bd f
    unfold maxT at q3
    omega
  have G1 := Lib.hid g1; have G2 := Lib.hid g2
  clear he0 hv g1 g2
  go_wp2_with fail
  refine (HW.out v0 _ HB3.out).mono ?_
  rintro e w4 ⟨A4, c4, rfl, _, hb4⟩
  have HB4 := Lib.hid (blw HB3.out hb4)
  have HO4 : Hid (w4.heap[w.heap.size]? = some (flowO f A c)) := Lib.hid ((hb4.block _ (Dag.blk_lt HO3.out)).trans HO3.out)
  clear hb4 p0 p1 p2 p3 hp HO3
  obtain ⟨p0, p1, p2, p3, hp⟩ := flowO_cells HO4.out
  rw [G1.out]
  go_wp2_with fail
  refine (HW.out (v0 - 1) _ HB4.out).mono ?_
  rintro e w5 ⟨A5, c5, rfl, _, hb5⟩
  have HB5 := Lib.hid (blw HB4.out hb5)
  have HO5 : Hid (w5.heap[w.heap.size]? = some (flowO f A c)) := Lib.hid ((hb5.block _ (Dag.blk_lt HO4.out)).trans HO4.out)
  clear hb5 p0 p1 p2 p3 hp HO4
  obtain ⟨p0, p1, p2, p3, hp⟩ := flowO_cells HO5.out
  rcases G2.out with g2 | ⟨g2, g3⟩
  · rw [g2]
    clear g2
    go_wp2_with fail
    refine (HK.out _ HB5.out).mono ?_
    rintro e wk ⟨rfl, hbk⟩
    go_wp2
    go_ret
    exact ⟨rfl, blw HB5.out hbk⟩
  · rw [g3]
    subst g2
    clear g3
    go_wp2_with fail
    refine (HK.out _ HB5.out).mono ?_
    rintro e wk ⟨rfl, hbk⟩
    go_wp2
    go_ret
    exact ⟨rfl, blw HB5.out hbk⟩

namespace splitEarliest
theorem own : ownKnob Tryd.prog.godebug = none := by kernel_rfl
theorem laidOut : laidOutB Tryd.prog = true := by kernel_rfl
set_option maxRecDepth 100000 in
theorem lifted (os : Os) (started : os.Started) (H : Type) (enc : TypeId × Value → H) :
    ReturnsInHanded {} Tryd.checked os 8 .any (fun w args => (Rows.splitEarliestSpec.pre enc Tryd.prog Tryd.f8 [] false w args ∧ laidMetH Tryd.prog laid7 w) ∧ sizedMet enc Tryd.prog Tryd.f8 (OpenSpec.ofChange Rows.splitEarliestSpec) false w args)
      (Rows.splitEarliestSpec.post enc Tryd.prog Tryd.f8 false true false false) := by
  refine returnsInHanded_of_change_and (C := Tryd.checked) (X := fun w _ => laidMetH Tryd.prog laid7 w) (fun _ _ _ hh h => h.of_heap hh) own started (by kernel_rfl) Tryd.func8
    (ChangeSpec.witness_shaped (enc := enc) (C := Tryd.checked) (os := os) (X := fun w _ => laidMetH Tryd.prog laid7 w) false (World.laidAll Tryd.prog os laid7) #[.agg #[.string ByteArray.empty, .int .i64 0, .int .i64 0, .slice none 0 0], .int .i64 0] 8 (World.laidAll_os _ _ _)
      (World.shaped_of_ZipB (by kernel_rfl) (by kernel_rfl)) (by kernel_rfl) (by kernel_rfl) (by kernel_rfl)
      (by rw [MakeChecks.laidMetH_plain _ _ _ (by kernel_rfl)]; exact laidMet_laidAll _ (by kernel_rfl) (by kernel_rfl))) ?_
  intro W base args ds gs before hval0 hW _ hsz hL _
  have hval : ∀ (j : Nat) t v, Tryd.f8.params[j]? = some t → args[j]? = some v → Value.okWide Tryd.prog W .any base t v := hval0
  have hW' := hW
  obtain ⟨p, q, hA0, hV, rfl, _, _⟩ := hW
  have hA : DataW.TrodAll enc Tryd.prog W 0 (fun _ => true) true Tryd.f8.params.toList args.toList ds p := hA0
  rw [Tryd.params8] at hA hval
  obtain ⟨v0, vs0, d0, ds0, p0, q0, hargs, rfl, rfl, h0, r0⟩ := trodAll_cons hA
  obtain ⟨v1, vs1, d1, ds1, p1, q1, rfl, rfl, rfl, h1, r1⟩ := trodAll_cons r0
  obtain ⟨rfl, rfl, rfl⟩ := trodAll_nil r1
  obtain rfl : args = #[v0, v1] := by cases args; simp_all
  obtain ⟨rfl, rfl⟩ := trodVars_none hV
  have k0 := h0
  have lt0 : ∀ x ∈ p0, x.block < W.heap.size := by obtain ⟨m, hm⟩ := k0; exact DataW.trod_lt m _ _ _ hm
  obtain ⟨cs0, e0, _⟩ := okWide_struct Tryd.underlying24 (hval 0 24 v0 rfl rfl)
  obtain ⟨fuel0, hf0⟩ := h0
  rw [show v0.cells.toList = cs0.toList from by rw [e0]; rfl] at hf0
  obtain ⟨z0, A0, c0, hcs0, w0, s0⟩ := flow_arg hf0
  obtain rfl : cs0 = #[.string (sb z0.name), .int .i64 z0.deadline, .int .i64 z0.priority, .slice A0 z0.tasks.length c0] := by rw [← Array.toArray_toList (xs := cs0), hcs0]
  subst e0
  have s0 := s0 (weights_at hsz (j := 0) (t := 24) rfl rfl)
  clear hf0 hcs0
  obtain ⟨a1, rfl, rfl, rfl, w1⟩ := open_int Tryd.underlying3 (hval 1 3 v1 rfl rfl) h1
  clear hA0 hval0
  rw [MakeChecks.laidMetH_plain _ _ _ (by kernel_rfl)] at hL
  refine (walk_SplitEarliest W (tabs_of hL) z0 A0 c0 w0 s0 a1 w1).mono fun e W' ⟨he, bel⟩ => ?_
  subst he
  exact ⟨_, rfl, _, _, _, [], _, [], hW', trodAll_mk1 (shut_bool Tryd.underlying4 _), (trodAll_cons_mk (Below.trod laidOut (by kernel_rfl) (of_decide_eq_true (by kernel_rfl)) k0 bel lt0) (trodAll_cons_mk (shut_int Tryd.underlying3 w1) trodAll_mk0)), rfl, bel.frame _, fun h => by cases h⟩
theorem said : Rows.SplitEarliestSaid :=
  OpenClaim.holds_of_wide 8 Tryd.f8 rfl rfl rfl rfl rfl rfl rfl ⟨rfl, rfl, rfl, rfl, rfl⟩ rfl rfl rfl rfl rfl (by kernel_rfl) Tryd.func8 (by kernel_rfl)
    (of_decide_eq_true (by kernel_rfl)) (by unfold Func.isWrapper; first | (rw [if_pos (by decide +kernel)]; kernel_rfl) | (rw [if_neg (by decide +kernel)]; exact ⟨rfl, rfl⟩))
    (fun os started H enc _ => lifted os started H enc)
theorem plain (f : FuncId) (fn : Func) (hf : Tryd.pinned.checked.prog.funcNamed "timekeeper/timekeeperlaw08.SplitEarliest" = some f) (hfn : Tryd.pinned.checked.prog.funcs[f]? = some fn) :
    false = Tryd.pinned.checked.prog.looks [] ∧ ∀ (j : Nat) t, fn.params[j]? = some t → Tryd.pinned.checked.prog.wantsStandIn t = false := by
  obtain rfl : f = 8 := Option.some.inj ((show Tryd.prog.funcNamed "timekeeper/timekeeperlaw08.SplitEarliest" = some 8 by kernel_rfl).symm.trans hf) |>.symm
  obtain rfl : fn = Tryd.f8 := (Option.some.inj (Tryd.func8.symm.trans hfn)).symm
  refine ⟨by kernel_rfl, fun j t ht => ?_⟩
  rw [Tryd.params8] at ht
  have hm : t ∈ [24, 3] := by simpa using Array.mem_of_getElem? ht
  have hall : ([24, 3].all fun u => !Tryd.prog.wantsStandIn u) = true := by kernel_rfl
  exact (show Tryd.prog.wantsStandIn t = false by simpa using List.all_eq_true.1 hall t hm)
theorem proved : Rows.SplitEarliestCardSaid :=
  Claim7.holds_tied_plain_at .later [] _ _ _ _ said (fun _ h => by cases h) (by kernel_rfl) (fun _ h => by cases h) splitEarliest_row_tie rfl ⟨rfl, rfl⟩ (by kernel_rfl) rfl plain (by kernel_rfl)
#print axioms proved
end splitEarliest
end Go.Proofs.YtmnehhphabiffaaDoor

