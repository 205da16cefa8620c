/- RankWays: for any workflow, the law returns true, and all read afterwards as before. The library's and the program's tables are as the card ties them. -/
import Derived.Test.YtaiolhanbjndcaaGreatDoorRows
import Derived.Test.YtaiolhanbjndcaaGreatDoorCards
import Derived.Test.YtaiolhanbjndcaaGreatDoorTie
import Derived.Test.YtaiolhanbjndcaaGreatDoorRnkF
import Derived.Test.YtaiolhanbjndcaaGreatDoorMBst
import Derived.Test.YtaiolhanbjndcaaGreatDoorRnkOrd
import Derived.Test.YtaiolhanbjndcaaGreatDoorMRnk
import Derived.Test.YtaiolhanbjndcaaGreatDoorMTab
import Derived.WalkKit
import Derived.ProofKit
import Derived.OpenShut
import Derived.ShutString
import Derived.Deep.RegionHeld3
import Derived.ChangeOld
import Derived.Below
import Derived.SevenTiedAt
namespace Go.Proofs.YtaiolhanbjndcaaGreatDoor
open Go.ChangeShapes Go.WideShapes Go.ChangeAt Go.RowKit Go.Lib
open Go.ChangeMaps (open_string shut_string)
open Dag (Ints num)
set_option linter.unusedVariables false
set_option maxRecDepth 100000

set_option maxHeartbeats 3200000 in
theorem walk_RankWays (w : World) (hT : Tb3 w) (f : FlowD) (A : Option Addr) (c : Nat) (h : Tasks w A c f.tasks) (hs : Small f) :
    Calls Tryz.prog 4 #[.agg #[.string (sb f.name), .int .i64 f.deadline, .int .i64 f.priority, .slice A f.tasks.length c]] w fun e w' => e = .returned (.bool true) ∧ Below w.heap.size w w' := by
  have hk := fun W (hW : Below w.heap.size w W) => known7_any W (hT.below hW)
  have hl := fun W (hW : Below w.heap.size w W) => long7_any f A c W (h.below hW) hs
  have HK := Lib.hid hk
  clear hk
  cases hlong : longD f
  case true =>
    rw [hlong] at hl
    have HL := Lib.hid hl
    clear hl
    go_enter Tryz.func4, Tryz.ntmps4
    go_wp2_with fail
    refine (HL.out _ (al _ _)).mono ?_
    rintro e w1 ⟨rfl, hb1⟩
    have HB1 := Lib.hid (blw (al w (flowO f A c)) hb1)
    clear hb1
    go_wp2_with fail
    refine (HK.out _ HB1.out).mono ?_
    rintro e w2 ⟨rfl, hb2⟩
    go_wp2
    go_ret
    exact ⟨rfl, blw HB1.out hb2⟩
  rw [hlong] at hl
  have HL := Lib.hid hl
  have hlen := (longD_no hlong).1
  have HFL := Lib.hid fun W (hW : Below w.heap.size w W) => fla_of7 (h.below hW) (hT.below hW) hlong
  have HLO := Lib.hid hlong
  have C1 := Lib.hid fun W (hW : Below w.heap.size w W) => length_any f A c W (HFL.out W hW)
  have C2 := Lib.hid fun W (hW : Below w.heap.size w W) => rlength_any f A c W (h.below hW) (hT.below hW).1 (by have := (longD_names hlong).1; omega) (fun t ht => by have := ((longD_names hlong).2 t ht).1; omega) hlen
  have C3 := Lib.hid fun W (hW : Below w.heap.size w W) => path_any f A c W (HFL.out W hW)
  have C4 := Lib.hid fun W (hW : Below w.heap.size w W) => rpath_any f A c W (h.below hW) (hT.below hW).1 (by have := (longD_names hlong).1; omega) (fun t ht => by have := ((longD_names hlong).2 t ht).1; omega) hlen
  have C5 := Lib.hid fun W (hW : Below w.heap.size w W) => orderP_any f A c W (HFL.out W hW)
  have C6 := Lib.hid fun W (hW : Below w.heap.size w W) => rrorder_any f A c W (h.below hW) (hT.below hW).1 (by have := (longD_names hlong).1; omega) (fun t ht => by have := ((longD_names hlong).2 t ht).1; omega) hlen
  obtain ⟨n0, hn0⟩ : ∃ v, lengthV f = v := ⟨_, rfl⟩
  obtain ⟨e0, he0⟩ : ∃ v, rankE f (upD f.tasks) = v := ⟨_, rfl⟩
  obtain ⟨v1, hv1⟩ : ∃ v, pathV f = v := ⟨_, rfl⟩
  obtain ⟨v2, hv2⟩ : ∃ v, orderV f = v := ⟨_, rfl⟩
  rw [hn0, he0] at C1 C2
  rw [hv1, he0] at C3 C4
  rw [hv2, he0] at C5 C6
  clear hl h hT hs hlong hn0 he0 hv1 hv2
  have b1 : (n0 == n0) = true := by simp
  have b2 : (e0 == e0) = true := by simp
  go_enter Tryz.func4, Tryz.ntmps4
  go_wp2_with fail
  refine (HL.out _ (al _ _)).mono ?_
  rintro e w1 ⟨rfl, hb1⟩
  have HB1 := Lib.hid (blw (al w (flowO f A c)) hb1)
  have HO1 : Hid (w1.heap[w.heap.size]? = some (flowO f A c)) := Lib.hid ((hb1.block _ (by simp)).trans (heap_alloc_new w _))
  clear hb1
  obtain ⟨p0, p1, p2, p3, hp⟩ := flowO_cells HO1.out
  go_wp2_with fail
  refine (C1.out _ HB1.out).mono ?_
  rintro e w2 ⟨rfl, hb⟩
  have HB2 := Lib.hid (blw HB1.out hb)
  have HO2 : Hid (w2.heap[w.heap.size]? = some (flowO f A c)) := Lib.hid ((hb.block _ (Dag.blk_lt HO1.out)).trans HO1.out)
  clear hb p0 p1 p2 p3 hp HO1
  obtain ⟨p0, p1, p2, p3, hp⟩ := flowO_cells HO2.out
  go_wp2_with fail
  refine (C2.out _ HB2.out).mono ?_
  rintro e w3 ⟨rfl, hb⟩
  have HB3 := Lib.hid (blw HB2.out hb)
  have HO3 : Hid (w3.heap[w.heap.size]? = some (flowO f A c)) := Lib.hid ((hb.block _ (Dag.blk_lt HO2.out)).trans HO2.out)
  clear hb p0 p1 p2 p3 hp HO2
  obtain ⟨p0, p1, p2, p3, hp⟩ := flowO_cells HO3.out
  go_wp2_with fail
  refine (C3.out _ HB3.out).mono ?_
  rintro e w4 ⟨B1, d1, rfl, hi, hb⟩
  have HB4 := Lib.hid (blw HB3.out hb)
  have I1 := Lib.hid hi
  have HO4 : Hid (w4.heap[w.heap.size]? = some (flowO f A c)) := Lib.hid ((hb.block _ (Dag.blk_lt HO3.out)).trans HO3.out)
  clear hb p0 p1 p2 p3 hp HO3 hi
  obtain ⟨p0, p1, p2, p3, hp⟩ := flowO_cells HO4.out
  go_wp2_with fail
  refine (C4.out _ HB4.out).mono ?_
  rintro e w5 ⟨B2, d2, rfl, hi, hb⟩
  have HB5 := Lib.hid (blw HB4.out hb)
  have I1 := Lib.hid (I1.out.below hb)
  have I2 := Lib.hid hi
  have HO5 : Hid (w5.heap[w.heap.size]? = some (flowO f A c)) := Lib.hid ((hb.block _ (Dag.blk_lt HO4.out)).trans HO4.out)
  clear hb p0 p1 p2 p3 hp HO4 hi
  obtain ⟨p0, p1, p2, p3, hp⟩ := flowO_cells HO5.out
  go_wp2_with fail
  refine (C5.out _ HB5.out).mono ?_
  rintro e w6 ⟨B3, d3, rfl, hi, hb⟩
  have HB6 := Lib.hid (blw HB5.out hb)
  have I1 := Lib.hid (I1.out.below hb)
  have I2 := Lib.hid (I2.out.below hb)
  have I3 := Lib.hid hi
  have HO6 : Hid (w6.heap[w.heap.size]? = some (flowO f A c)) := Lib.hid ((hb.block _ (Dag.blk_lt HO5.out)).trans HO5.out)
  clear hb p0 p1 p2 p3 hp HO5 hi
  obtain ⟨p0, p1, p2, p3, hp⟩ := flowO_cells HO6.out
  go_wp2_with fail
  refine (C6.out _ HB6.out).mono ?_
  rintro e w7 ⟨B4, d4, rfl, hi, hb⟩
  have HB7 := Lib.hid (blw HB6.out hb)
  have I1 := Lib.hid (I1.out.below hb)
  have I2 := Lib.hid (I2.out.below hb)
  have I3 := Lib.hid (I3.out.below hb)
  have I4 := Lib.hid hi
  have HO7 : Hid (w7.heap[w.heap.size]? = some (flowO f A c)) := Lib.hid ((hb.block _ (Dag.blk_lt HO6.out)).trans HO6.out)
  clear hb p0 p1 p2 p3 hp HO6 hi
  obtain ⟨p0, p1, p2, p3, hp⟩ := flowO_cells HO7.out
  go_wp2_with fail
  refine (Dag.same_any (num v1) _ _ (Dag.num_len _) (Dag.num_len _) _ _ _ _ _ I1.out I2.out).mono ?_
  rintro e w8 ⟨rfl, hb⟩
  have HB8 := Lib.hid (blw HB7.out hb)
  have I1 := Lib.hid (I1.out.below hb)
  have I2 := Lib.hid (I2.out.below hb)
  have I3 := Lib.hid (I3.out.below hb)
  have I4 := Lib.hid (I4.out.below hb)
  clear hb
  go_wp2_with fail
  refine (Dag.same_any v2 _ _ rfl rfl _ _ _ _ _ I3.out I4.out).mono ?_
  rintro e w9 ⟨rfl, hb⟩
  have HB9 := Lib.hid (blw HB8.out hb)
  have I1 := Lib.hid (I1.out.below hb)
  have I2 := Lib.hid (I2.out.below hb)
  have I3 := Lib.hid (I3.out.below hb)
  have I4 := Lib.hid (I4.out.below hb)
  clear hb
  go_wp2_with fail
  refine (HK.out _ HB9.out).mono ?_
  rintro e wk ⟨rfl, hbk⟩
  go_wp2
  go_ret
  exact ⟨rfl, blw HB9.out hbk⟩

namespace rankWays
theorem own : ownKnob Tryz.prog.godebug = none := by kernel_rfl
theorem laidOut : laidOutB Tryz.prog = true := by kernel_rfl
set_option maxRecDepth 100000 in
theorem lifted (os : Os) (started : os.Started) (H : Type) (enc : TypeId × Value → H) :
    ReturnsInHanded {} Tryz.checked os 4 .any (fun w args => (Rows.rankWaysSpec.pre enc Tryz.prog Tryz.f4 [] false w args ∧ laidMetH Tryz.prog laid7 w) ∧ sizedMet enc Tryz.prog Tryz.f4 (OpenSpec.ofChange Rows.rankWaysSpec) false w args)
      (Rows.rankWaysSpec.post enc Tryz.prog Tryz.f4 false true false false) := by
  refine returnsInHanded_of_change_and (C := Tryz.checked) (X := fun w _ => laidMetH Tryz.prog laid7 w) (fun _ _ _ hh h => h.of_heap hh) own started (by kernel_rfl) Tryz.func4
    (ChangeSpec.witness_shaped (enc := enc) (C := Tryz.checked) (os := os) (X := fun w _ => laidMetH Tryz.prog laid7 w) false (World.laidAll Tryz.prog os laid7) #[.agg #[.string ByteArray.empty, .int .i64 0, .int .i64 0, .slice none 0 0]] 8 (World.laidAll_os _ _ _)
      (World.shaped_of_ZipB (by kernel_rfl) (by kernel_rfl)) (by kernel_rfl) (by kernel_rfl) (by kernel_rfl)
      (by rw [MakeChecks.laidMetH_plain _ _ _ (by kernel_rfl)]; exact laidMet_laidAll _ (by kernel_rfl) (by kernel_rfl))) ?_
  intro W base args ds gs before hval0 hW _ hsz hL _
  have hval : ∀ (j : Nat) t v, Tryz.f4.params[j]? = some t → args[j]? = some v → Value.okWide Tryz.prog W .any base t v := hval0
  have hW' := hW
  obtain ⟨p, q, hA0, hV, rfl, _, _⟩ := hW
  have hA : DataW.TrodAll enc Tryz.prog W 0 (fun _ => true) true Tryz.f4.params.toList args.toList ds p := hA0
  rw [Tryz.params4] at hA hval
  obtain ⟨v0, vs0, d0, ds0, p0, q0, hargs, rfl, rfl, h0, r0⟩ := trodAll_cons hA
  obtain ⟨rfl, rfl, rfl⟩ := trodAll_nil r0
  obtain rfl : args = #[v0] := by cases args; simp_all
  obtain ⟨rfl, rfl⟩ := trodVars_none hV
  have k0 := h0
  have lt0 : ∀ x ∈ p0, x.block < W.heap.size := by obtain ⟨m, hm⟩ := k0; exact DataW.trod_lt m _ _ _ hm
  obtain ⟨cs0, e0, _⟩ := okWide_struct Tryz.underlying24 (hval 0 24 v0 rfl rfl)
  obtain ⟨fuel0, hf0⟩ := h0
  rw [show v0.cells.toList = cs0.toList from by rw [e0]; rfl] at hf0
  obtain ⟨z0, A0, c0, hcs0, w0, s0⟩ := flow_arg hf0
  obtain rfl : cs0 = #[.string (sb z0.name), .int .i64 z0.deadline, .int .i64 z0.priority, .slice A0 z0.tasks.length c0] := by rw [← Array.toArray_toList (xs := cs0), hcs0]
  subst e0
  have s0 := s0 (weights_at hsz (j := 0) (t := 24) rfl rfl)
  clear hf0 hcs0
  clear hA0 hval0
  rw [MakeChecks.laidMetH_plain _ _ _ (by kernel_rfl)] at hL
  refine (walk_RankWays W (tabs_of hL) z0 A0 c0 w0 s0).mono fun e W' ⟨he, bel⟩ => ?_
  subst he
  exact ⟨_, rfl, _, _, _, [], _, [], hW', trodAll_mk1 (shut_bool Tryz.underlying4 _), (trodAll_cons_mk (Below.trod laidOut (by kernel_rfl) (of_decide_eq_true (by kernel_rfl)) k0 bel lt0) trodAll_mk0), rfl, bel.frame _, fun h => by cases h⟩
theorem said : Rows.RankWaysSaid :=
  OpenClaim.holds_of_wide 4 Tryz.f4 rfl rfl rfl rfl rfl rfl rfl ⟨rfl, rfl, rfl, rfl, rfl⟩ rfl rfl rfl rfl rfl (by kernel_rfl) Tryz.func4 (by kernel_rfl)
    (of_decide_eq_true (by kernel_rfl)) (by unfold Func.isWrapper; first | (rw [if_pos (by decide +kernel)]; kernel_rfl) | (rw [if_neg (by decide +kernel)]; exact ⟨rfl, rfl⟩))
    (fun os started H enc _ => lifted os started H enc)
theorem plain (f : FuncId) (fn : Func) (hf : Tryz.pinned.checked.prog.funcNamed "timekeeper/timekeeperlaw07.RankWays" = some f) (hfn : Tryz.pinned.checked.prog.funcs[f]? = some fn) :
    false = Tryz.pinned.checked.prog.looks [] ∧ ∀ (j : Nat) t, fn.params[j]? = some t → Tryz.pinned.checked.prog.wantsStandIn t = false := by
  obtain rfl : f = 4 := Option.some.inj ((show Tryz.prog.funcNamed "timekeeper/timekeeperlaw07.RankWays" = some 4 by kernel_rfl).symm.trans hf) |>.symm
  obtain rfl : fn = Tryz.f4 := (Option.some.inj (Tryz.func4.symm.trans hfn)).symm
  refine ⟨by kernel_rfl, fun j t ht => ?_⟩
  rw [Tryz.params4] at ht
  have hm : t ∈ [24] := by simpa using Array.mem_of_getElem? ht
  have hall : ([24].all fun u => !Tryz.prog.wantsStandIn u) = true := by kernel_rfl
  exact (show Tryz.prog.wantsStandIn t = false by simpa using List.all_eq_true.1 hall t hm)
theorem proved : Rows.RankWaysCardSaid :=
  Claim7.holds_tied_plain_at .later [] _ _ _ _ said (fun _ h => by cases h) (by kernel_rfl) (fun _ h => by cases h) rankWays_row_tie rfl ⟨rfl, rfl⟩ (by kernel_rfl) rfl plain (by kernel_rfl)
#print axioms proved
end rankWays
end Go.Proofs.YtaiolhanbjndcaaGreatDoor

