/- SplitHolds: for any workflow, any windows and any numbers, the law returns true, and all read afterwards as before. The library's and the program's tables are as the card ties them. -/
import Derived.Test.YtkicanegjkemoaaDoorRows
import Derived.Test.YtkicanegjkemoaaDoorCards
import Derived.Test.YtkicanegjkemoaaDoorTie
import Derived.Test.YtkicanegjkemoaaDoorSplG
import Derived.Test.YtkicanegjkemoaaDoorSplM
import Derived.WalkKit
import Derived.ProofKit
import Derived.OpenShut
import Derived.ShutString
import Derived.Deep.RegionHeld3
import Derived.ChangeOld
import Derived.Below
import Derived.SevenTiedAt
namespace Go.Proofs.YtkicanegjkemoaaDoor
open Go.ChangeShapes Go.WideShapes Go.ChangeAt Go.RowKit Go.Lib
open Go.ChangeMaps (open_string shut_string)
open Dag (Ints)
set_option linter.unusedVariables false
set_option maxRecDepth 100000

set_option maxHeartbeats 3200000 in
theorem walk_SplitHolds (w : World) (hT : Tb3 w) (f : FlowD) (A : Option Addr) (c : Nat) (h : Tasks w A c f.tasks) (hs : Small f) (B : Option Addr) (d : Nat) (l : List WinD) (hv : Wins w B d l) (now : Int) (hw1 : (Lit.int .i64 now).wf = true) (by_ : Int) (hw2 : (Lit.int .i64 by_).wf = true) :
    Calls Tryd.prog 4 #[.agg #[.string (sb f.name), .int .i64 f.deadline, .int .i64 f.priority, .slice A f.tasks.length c], .slice B l.length d, .int .i64 now, .int .i64 by_] w fun e w' => e = .returned (.bool true) ∧ Below w.heap.size w w' := by
  have hk := fun W (hW : Below w.heap.size w W) => known8_any W (hT.below hW)
  have hl := fun W (hW : Below w.heap.size w W) => long8_any f A c W (h.below hW) hs
  have HK := Lib.hid hk
  clear hk hw1 hw2
  cases hlong : longD f
  case true =>
    rw [hlong] at hl
    have HL := Lib.hid hl
    clear hl hv
    go_enter Tryd.func4, Tryd.ntmps4
    go_wp2_with fail
    refine (HL.out _ (al _ _)).mono ?_
    rintro e w1 ⟨rfl, hb1⟩
    have HB1 := Lib.hid (blw (al w (flowO f A c)) hb1)
    clear hb1
    go_wp2_with fail
    refine (HK.out _ HB1.out).mono ?_
    rintro e w2 ⟨rfl, hb2⟩
    go_wp2
    go_ret
    exact ⟨rfl, blw HB1.out hb2⟩
  rw [hlong] at hl
  have HL := Lib.hid hl
  have hlen := (longD_no hlong).1
  by_cases h60 : 60 < l.length
  · obtain ⟨n, hn⟩ : ∃ n, l.length = n := ⟨_, rfl⟩
    rw [hn] at h60 ⊢
    have h61 : (60 : Int) < (n : Int) := by omega
    clear hl hv hn h60
    go_enter Tryd.func4, Tryd.ntmps4
    go_wp2_with fail
    refine (HL.out _ (al _ _)).mono ?_
    rintro e w1 ⟨rfl, hb1⟩
    have HB1 := Lib.hid (blw (al w (flowO f A c)) hb1)
    clear hb1
    go_wp2_with fail
    refine (HK.out _ HB1.out).mono ?_
    rintro e w2 ⟨rfl, hb2⟩
    go_wp2
    go_ret
    exact ⟨rfl, blw HB1.out hb2⟩
  have h61 : ¬ (60 : Int) < (l.length : Int) := by omega
  obtain ⟨r, hr⟩ : ∃ r, holdD f l = r := ⟨_, rfl⟩
  have HH1 := Lib.hid fun W (hW : Below w.heap.size w W) => holds_any f A c l B d W (fla_of (h.below hW) (hT.below hW) hlong) (hv.below hW) r hr
  have HH2 := Lib.hid fun W (hW : Below w.heap.size w W) => rholds_any f A c l B d W (fla_of (h.below hW) (hT.below hW) hlong) (hv.below hW) r hr
  have HS := Lib.hid fun W (hW : Below w.heap.size w W) => windows_any f A c now by_ W (fla_of (h.below hW) (hT.below hW) hlong)
  have HF := Lib.hid fun W (hW : Below w.heap.size w W) => fla_of (h.below hW) (hT.below hW) hlong
  have hrr : (r != r) = false := by cases r <;> rfl
  obtain ⟨n, hn⟩ : ∃ n, l.length = n := ⟨_, rfl⟩
  rw [hn] at h61 HH1 HH2 ⊢
  clear hl h hT hlong h60 hv hr hn
  go_enter Tryd.func4, Tryd.ntmps4
  go_wp2_with fail
  refine (HL.out _ (al _ _)).mono ?_
  rintro e w1 ⟨rfl, hb1⟩
  have HB1 := Lib.hid (blw (al w (flowO f A c)) hb1)
  have HO1 : Hid (w1.heap[w.heap.size]? = some (flowO f A c)) := Lib.hid ((hb1.block _ (by simp)).trans (heap_alloc_new w _))
  clear hb1
  obtain ⟨p0, p1, p2, p3, hp⟩ := flowO_cells HO1.out
  have s0 : w1.drew.cell? ⟨w.heap.size, 0, none⟩ = some (.string (sb f.name)) ∧ w1.drew.cell? ⟨w.heap.size, 1, none⟩ = some (.int .i64 f.deadline) ∧ w1.drew.cell? ⟨w.heap.size, 2, none⟩ = some (.int .i64 f.priority) ∧ w1.drew.cell? ⟨w.heap.size, 3, none⟩ = some (.slice A f.tasks.length c) := ⟨p0, p1, p2, p3⟩
  clear p0 p1 p2 p3 hp
  go_wp2_with fail
  go_region_held3 (fun (W : World) => W.cell? ⟨w.heap.size, 0, none⟩ = some (.string (sb f.name)) ∧ W.cell? ⟨w.heap.size, 1, none⟩ = some (.int .i64 f.deadline) ∧ W.cell? ⟨w.heap.size, 2, none⟩ = some (.int .i64 f.priority) ∧ W.cell? ⟨w.heap.size, 3, none⟩ = some (.slice A f.tasks.length c)) (first | exact s2 | exact s1 | exact s0) (first
    | (go_at_call 14; refine (HH2.out _ HB2.out).mono ?_; rintro e w3 ⟨rfl, hb3⟩; have HB3 : Hid (Below w.heap.size w w3) := Lib.hid (blw HB2.out hb3); have HO3 : Hid (w3.heap[w.heap.size]? = some (flowO f A c)) := Lib.hid ((hb3.block _ (Dag.blk_lt HO2.out)).trans HO2.out); have s2 : w3.cell? ⟨w.heap.size, 0, none⟩ = some (.string (sb f.name)) ∧ w3.cell? ⟨w.heap.size, 1, none⟩ = some (.int .i64 f.deadline) ∧ w3.cell? ⟨w.heap.size, 2, none⟩ = some (.int .i64 f.priority) ∧ w3.cell? ⟨w.heap.size, 3, none⟩ = some (.slice A f.tasks.length c) := ⟨kp_cell hb3 s1.1, kp_cell hb3 s1.2.1, kp_cell hb3 s1.2.2.1, kp_cell hb3 s1.2.2.2⟩; clear hb3)
    | (go_at_call 13; refine (HH1.out _ (blw HB1.out (bdrew _ _))).mono ?_; rintro e w2 ⟨rfl, hb2⟩; have HB2 : Hid (Below w.heap.size w w2) := Lib.hid (blw HB1.out ((Below.refl _ w1).drew.trans hb2)); have HO2 : Hid (w2.heap[w.heap.size]? = some (flowO f A c)) := Lib.hid ((hb2.block _ (Dag.blk_lt HO1.out)).trans HO1.out); have s1 : w2.cell? ⟨w.heap.size, 0, none⟩ = some (.string (sb f.name)) ∧ w2.cell? ⟨w.heap.size, 1, none⟩ = some (.int .i64 f.deadline) ∧ w2.cell? ⟨w.heap.size, 2, none⟩ = some (.int .i64 f.priority) ∧ w2.cell? ⟨w.heap.size, 3, none⟩ = some (.slice A f.tasks.length c) := ⟨kp_cell hb2 s0.1, kp_cell hb2 s0.2.1, kp_cell hb2 s0.2.2.1, kp_cell hb2 s0.2.2.2⟩; clear hb2))
  clear s0 s1 s2 HO1 HB1 HO2 HB2 HH1 HH2
  obtain ⟨p0, p1, p2, p3, hp⟩ := flowO_cells HO3.out
  go_wp2_with fail
  refine (HS.out _ HB3.out).mono ?_
  rintro e w4 ⟨A2, c2, rfl, hv2, hb4⟩
  have HV2 := Lib.hid hv2; have HB4 := Lib.hid (blw HB3.out hb4)
  have HO4 : Hid (w4.heap[w.heap.size]? = some (flowO f A c)) := Lib.hid ((hb4.block _ (Dag.blk_lt HO3.out)).trans HO3.out)
  clear hv2 hb4 p0 p1 p2 p3 hp HO3 HB3
  by_cases h0 : winE f now by_ = 0
  case neg =>
    have hl : winL f now by_ = [] := by unfold winL; rw [if_neg h0]
    rw [hl]
    simp only [List.length_nil]
    obtain ⟨e0, he0⟩ : ∃ e0, winE f now by_ = e0 := ⟨_, rfl⟩
    rw [he0] at h0 ⊢
    have hxn : (e0 != 0) = true := by simp [h0]
    clear h0 he0 hl HV2
    go_wp2_with fail
    refine (HK.out _ HB4.out).mono ?_
    rintro e w5 ⟨rfl, hb5⟩
    go_wp2
    go_ret
    exact ⟨rfl, blw HB4.out hb5⟩
  have hsl := (win_len h0).1
  rw [h0, hsl]
  have G0 := Lib.hid h0
  have HSL := Lib.hid hsl
  obtain ⟨L, hL⟩ : ∃ L, winL f now by_ = L := ⟨_, rfl⟩
  have HLL := Lib.hid hL
  clear h0 hL hsl
  obtain ⟨p0, p1, p2, p3, hp⟩ := flowO_cells HO4.out
  go_wp2
  go_loopw [11] (fun i wr => ∃ k : Nat, k ≤ f.tasks.length ∧ i = .int .i64 k ∧ Hid (Below w4.heap.size w4 wr)) (fun i _ => f.tasks.length - (intOf i).toNat)
  case atStart => exact ⟨0, Nat.zero_le _, rfl, Lib.hid (Below.refl _ _)⟩
  case round =>
    obtain ⟨wA, rfl⟩ : ∃ x, x = wr := ⟨wr, rfl⟩
    obtain ⟨k, hk, rfl, HX⟩ := hrel
    have HXW := Lib.hid (blw HB4.out HX.out)
    obtain ⟨q0, q1, q2, q3, hq⟩ := flowO_cells ((HX.out.block _ (Dag.blk_lt HO4.out)).trans HO4.out)
    by_cases hlt : k < f.tasks.length
    · obtain ⟨b2, o2, eB, g1, g2⟩ := (HV2.out.below HX.out).cells k _ (win_get G0.out hlt).1
      subst eB
      obtain ⟨i1, i2, i3⟩ := win1_in G0.out hlt
      obtain ⟨xf, hxf⟩ : ∃ xf, (win1 f.tasks now by_ k).fr = xf := ⟨_, rfl⟩
      obtain ⟨xb, hxb⟩ : ∃ xb, (win1 f.tasks now by_ k).by_ = xb := ⟨_, rfl⟩
      rw [hxf] at g1 i1
      rw [hxb] at g2 i2
      have dx1 : decide (xf < now) = false := decide_eq_false (by omega)
      have dx2 : decide (by_ < xb) = false := decide_eq_false (by omega)
      clear hxf hxb p0 p1 p2 p3 hp q0 q1 q2 q3 hq i3
      go_wp2
      go_roundw
      case rel => exact ⟨k + 1, by omega, by go_num, HX⟩
      case measure => simp [intOf]; omega
    · obtain rfl : k = f.tasks.length := by omega
      go_wp2_with fail
      have hh := win_hold G0.out
      rw [HLL.out] at hh
      have hc := holds_any f A c L A2 c2 wA (HF.out _ HXW.out) (by rw [← HLL.out]; exact HV2.out.below HX.out) true hh
      rw [← HLL.out, HSL.out] at hc
      refine hc.mono ?_
      rintro e w5 ⟨rfl, hb5⟩
      have HB5 := Lib.hid (blw HXW.out hb5)
      clear hc hb5
      go_wp2_with fail
      refine (HK.out _ HB5.out).mono ?_
      rintro e w6 ⟨rfl, hb6⟩
      go_wp2
      go_ret
      exact ⟨rfl, blw HB5.out hb6⟩

namespace splitHolds
theorem own : ownKnob Tryd.prog.godebug = none := by kernel_rfl
theorem laidOut : laidOutB Tryd.prog = true := by kernel_rfl
set_option maxRecDepth 100000 in
theorem lifted (os : Os) (started : os.Started) (H : Type) (enc : TypeId × Value → H) :
    ReturnsInHanded {} Tryd.checked os 4 .any (fun w args => (Rows.splitHoldsSpec.pre enc Tryd.prog Tryd.f4 [] false w args ∧ laidMetH Tryd.prog laid7 w) ∧ sizedMet enc Tryd.prog Tryd.f4 (OpenSpec.ofChange Rows.splitHoldsSpec) false w args)
      (Rows.splitHoldsSpec.post enc Tryd.prog Tryd.f4 false true false false) := by
  refine returnsInHanded_of_change_and (C := Tryd.checked) (X := fun w _ => laidMetH Tryd.prog laid7 w) (fun _ _ _ hh h => h.of_heap hh) own started (by kernel_rfl) Tryd.func4
    (ChangeSpec.witness_shaped (enc := enc) (C := Tryd.checked) (os := os) (X := fun w _ => laidMetH Tryd.prog laid7 w) false (World.laidAll Tryd.prog os laid7) #[.agg #[.string ByteArray.empty, .int .i64 0, .int .i64 0, .slice none 0 0], .slice none 0 0, .int .i64 0, .int .i64 0] 8 (World.laidAll_os _ _ _)
      (World.shaped_of_ZipB (by kernel_rfl) (by kernel_rfl)) (by kernel_rfl) (by kernel_rfl) (by kernel_rfl)
      (by rw [MakeChecks.laidMetH_plain _ _ _ (by kernel_rfl)]; exact laidMet_laidAll _ (by kernel_rfl) (by kernel_rfl))) ?_
  intro W base args ds gs before hval0 hW _ hsz hL _
  have hval : ∀ (j : Nat) t v, Tryd.f4.params[j]? = some t → args[j]? = some v → Value.okWide Tryd.prog W .any base t v := hval0
  have hW' := hW
  obtain ⟨p, q, hA0, hV, rfl, _, _⟩ := hW
  have hA : DataW.TrodAll enc Tryd.prog W 0 (fun _ => true) true Tryd.f4.params.toList args.toList ds p := hA0
  rw [Tryd.params4] at hA hval
  obtain ⟨v0, vs0, d0, ds0, p0, q0, hargs, rfl, rfl, h0, r0⟩ := trodAll_cons hA
  obtain ⟨v1, vs1, d1, ds1, p1, q1, rfl, rfl, rfl, h1, r1⟩ := trodAll_cons r0
  obtain ⟨v2, vs2, d2, ds2, p2, q2, rfl, rfl, rfl, h2, r2⟩ := trodAll_cons r1
  obtain ⟨v3, vs3, d3, ds3, p3, q3, rfl, rfl, rfl, h3, r3⟩ := trodAll_cons r2
  obtain ⟨rfl, rfl, rfl⟩ := trodAll_nil r3
  obtain rfl : args = #[v0, v1, v2, v3] := by cases args; simp_all
  obtain ⟨rfl, rfl⟩ := trodVars_none hV
  have k0 := h0
  have lt0 : ∀ x ∈ p0, x.block < W.heap.size := by obtain ⟨m, hm⟩ := k0; exact DataW.trod_lt m _ _ _ hm
  obtain ⟨cs0, e0, _⟩ := okWide_struct Tryd.underlying24 (hval 0 24 v0 rfl rfl)
  obtain ⟨fuel0, hf0⟩ := h0
  rw [show v0.cells.toList = cs0.toList from by rw [e0]; rfl] at hf0
  obtain ⟨z0, A0, c0, hcs0, w0, s0⟩ := flow_arg hf0
  obtain rfl : cs0 = #[.string (sb z0.name), .int .i64 z0.deadline, .int .i64 z0.priority, .slice A0 z0.tasks.length c0] := by rw [← Array.toArray_toList (xs := cs0), hcs0]
  subst e0
  have s0 := s0 (weights_at hsz (j := 0) (t := 24) rfl rfl)
  clear hf0 hcs0
  have k1 := h1
  have lt1 : ∀ x ∈ p1, x.block < W.heap.size := by obtain ⟨m, hm⟩ := k1; exact DataW.trod_lt m _ _ _ hm
  obtain ⟨a1, len1, b1, rfl⟩ := okWide_slice Tryd.underlying27 (hval 1 27 v1 rfl rfl)
  obtain ⟨fuel1, hf1⟩ := h1
  obtain ⟨A1, c1, z1, e1, w1⟩ := windows_arg hf1
  injection e1 with e1a e1b e1c
  subst e1a e1b e1c
  clear hf1
  obtain ⟨a2, rfl, rfl, rfl, w2⟩ := open_int Tryd.underlying3 (hval 2 3 v2 rfl rfl) h2
  obtain ⟨a3, rfl, rfl, rfl, w3⟩ := open_int Tryd.underlying3 (hval 3 3 v3 rfl rfl) h3
  clear hA0 hval0
  rw [MakeChecks.laidMetH_plain _ _ _ (by kernel_rfl)] at hL
  refine (walk_SplitHolds W (tabs_of hL) z0 A0 c0 w0 s0 a1 b1 z1 w1 a2 w2 a3 w3).mono fun e W' ⟨he, bel⟩ => ?_
  subst he
  exact ⟨_, rfl, _, _, _, [], _, [], hW', trodAll_mk1 (shut_bool Tryd.underlying4 _), (trodAll_cons_mk (Below.trod laidOut (by kernel_rfl) (of_decide_eq_true (by kernel_rfl)) k0 bel lt0) (trodAll_cons_mk (Below.trod laidOut (by kernel_rfl) (of_decide_eq_true (by kernel_rfl)) k1 bel lt1) (trodAll_cons_mk (shut_int Tryd.underlying3 w2) (trodAll_cons_mk (shut_int Tryd.underlying3 w3) trodAll_mk0)))), rfl, bel.frame _, fun h => by cases h⟩
theorem said : Rows.SplitHoldsSaid :=
  OpenClaim.holds_of_wide 4 Tryd.f4 rfl rfl rfl rfl rfl rfl rfl ⟨rfl, rfl, rfl, rfl, rfl⟩ rfl rfl rfl rfl rfl (by kernel_rfl) Tryd.func4 (by kernel_rfl)
    (of_decide_eq_true (by kernel_rfl)) (by unfold Func.isWrapper; first | (rw [if_pos (by decide +kernel)]; kernel_rfl) | (rw [if_neg (by decide +kernel)]; exact ⟨rfl, rfl⟩))
    (fun os started H enc _ => lifted os started H enc)
theorem plain (f : FuncId) (fn : Func) (hf : Tryd.pinned.checked.prog.funcNamed "timekeeper/timekeeperlaw08.SplitHolds" = some f) (hfn : Tryd.pinned.checked.prog.funcs[f]? = some fn) :
    false = Tryd.pinned.checked.prog.looks [] ∧ ∀ (j : Nat) t, fn.params[j]? = some t → Tryd.pinned.checked.prog.wantsStandIn t = false := by
  obtain rfl : f = 4 := Option.some.inj ((show Tryd.prog.funcNamed "timekeeper/timekeeperlaw08.SplitHolds" = some 4 by kernel_rfl).symm.trans hf) |>.symm
  obtain rfl : fn = Tryd.f4 := (Option.some.inj (Tryd.func4.symm.trans hfn)).symm
  refine ⟨by kernel_rfl, fun j t ht => ?_⟩
  rw [Tryd.params4] at ht
  have hm : t ∈ [24, 27, 3, 3] := by simpa using Array.mem_of_getElem? ht
  have hall : ([24, 27, 3, 3].all fun u => !Tryd.prog.wantsStandIn u) = true := by kernel_rfl
  exact (show Tryd.prog.wantsStandIn t = false by simpa using List.all_eq_true.1 hall t hm)
theorem proved : Rows.SplitHoldsCardSaid :=
  Claim7.holds_tied_plain_at .later [] _ _ _ _ said (fun _ h => by cases h) (by kernel_rfl) (fun _ h => by cases h) splitHolds_row_tie rfl ⟨rfl, rfl⟩ (by kernel_rfl) rfl plain (by kernel_rfl)
#print axioms proved
end splitHolds
end Go.Proofs.YtkicanegjkemoaaDoor

