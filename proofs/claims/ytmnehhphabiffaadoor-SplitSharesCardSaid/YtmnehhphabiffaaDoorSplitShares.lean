/- SplitShares: for any workflow and any two numbers, the law returns true, and all read afterwards as before. The library's and the program's tables are as the card ties them. -/
import Derived.Test.YtmnehhphabiffaaDoorRows
import Derived.Test.YtmnehhphabiffaaDoorCards
import Derived.Test.YtmnehhphabiffaaDoorTie
import Derived.Test.YtmnehhphabiffaaDoorSplG
import Derived.Test.YtmnehhphabiffaaDoorLong8
import Derived.Test.YtmnehhphabiffaaDoorSplK
import Derived.WalkKit
import Derived.ProofKit
import Derived.OpenShut
import Derived.ShutString
import Derived.Deep.RegionHeld3
import Derived.ChangeOld
import Derived.Below
import Derived.SevenTiedAt
namespace Go.Proofs.YtmnehhphabiffaaDoor
open Go.ChangeShapes Go.WideShapes Go.ChangeAt Go.RowKit Go.Lib
open Dag (Ints)
open Go.ChangeMaps (open_string shut_string)
set_option linter.unusedVariables false
set_option maxRecDepth 100000

set_option maxHeartbeats 3200000 in
theorem walk_SplitShares (w : World) (hT : Tb3 w) (f : FlowD) (A : Option Addr) (c : Nat) (h : Tasks w A c f.tasks) (hs : Small f) (now : Int) (hw1 : (Lit.int .i64 now).wf = true) (by_ : Int) (hw2 : (Lit.int .i64 by_).wf = true) :
    Calls Tryd.prog 10 #[.agg #[.string (sb f.name), .int .i64 f.deadline, .int .i64 f.priority, .slice A f.tasks.length c], .int .i64 now, .int .i64 by_] w fun e w' => e = .returned (.bool true) ∧ Below w.heap.size w w' := by
  have hk := fun W (hW : Below w.heap.size w W) => known8_any W (hT.below hW)
  have hl := fun W (hW : Below w.heap.size w W) => long8_any f A c W (h.below hW) hs
  have HK := Lib.hid hk
  clear hk hw1 hw2
  cases hlong : longD f
  case true =>
    rw [hlong] at hl
    have HL := Lib.hid hl
    clear hl
    go_enter Tryd.func10, Tryd.ntmps10
    go_wp2_with fail
    refine (HL.out _ (al _ _)).mono ?_
    rintro e w1 ⟨rfl, hb1⟩
    have HB1 := Lib.hid (blw (al w (flowO f A c)) hb1)
    clear hb1
    go_wp2_with fail
    refine (HK.out _ HB1.out).mono ?_
    rintro e w2 ⟨rfl, hb2⟩
    go_wp2
    go_ret
    exact ⟨rfl, blw HB1.out hb2⟩
  rw [hlong] at hl
  have HL := Lib.hid hl
  have hlen := (longD_no hlong).1
  have HS := Lib.hid fun W (hW : Below w.heap.size w W) => shares_any f A c now by_ W (fla_of (h.below hW) (hT.below hW) hlong)
  have HF := Lib.hid fun W (hW : Below w.heap.size w W) => fla_of (h.below hW) (hT.below hW) hlong
  have HAF := Lib.hid fun t ht => (fla_of h hT hlong).aft t ht
  have H := Lib.hid h
  clear hl h hT hlong
  go_enter Tryd.func10, Tryd.ntmps10
  go_wp2_with fail
  refine (HL.out _ (al _ _)).mono ?_
  rintro e w1 ⟨rfl, hb1⟩
  have HB1 := Lib.hid (blw (al w (flowO f A c)) hb1)
  have HO1 : Hid (w1.heap[w.heap.size]? = some (flowO f A c)) := Lib.hid ((hb1.block _ (by simp)).trans (heap_alloc_new w _))
  clear hb1
  obtain ⟨p0, p1, p2, p3, hp⟩ := flowO_cells HO1.out
  go_wp2_with fail
  refine (HS.out _ HB1.out).mono ?_
  rintro e w2 ⟨A2, c2, rfl, hv2, hb2⟩
  have HV2 := Lib.hid hv2; have HB2 := Lib.hid (blw HB1.out hb2)
  have HO2 : Hid (w2.heap[w.heap.size]? = some (flowO f A c)) := Lib.hid ((hb2.block _ (Dag.blk_lt HO1.out)).trans HO1.out)
  clear hv2 hb2 p0 p1 p2 p3 hp HO1 HB1
  by_cases h0 : winE f now by_ = 0
  case neg =>
    have hl : shrL f now by_ = [] := by unfold shrL; rw [if_neg h0]
    rw [hl]
    simp only [List.length_nil]
    obtain ⟨e0, he0⟩ : ∃ e0, winE f now by_ = e0 := ⟨_, rfl⟩
    rw [he0] at h0 ⊢
    have hxn : (e0 != 0) = true := by simp [h0]
    clear h0 he0 hl HV2
    go_wp2_with fail
    refine (HK.out _ HB2.out).mono ?_
    rintro e w5 ⟨rfl, hb5⟩
    go_wp2
    go_ret
    exact ⟨rfl, blw HB2.out hb5⟩
  have hsl := (win_len h0).2.1
  rw [h0, hsl]
  have G0 := Lib.hid h0
  have HSL := Lib.hid hsl
  obtain ⟨L, hL⟩ : ∃ L, shrL f now by_ = L := ⟨_, rfl⟩
  have HLL := Lib.hid hL
  clear h0 hL hsl
  obtain ⟨p0, p1, p2, p3, hp⟩ := flowO_cells HO2.out
  go_wp2
  go_loopw [9] (fun i wr => ∃ k : Nat, k ≤ f.tasks.length ∧ i = .int .i64 k ∧ Hid (Below w2.heap.size w2 wr)) (fun i _ => f.tasks.length - (intOf i).toNat)
  case atStart => exact ⟨0, Nat.zero_le _, rfl, Lib.hid (Below.refl _ _)⟩
  case round =>
    obtain ⟨wA, rfl⟩ : ∃ x, x = wr := ⟨wr, rfl⟩
    obtain ⟨k, hk, rfl, HX⟩ := hrel
    have HXW := Lib.hid (blw HB2.out HX.out)
    obtain ⟨q0, q1, q2, q3, hq⟩ := flowO_cells ((HX.out.block _ (Dag.blk_lt HO2.out)).trans HO2.out)
    by_cases hlt : k < f.tasks.length
    · obtain ⟨t, ht⟩ : ∃ t, f.tasks[k]? = some t := ⟨_, List.getElem?_eq_getElem hlt⟩
      obtain ⟨b5, o5, A5, c5, eA, h0, h1, h2, h3, h4, h5, hI⟩ := (H.out.below HXW.out).cells k _ ht
      subst eA
      have hal := HAF.out t (List.mem_of_getElem? ht)
      obtain ⟨b2, o2, eB, g1, g2⟩ := (HV2.out.below HX.out).cells k _ (win_get G0.out hlt).2.1
      subst eB
      obtain ⟨i1, i2, i3⟩ := shr1_in G0.out hlt
      have hwt := wtAt_some ht
      rw [hwt] at i3
      have hw0 := (win_facts G0.out).1.wt0 k
      rw [hwt] at hw0
      have hnb := (win_facts G0.out).2.1; have hbb := (win_facts G0.out).2.2.1
      unfold maxT at hbb
      have HAT := Lib.hid fun (i : Nat) (u : Int) (hu : t.after[i]? = some u) => (show ∃ n : Nat, u = n ∧ n < f.tasks.length ∧ (shr1 f.tasks (lengthV f) now by_ n).by_ ≤ (shr1 f.tasks (lengthV f) now by_ k).fr from by
        obtain ⟨_, hV, _⟩ := chk_facts (win_facts G0.out).2.2.2.2
        obtain ⟨b1, b2, b3⟩ := after_bef hV ht (List.mem_of_getElem? hu)
        exact ⟨u.toNat, by omega, b2, shr1_after G0.out b3⟩)
      obtain ⟨xf, hxf⟩ : ∃ xf, (shr1 f.tasks (lengthV f) now by_ k).fr = xf := ⟨_, rfl⟩
      obtain ⟨xb, hxb⟩ : ∃ xb, (shr1 f.tasks (lengthV f) now by_ k).by_ = xb := ⟨_, rfl⟩
      rw [hxf] at g1 i1 i3 HAT
      rw [hxb] at g2 i2 i3
      obtain ⟨av, hav⟩ : ∃ av, wgt t = av := ⟨_, rfl⟩
      have HWT := Lib.hid fun (W : World) => rweight_any t A5 c5 W
      rw [hav] at HWT i3 hw0
      have HI := Lib.hid hI
      clear ht hwt hxf hxb hav hI p0 p1 p2 p3 hp q0 q1 q2 hq
      have dx1 : decide (xf < now) = false := decide_eq_false (by omega)
      have dx2 : decide (by_ < xb) = false := decide_eq_false (by omega)
      have dx3 : decide (xb - xf < av) = false := decide_eq_false (by omega)
      have s0 : wA.drew.cell? ⟨b5, o5 + k * 6, none⟩ = some (.string (sb t.name)) ∧ wA.drew.cell? ⟨b5, o5 + k * 6 + 1, none⟩ = some (.int .i64 t.nodes) ∧ wA.drew.cell? ⟨b5, o5 + k * 6 + 2, none⟩ = some (.int .i64 t.wall) ∧ wA.drew.cell? ⟨b5, o5 + k * 6 + 3, none⟩ = some (.int .i64 t.retry) ∧ wA.drew.cell? ⟨b5, o5 + k * 6 + 4, none⟩ = some (.bool t.done) ∧ wA.drew.cell? ⟨b5, o5 + k * 6 + 5, none⟩ = some (.slice A5 t.after.length c5) ∧ wA.drew.cell? ⟨w.heap.size, 3, none⟩ = some (.slice (some ⟨b5, o5, none⟩) f.tasks.length c) ∧ wA.drew.cell? ⟨b2, o2 + k * 2, none⟩ = some (.int .i64 xf) ∧ wA.drew.cell? ⟨b2, o2 + k * 2 + 1, none⟩ = some (.int .i64 xb) := ⟨h0, h1, h2, h3, h4, h5, q3, g1, g2⟩
      clear h0 h1 h2 h3 h4 h5 q3 g1 g2
      go_wp2_with fail
      go_region_held3 (fun (W : World) => W.cell? ⟨b5, o5 + k * 6, none⟩ = some (.string (sb t.name)) ∧ W.cell? ⟨b5, o5 + k * 6 + 1, none⟩ = some (.int .i64 t.nodes) ∧ W.cell? ⟨b5, o5 + k * 6 + 2, none⟩ = some (.int .i64 t.wall) ∧ W.cell? ⟨b5, o5 + k * 6 + 3, none⟩ = some (.int .i64 t.retry) ∧ W.cell? ⟨b5, o5 + k * 6 + 4, none⟩ = some (.bool t.done) ∧ W.cell? ⟨b5, o5 + k * 6 + 5, none⟩ = some (.slice A5 t.after.length c5) ∧ W.cell? ⟨w.heap.size, 3, none⟩ = some (.slice (some ⟨b5, o5, none⟩) f.tasks.length c) ∧ W.cell? ⟨b2, o2 + k * 2, none⟩ = some (.int .i64 xf) ∧ W.cell? ⟨b2, o2 + k * 2 + 1, none⟩ = some (.int .i64 xb)) (first | exact s1 | exact s0) (first
        | (go_at_call 35; refine (HWT.out _).mono ?_; rintro e x1 ⟨rfl, hb1⟩; have s1 : x1.cell? ⟨b5, o5 + k * 6, none⟩ = some (.string (sb t.name)) ∧ x1.cell? ⟨b5, o5 + k * 6 + 1, none⟩ = some (.int .i64 t.nodes) ∧ x1.cell? ⟨b5, o5 + k * 6 + 2, none⟩ = some (.int .i64 t.wall) ∧ x1.cell? ⟨b5, o5 + k * 6 + 3, none⟩ = some (.int .i64 t.retry) ∧ x1.cell? ⟨b5, o5 + k * 6 + 4, none⟩ = some (.bool t.done) ∧ x1.cell? ⟨b5, o5 + k * 6 + 5, none⟩ = some (.slice A5 t.after.length c5) ∧ x1.cell? ⟨w.heap.size, 3, none⟩ = some (.slice (some ⟨b5, o5, none⟩) f.tasks.length c) ∧ x1.cell? ⟨b2, o2 + k * 2, none⟩ = some (.int .i64 xf) ∧ x1.cell? ⟨b2, o2 + k * 2 + 1, none⟩ = some (.int .i64 xb) := ⟨kp_cell hb1 s0.1, kp_cell hb1 s0.2.1, kp_cell hb1 s0.2.2.1, kp_cell hb1 s0.2.2.2.1, kp_cell hb1 s0.2.2.2.2.1, kp_cell hb1 s0.2.2.2.2.2.1, kp_cell hb1 s0.2.2.2.2.2.2.1, kp_cell hb1 s0.2.2.2.2.2.2.2.1, kp_cell hb1 s0.2.2.2.2.2.2.2.2⟩; have HQ1 : Hid (Below wA.heap.size wA x1) := Lib.hid ((drew_below wA).trans hb1); clear hb1))
      all_goals
        obtain ⟨h0, h1, h2, h3, h4, h5, q3, g1, g2⟩ := s1
        have hz : IntKind.i64.wrap (xb - xf) = xb - xf := by rw [IntKind.wrap_i64]; omega
        have HV1 := Lib.hid (HV2.out.below (blw HX.out HQ1.out))
        have HI1 := Lib.hid (HI.out.below HQ1.out)
        clear s0 dx1 dx2 dx3 h0 h1 h2 h3 h4
        go_wp2_with fail
        go_loopw [11] (fun i wr => ∃ j : Nat, j ≤ t.after.length ∧ i = .int .i64 j ∧ Hid (Below x1.heap.size x1 wr)) (fun i _ => t.after.length - (intOf i).toNat)
        case atStart => exact ⟨0, Nat.zero_le _, rfl, Lib.hid (Below.refl _ _)⟩
        case round =>
          obtain ⟨j, hj, rfl, HY⟩ := hrel
          by_cases hjl : j < t.after.length
          · obtain ⟨u, hu⟩ : ∃ u, t.after[j]? = some u := ⟨_, List.getElem?_eq_getElem hjl⟩
            obtain ⟨b6, o6, eb6, cu⟩ := (HI1.out.below HY.out).cells j (.int .i64 u) (by unfold Dag.ints; rw [List.getElem?_map, hu]; rfl)
            obtain ⟨n, rfl, hn, hle⟩ := HAT.out j u hu
            obtain ⟨b7, o7, e7, k1, k2⟩ := (HV1.out.below HY.out).cells n _ (win_get G0.out hn).2.1
            subst eb6
            obtain ⟨rfl, rfl⟩ : b2 = b7 ∧ o2 = o7 := by injection e7 with e7; injection e7 with e8 e9; exact ⟨e8, e9⟩
            obtain ⟨yb, hyb⟩ : ∃ yb, (shr1 f.tasks (lengthV f) now by_ n).by_ = yb := ⟨_, rfl⟩
            rw [hyb] at k2 hle
            have g7 := kp_cell HY.out g1
            clear hu e7 hyb k1
            go_wp2
            go_quiet (fail)
            go_wp2
            go_roundw
            case rel => exact ⟨j + 1, by omega, by go_num, Lib.hid (blw HY.out (bdrew _ _))⟩
            case measure => simp [intOf]; omega
          · obtain rfl : j = t.after.length := by omega
            go_wp2
            go_roundw
            case rel => exact ⟨k + 1, by omega, by go_num, Lib.hid (blw HX.out (blw HQ1.out HY.out))⟩
            case measure => simp [intOf]; omega
    · obtain rfl : k = f.tasks.length := by omega
      go_wp2_with fail
      have hh := shr_hold G0.out
      rw [HLL.out] at hh
      have hc := holds_yes f A c L A2 c2 wA (HF.out _ HXW.out) (by rw [← HLL.out]; exact HV2.out.below HX.out) hh
      rw [← HLL.out, HSL.out] at hc
      refine hc.mono ?_
      rintro e w5 ⟨rfl, hb5⟩
      have HB5 := Lib.hid (blw HXW.out hb5)
      clear hc hb5
      go_wp2_with fail
      refine (HK.out _ HB5.out).mono ?_
      rintro e w6 ⟨rfl, hb6⟩
      go_wp2
      go_ret
      exact ⟨rfl, blw HB5.out hb6⟩

namespace splitShares
theorem own : ownKnob Tryd.prog.godebug = none := by kernel_rfl
theorem laidOut : laidOutB Tryd.prog = true := by kernel_rfl
set_option maxRecDepth 100000 in
theorem lifted (os : Os) (started : os.Started) (H : Type) (enc : TypeId × Value → H) :
    ReturnsInHanded {} Tryd.checked os 10 .any (fun w args => (Rows.splitSharesSpec.pre enc Tryd.prog Tryd.f10 [] false w args ∧ laidMetH Tryd.prog laid7 w) ∧ sizedMet enc Tryd.prog Tryd.f10 (OpenSpec.ofChange Rows.splitSharesSpec) false w args)
      (Rows.splitSharesSpec.post enc Tryd.prog Tryd.f10 false true false false) := by
  refine returnsInHanded_of_change_and (C := Tryd.checked) (X := fun w _ => laidMetH Tryd.prog laid7 w) (fun _ _ _ hh h => h.of_heap hh) own started (by kernel_rfl) Tryd.func10
    (ChangeSpec.witness_shaped (enc := enc) (C := Tryd.checked) (os := os) (X := fun w _ => laidMetH Tryd.prog laid7 w) false (World.laidAll Tryd.prog os laid7) #[.agg #[.string ByteArray.empty, .int .i64 0, .int .i64 0, .slice none 0 0], .int .i64 0, .int .i64 0] 8 (World.laidAll_os _ _ _)
      (World.shaped_of_ZipB (by kernel_rfl) (by kernel_rfl)) (by kernel_rfl) (by kernel_rfl) (by kernel_rfl)
      (by rw [MakeChecks.laidMetH_plain _ _ _ (by kernel_rfl)]; exact laidMet_laidAll _ (by kernel_rfl) (by kernel_rfl))) ?_
  intro W base args ds gs before hval0 hW _ hsz hL _
  have hval : ∀ (j : Nat) t v, Tryd.f10.params[j]? = some t → args[j]? = some v → Value.okWide Tryd.prog W .any base t v := hval0
  have hW' := hW
  obtain ⟨p, q, hA0, hV, rfl, _, _⟩ := hW
  have hA : DataW.TrodAll enc Tryd.prog W 0 (fun _ => true) true Tryd.f10.params.toList args.toList ds p := hA0
  rw [Tryd.params10] at hA hval
  obtain ⟨v0, vs0, d0, ds0, p0, q0, hargs, rfl, rfl, h0, r0⟩ := trodAll_cons hA
  obtain ⟨v1, vs1, d1, ds1, p1, q1, rfl, rfl, rfl, h1, r1⟩ := trodAll_cons r0
  obtain ⟨v2, vs2, d2, ds2, p2, q2, rfl, rfl, rfl, h2, r2⟩ := trodAll_cons r1
  obtain ⟨rfl, rfl, rfl⟩ := trodAll_nil r2
  obtain rfl : args = #[v0, v1, v2] := by cases args; simp_all
  obtain ⟨rfl, rfl⟩ := trodVars_none hV
  have k0 := h0
  have lt0 : ∀ x ∈ p0, x.block < W.heap.size := by obtain ⟨m, hm⟩ := k0; exact DataW.trod_lt m _ _ _ hm
  obtain ⟨cs0, e0, _⟩ := okWide_struct Tryd.underlying24 (hval 0 24 v0 rfl rfl)
  obtain ⟨fuel0, hf0⟩ := h0
  rw [show v0.cells.toList = cs0.toList from by rw [e0]; rfl] at hf0
  obtain ⟨z0, A0, c0, hcs0, w0, s0⟩ := flow_arg hf0
  obtain rfl : cs0 = #[.string (sb z0.name), .int .i64 z0.deadline, .int .i64 z0.priority, .slice A0 z0.tasks.length c0] := by rw [← Array.toArray_toList (xs := cs0), hcs0]
  subst e0
  have s0 := s0 (weights_at hsz (j := 0) (t := 24) rfl rfl)
  clear hf0 hcs0
  obtain ⟨a1, rfl, rfl, rfl, w1⟩ := open_int Tryd.underlying3 (hval 1 3 v1 rfl rfl) h1
  obtain ⟨a2, rfl, rfl, rfl, w2⟩ := open_int Tryd.underlying3 (hval 2 3 v2 rfl rfl) h2
  clear hA0 hval0
  rw [MakeChecks.laidMetH_plain _ _ _ (by kernel_rfl)] at hL
  refine (walk_SplitShares W (tabs_of hL) z0 A0 c0 w0 s0 a1 w1 a2 w2).mono fun e W' ⟨he, bel⟩ => ?_
  subst he
  exact ⟨_, rfl, _, _, _, [], _, [], hW', trodAll_mk1 (shut_bool Tryd.underlying4 _), (trodAll_cons_mk (Below.trod laidOut (by kernel_rfl) (of_decide_eq_true (by kernel_rfl)) k0 bel lt0) (trodAll_cons_mk (shut_int Tryd.underlying3 w1) (trodAll_cons_mk (shut_int Tryd.underlying3 w2) trodAll_mk0))), rfl, bel.frame _, fun h => by cases h⟩
theorem said : Rows.SplitSharesSaid :=
  OpenClaim.holds_of_wide 10 Tryd.f10 rfl rfl rfl rfl rfl rfl rfl ⟨rfl, rfl, rfl, rfl, rfl⟩ rfl rfl rfl rfl rfl (by kernel_rfl) Tryd.func10 (by kernel_rfl)
    (of_decide_eq_true (by kernel_rfl)) (by unfold Func.isWrapper; first | (rw [if_pos (by decide +kernel)]; kernel_rfl) | (rw [if_neg (by decide +kernel)]; exact ⟨rfl, rfl⟩))
    (fun os started H enc _ => lifted os started H enc)
theorem plain (f : FuncId) (fn : Func) (hf : Tryd.pinned.checked.prog.funcNamed "timekeeper/timekeeperlaw08.SplitShares" = some f) (hfn : Tryd.pinned.checked.prog.funcs[f]? = some fn) :
    false = Tryd.pinned.checked.prog.looks [] ∧ ∀ (j : Nat) t, fn.params[j]? = some t → Tryd.pinned.checked.prog.wantsStandIn t = false := by
  obtain rfl : f = 10 := Option.some.inj ((show Tryd.prog.funcNamed "timekeeper/timekeeperlaw08.SplitShares" = some 10 by kernel_rfl).symm.trans hf) |>.symm
  obtain rfl : fn = Tryd.f10 := (Option.some.inj (Tryd.func10.symm.trans hfn)).symm
  refine ⟨by kernel_rfl, fun j t ht => ?_⟩
  rw [Tryd.params10] at ht
  have hm : t ∈ [24, 3, 3] := by simpa using Array.mem_of_getElem? ht
  have hall : ([24, 3, 3].all fun u => !Tryd.prog.wantsStandIn u) = true := by kernel_rfl
  exact (show Tryd.prog.wantsStandIn t = false by simpa using List.all_eq_true.1 hall t hm)
theorem proved : Rows.SplitSharesCardSaid :=
  Claim7.holds_tied_plain_at .later [] _ _ _ _ said (fun _ h => by cases h) (by kernel_rfl) (fun _ h => by cases h) splitShares_row_tie rfl ⟨rfl, rfl⟩ (by kernel_rfl) rfl plain (by kernel_rfl)
#print axioms proved
end splitShares
end Go.Proofs.YtmnehhphabiffaaDoor

