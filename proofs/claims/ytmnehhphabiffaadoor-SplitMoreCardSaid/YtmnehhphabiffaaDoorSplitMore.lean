/- SplitMore: for any workflow, any two numbers and any number more, the law returns true, and all read afterwards as before. The library's and the program's tables are as the card ties them. -/
import Derived.Test.YtmnehhphabiffaaDoorRows
import Derived.Test.YtmnehhphabiffaaDoorCards
import Derived.Test.YtmnehhphabiffaaDoorTie
import Derived.Test.YtmnehhphabiffaaDoorSplG
import Derived.Test.YtmnehhphabiffaaDoorLong8
import Derived.WalkKit
import Derived.ProofKit
import Derived.OpenShut
import Derived.ShutString
import Derived.Deep.RegionHeld3
import Derived.ChangeOld
import Derived.Below
import Derived.SevenTiedAt
namespace Go.Proofs.YtmnehhphabiffaaDoor
open Go.ChangeShapes Go.WideShapes Go.ChangeAt Go.RowKit Go.Lib
open Go.ChangeMaps (open_string shut_string)
set_option linter.unusedVariables false
set_option maxRecDepth 100000

set_option maxHeartbeats 3200000 in
theorem walk_SplitMore (w : World) (hT : Tb3 w) (f : FlowD) (A : Option Addr) (c : Nat) (h : Tasks w A c f.tasks) (hs : Small f) (now : Int) (hw1 : (Lit.int .i64 now).wf = true) (by_ : Int) (hw2 : (Lit.int .i64 by_).wf = true) (m : Int) (hw3 : (Lit.int .u16 m).wf = true) :
    Calls Tryd.prog 12 #[.agg #[.string (sb f.name), .int .i64 f.deadline, .int .i64 f.priority, .slice A f.tasks.length c], .int .i64 now, .int .i64 by_, .int .u16 m] w fun e w' => e = .returned (.bool true) ∧ Below w.heap.size w w' := by
  have hk := fun W (hW : Below w.heap.size w W) => known8_any W (hT.below hW)
  have hl := fun W (hW : Below w.heap.size w W) => long8_any f A c W (h.below hW) hs
  have HK := Lib.hid hk
  have hm := u16_bd hw3
  clear hw3 hk
  cases hlong : longD f
  case true =>
    rw [hlong] at hl
    have HL := Lib.hid hl
    clear hl hw1 hw2
    go_enter Tryd.func12, Tryd.ntmps12
    go_wp2_with fail
    refine (HL.out _ (al _ _)).mono ?_
    rintro e w1 ⟨rfl, hb1⟩
    have HB1 := Lib.hid (blw (al w (flowO f A c)) hb1)
    clear hb1
    go_wp2_with fail
    refine (HK.out _ HB1.out).mono ?_
    rintro e w2 ⟨rfl, hb2⟩
    go_wp2
    go_ret
    exact ⟨rfl, blw HB1.out hb2⟩
  rw [hlong] at hl
  have HL := Lib.hid hl
  have hlen := (longD_no hlong).1
  have HW := Lib.hid fun (n b : Int) W (hW : Below w.heap.size w W) => windows_any f A c n b W (fla_of (h.below hW) (hT.below hW) hlong)
  have HMO := Lib.hid fun (h0 : winE f now by_ = 0) => win_more h0 hm.1
  have HT0 := Lib.hid fun (h0 : winE f now by_ = 0) => (⟨isT_iff.1 (win_yes h0).1, isT_iff.1 (win_yes h0).2.1⟩ : (0 ≤ now ∧ now ≤ 1099511627775) ∧ (0 ≤ by_ ∧ by_ ≤ 1099511627775))
  have hwm : IntKind.i64.wrap m = m := by rw [IntKind.wrap_i64]; omega
  obtain ⟨N, hN⟩ : ∃ N, IntKind.i64.wrap (now + m) = N := ⟨_, rfl⟩
  obtain ⟨B, hB⟩ : ∃ B, IntKind.i64.wrap (by_ + m) = B := ⟨_, rfl⟩
  have HN := Lib.hid hN; have HB := Lib.hid hB
  clear hl h hT hw1 hw2 hlong
  go_enter Tryd.func12, Tryd.ntmps12
  go_wp2_with fail
  refine (HL.out _ (al _ _)).mono ?_
  rintro e w1 ⟨rfl, hb1⟩
  have HB1 := Lib.hid (blw (al w (flowO f A c)) hb1)
  have HO1 : Hid (w1.heap[w.heap.size]? = some (flowO f A c)) := Lib.hid ((hb1.block _ (by simp)).trans (heap_alloc_new w _))
  clear hb1
  obtain ⟨p0, p1, p2, p3, hp⟩ := flowO_cells HO1.out
  go_wp2_with fail
  refine (HW.out now by_ _ HB1.out).mono ?_
  rintro e w2 ⟨A2, c2, rfl, hv2, hb2⟩
  have HV2 := Lib.hid hv2; have HB2 := Lib.hid (blw HB1.out hb2)
  have HO2 : Hid (w2.heap[w.heap.size]? = some (flowO f A c)) := Lib.hid ((hb2.block _ (Dag.blk_lt HO1.out)).trans HO1.out)
  clear hv2 hb2 p0 p1 p2 p3 hp HO1 HB1
  obtain ⟨p0, p1, p2, p3, hp⟩ := flowO_cells HO2.out
  go_wp2_with fail
  refine (HW.out now B _ HB2.out).mono ?_
  rintro e w3 ⟨A3, c3, rfl, hv3, hb3⟩
  have HV3 := Lib.hid hv3; have HB3 := Lib.hid (blw HB2.out hb3); have HV2' := Lib.hid (HV2.out.below hb3)
  have HO3 : Hid (w3.heap[w.heap.size]? = some (flowO f A c)) := Lib.hid ((hb3.block _ (Dag.blk_lt HO2.out)).trans HO2.out)
  clear hv3 hb3 p0 p1 p2 p3 hp HO2 HB2 HV2
  obtain ⟨p0, p1, p2, p3, hp⟩ := flowO_cells HO3.out
  go_wp2_with fail
  refine (HW.out N B _ HB3.out).mono ?_
  rintro e w4 ⟨A4, c4, rfl, hv4, hb4⟩
  have HV4 := Lib.hid hv4; have HB4 := Lib.hid (blw HB3.out hb4); have HV2 := Lib.hid (HV2'.out.below hb4); have HV3' := Lib.hid (HV3.out.below hb4)
  clear hv4 hb4 p0 p1 p2 p3 hp HO3 HB3 HV2' HV3
  by_cases h0 : winE f now by_ = 0
  case neg =>
    have hl : winL f now by_ = [] := by unfold winL; rw [if_neg h0]
    have H0 := Lib.hid h0
    rw [hl]
    simp only [List.length_nil]
    obtain ⟨e0, he0⟩ : ∃ e0, winE f now by_ = e0 := ⟨_, rfl⟩
    rw [he0] at h0 ⊢
    have hxn : (e0 != 0) = true := by simp [h0]
    clear h0 he0 hl
    go_wp2_with fail
    refine (HK.out _ HB4.out).mono ?_
    rintro e w5 ⟨rfl, hb5⟩
    go_wp2
    go_ret
    exact ⟨rfl, blw HB4.out hb5⟩
  obtain ⟨t1, t2⟩ := HT0.out h0
  have hN2 : N = now + m := by rw [← HN.out, IntKind.wrap_i64]; omega
  have hB2 : B = by_ + m := by rw [← HB.out, IntKind.wrap_i64]; omega
  clear hN hB
  subst hN2 hB2
  rw [h0]
  rcases HMO.out h0 with ⟨hgt, g1, g2⟩ | ⟨g1, g2⟩
  · rw [g1, g2]
    clear g1 g2 h0
    go_wp2_with fail
    refine (HK.out _ HB4.out).mono ?_
    rintro e w5 ⟨rfl, hb5⟩
    go_wp2
    go_ret
    exact ⟨rfl, blw HB4.out hb5⟩
  · rw [g1, g2, (win_len h0).1, (win_len g1).1, (win_len g2).1]
    have G0 := Lib.hid h0; have G1 := Lib.hid g1; have G2 := Lib.hid g2
    clear h0 g1 g2
    go_wp2
    go_loopw [15] (fun i wr => ∃ k : Nat, k ≤ f.tasks.length ∧ i = .int .i64 k ∧ Hid (Below w4.heap.size w4 wr)) (fun i _ => f.tasks.length - (intOf i).toNat)
    case atStart => exact ⟨0, Nat.zero_le _, rfl, Lib.hid (Below.refl _ _)⟩
    case round =>
      obtain ⟨k, hk, rfl, HX⟩ := hrel
      by_cases hlt : k < f.tasks.length
      · obtain ⟨b1, o1, e1, a1, a2⟩ := (HV2.out.below HX.out).cells k _ (win_get G0.out hlt).1
        obtain ⟨b2, o2, e2, a3, a4⟩ := (HV3'.out.below HX.out).cells k _ (win_get G1.out hlt).1
        obtain ⟨b3, o3, e3, a5, a6⟩ := (HV4.out.below HX.out).cells k _ (win_get G2.out hlt).1
        subst e1 e2 e3
        obtain ⟨i1, i2, i3⟩ := win1_in G0.out hlt
        simp only [win1] at a1 a2 a3 a4 a5 a6 i1 i2 i3
        obtain ⟨dv, hdv⟩ : ∃ dv, dnD f.tasks k = dv := ⟨_, rfl⟩
        obtain ⟨uv, huv⟩ : ∃ uv, upD f.tasks k - wtAt f.tasks k = uv := ⟨_, rfl⟩
        rw [hdv] at a1 a3 a5 i1 i3
        rw [huv] at a2 a4 a6 i2 i3
        have hwt := (win_facts G0.out).1.wt0 k
        have q1 : now + m + dv = now + dv + m := by omega
        have q2 : by_ + m - uv = by_ - uv + m := by omega
        rw [q1] at a5
        rw [q2] at a4 a6
        have z1 : IntKind.i64.wrap (now + dv + m) = now + dv + m := by rw [IntKind.wrap_i64]; omega
        have z2 : IntKind.i64.wrap (by_ - uv + m) = by_ - uv + m := by rw [IntKind.wrap_i64]; omega
        clear hdv huv q1 q2 i1 i2 i3 hwt
        generalize now + dv = x1 at *
        generalize by_ - uv = x2 at *
        go_wp2_with fail
        go_quiet (fail)
        go_wp2
        go_roundw
        case rel => exact ⟨k + 1, by omega, by go_num, Lib.hid (blw HX.out (bdrew _ _))⟩
        case measure => simp [intOf]; omega
      · obtain rfl : k = f.tasks.length := by omega
        go_wp2_with fail
        refine (HK.out _ (blw HB4.out HX.out)).mono ?_
        rintro e w5 ⟨rfl, hb5⟩
        go_wp2
        go_ret
        exact ⟨rfl, blw (blw HB4.out HX.out) hb5⟩

namespace splitMore
theorem own : ownKnob Tryd.prog.godebug = none := by kernel_rfl
theorem laidOut : laidOutB Tryd.prog = true := by kernel_rfl
set_option maxRecDepth 100000 in
theorem lifted (os : Os) (started : os.Started) (H : Type) (enc : TypeId × Value → H) :
    ReturnsInHanded {} Tryd.checked os 12 .any (fun w args => (Rows.splitMoreSpec.pre enc Tryd.prog Tryd.f12 [] false w args ∧ laidMetH Tryd.prog laid7 w) ∧ sizedMet enc Tryd.prog Tryd.f12 (OpenSpec.ofChange Rows.splitMoreSpec) false w args)
      (Rows.splitMoreSpec.post enc Tryd.prog Tryd.f12 false true false false) := by
  refine returnsInHanded_of_change_and (C := Tryd.checked) (X := fun w _ => laidMetH Tryd.prog laid7 w) (fun _ _ _ hh h => h.of_heap hh) own started (by kernel_rfl) Tryd.func12
    (ChangeSpec.witness_shaped (enc := enc) (C := Tryd.checked) (os := os) (X := fun w _ => laidMetH Tryd.prog laid7 w) false (World.laidAll Tryd.prog os laid7) #[.agg #[.string ByteArray.empty, .int .i64 0, .int .i64 0, .slice none 0 0], .int .i64 0, .int .i64 0, .int .u16 0] 8 (World.laidAll_os _ _ _)
      (World.shaped_of_ZipB (by kernel_rfl) (by kernel_rfl)) (by kernel_rfl) (by kernel_rfl) (by kernel_rfl)
      (by rw [MakeChecks.laidMetH_plain _ _ _ (by kernel_rfl)]; exact laidMet_laidAll _ (by kernel_rfl) (by kernel_rfl))) ?_
  intro W base args ds gs before hval0 hW _ hsz hL _
  have hval : ∀ (j : Nat) t v, Tryd.f12.params[j]? = some t → args[j]? = some v → Value.okWide Tryd.prog W .any base t v := hval0
  have hW' := hW
  obtain ⟨p, q, hA0, hV, rfl, _, _⟩ := hW
  have hA : DataW.TrodAll enc Tryd.prog W 0 (fun _ => true) true Tryd.f12.params.toList args.toList ds p := hA0
  rw [Tryd.params12] at hA hval
  obtain ⟨v0, vs0, d0, ds0, p0, q0, hargs, rfl, rfl, h0, r0⟩ := trodAll_cons hA
  obtain ⟨v1, vs1, d1, ds1, p1, q1, rfl, rfl, rfl, h1, r1⟩ := trodAll_cons r0
  obtain ⟨v2, vs2, d2, ds2, p2, q2, rfl, rfl, rfl, h2, r2⟩ := trodAll_cons r1
  obtain ⟨v3, vs3, d3, ds3, p3, q3, rfl, rfl, rfl, h3, r3⟩ := trodAll_cons r2
  obtain ⟨rfl, rfl, rfl⟩ := trodAll_nil r3
  obtain rfl : args = #[v0, v1, v2, v3] := by cases args; simp_all
  obtain ⟨rfl, rfl⟩ := trodVars_none hV
  have k0 := h0
  have lt0 : ∀ x ∈ p0, x.block < W.heap.size := by obtain ⟨m, hm⟩ := k0; exact DataW.trod_lt m _ _ _ hm
  obtain ⟨cs0, e0, _⟩ := okWide_struct Tryd.underlying24 (hval 0 24 v0 rfl rfl)
  obtain ⟨fuel0, hf0⟩ := h0
  rw [show v0.cells.toList = cs0.toList from by rw [e0]; rfl] at hf0
  obtain ⟨z0, A0, c0, hcs0, w0, s0⟩ := flow_arg hf0
  obtain rfl : cs0 = #[.string (sb z0.name), .int .i64 z0.deadline, .int .i64 z0.priority, .slice A0 z0.tasks.length c0] := by rw [← Array.toArray_toList (xs := cs0), hcs0]
  subst e0
  have s0 := s0 (weights_at hsz (j := 0) (t := 24) rfl rfl)
  clear hf0 hcs0
  obtain ⟨a1, rfl, rfl, rfl, w1⟩ := open_int Tryd.underlying3 (hval 1 3 v1 rfl rfl) h1
  obtain ⟨a2, rfl, rfl, rfl, w2⟩ := open_int Tryd.underlying3 (hval 2 3 v2 rfl rfl) h2
  obtain ⟨a3, rfl, rfl, rfl, w3⟩ := open_int Tryd.underlying53 (hval 3 53 v3 rfl rfl) h3
  clear hA0 hval0
  rw [MakeChecks.laidMetH_plain _ _ _ (by kernel_rfl)] at hL
  refine (walk_SplitMore W (tabs_of hL) z0 A0 c0 w0 s0 a1 w1 a2 w2 a3 w3).mono fun e W' ⟨he, bel⟩ => ?_
  subst he
  exact ⟨_, rfl, _, _, _, [], _, [], hW', trodAll_mk1 (shut_bool Tryd.underlying4 _), (trodAll_cons_mk (Below.trod laidOut (by kernel_rfl) (of_decide_eq_true (by kernel_rfl)) k0 bel lt0) (trodAll_cons_mk (shut_int Tryd.underlying3 w1) (trodAll_cons_mk (shut_int Tryd.underlying3 w2) (trodAll_cons_mk (shut_int Tryd.underlying53 w3) trodAll_mk0)))), rfl, bel.frame _, fun h => by cases h⟩
theorem said : Rows.SplitMoreSaid :=
  OpenClaim.holds_of_wide 12 Tryd.f12 rfl rfl rfl rfl rfl rfl rfl ⟨rfl, rfl, rfl, rfl, rfl⟩ rfl rfl rfl rfl rfl (by kernel_rfl) Tryd.func12 (by kernel_rfl)
    (of_decide_eq_true (by kernel_rfl)) (by unfold Func.isWrapper; first | (rw [if_pos (by decide +kernel)]; kernel_rfl) | (rw [if_neg (by decide +kernel)]; exact ⟨rfl, rfl⟩))
    (fun os started H enc _ => lifted os started H enc)
theorem plain (f : FuncId) (fn : Func) (hf : Tryd.pinned.checked.prog.funcNamed "timekeeper/timekeeperlaw08.SplitMore" = some f) (hfn : Tryd.pinned.checked.prog.funcs[f]? = some fn) :
    false = Tryd.pinned.checked.prog.looks [] ∧ ∀ (j : Nat) t, fn.params[j]? = some t → Tryd.pinned.checked.prog.wantsStandIn t = false := by
  obtain rfl : f = 12 := Option.some.inj ((show Tryd.prog.funcNamed "timekeeper/timekeeperlaw08.SplitMore" = some 12 by kernel_rfl).symm.trans hf) |>.symm
  obtain rfl : fn = Tryd.f12 := (Option.some.inj (Tryd.func12.symm.trans hfn)).symm
  refine ⟨by kernel_rfl, fun j t ht => ?_⟩
  rw [Tryd.params12] at ht
  have hm : t ∈ [24, 3, 3, 53] := by simpa using Array.mem_of_getElem? ht
  have hall : ([24, 3, 3, 53].all fun u => !Tryd.prog.wantsStandIn u) = true := by kernel_rfl
  exact (show Tryd.prog.wantsStandIn t = false by simpa using List.all_eq_true.1 hall t hm)
theorem proved : Rows.SplitMoreCardSaid :=
  Claim7.holds_tied_plain_at .later [] _ _ _ _ said (fun _ h => by cases h) (by kernel_rfl) (fun _ h => by cases h) splitMore_row_tie rfl ⟨rfl, rfl⟩ (by kernel_rfl) rfl plain (by kernel_rfl)
#print axioms proved
end splitMore
end Go.Proofs.YtmnehhphabiffaaDoor

