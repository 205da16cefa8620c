/- StepsNew: for any three ints, the law returns true, and all read afterwards as before. No condition. -/
import Derived.Test.YtmlkomcjbcolhaaRows
import Derived.Test.YtmlkomcjbcolhaaStpL
import Derived.Test.YtmlkomcjbcolhaaStpArg
import Derived.WalkKit
import Derived.ProofKit
import Derived.OpenShut
import Derived.ShutString
import Derived.ChangeOld
import Derived.Below
namespace Go.Proofs.Ytmlkomcjbcolhaa
open Go.ChangeShapes Go.WideShapes Go.ChangeAt Go.RowKit
open Stp (blw al kp Stp.below known9_any RetS at_any new_any newL newE sum_any sumL sumE sumR okS rsame_any sameB sameB_iff lit1)
set_option linter.unusedVariables false

theorem one_prof {n : Int} (h : nodeOK n = true) : Prof [⟨0, n⟩] := by
  have := nodeOK_iff.1 h
  refine ⟨by simp, ⟨_, [], rfl, rfl⟩, ⟨by show (-1 : Int) < 0; decide, ?_, trivial⟩, fun s hs => ?_⟩
  · show n ≠ DD; unfold DD; omega
  · simp at hs; subst hs; exact ⟨⟨Int.le_refl _, by show (0 : Int) ≤ 1099511627775; decide⟩, this⟩
theorem one_sum (n m : Int) : sumR [⟨0, n⟩] [⟨0, m⟩] = [⟨0, n + m⟩] := by
  show togD 2 0 0 [⟨0, n⟩] [⟨0, m⟩] [] = _
  simp [togD, putD]
theorem one_sumE {n m : Int} (h : nodeOK n = true) (k : nodeOK m = true) : sumE [⟨0, n⟩] [⟨0, m⟩] = if nodeOK (n + m) = true then 0 else 2 := by
  unfold sumE
  rw [if_pos ⟨chkD_prof.2 (one_prof h), chkD_prof.2 (one_prof k)⟩, one_sum]
  unfold okS
  simp only [List.all_cons, List.all_nil, Bool.and_true]
theorem one_at {n : Int} (h : nodeOK n = true) (t : Int) : atV [⟨0, n⟩] t = if Clk.isT t = true then n else 0 := by
  unfold atV
  cases ht : Clk.isT t
  · rw [if_neg (by simp), if_neg (by simp)]
  · rw [if_pos ⟨chkD_prof.2 (one_prof h), rfl⟩, if_pos rfl, val_cons (by show (0 : Int) ≤ t; exact (Clk.isT_bd ht).1)]; rfl

set_option maxRecDepth 100000 in
set_option maxHeartbeats 3200000 in
theorem walk_StepsNew (w : World) (n m t : Int) :
    Calls Try.prog 10 #[.int .i64 n, .int .i64 m, .int .i64 t] w fun e w' => e = .returned (.bool true) ∧ Below w.heap.size w w' := by
  have HK := Lib.hid known9_any
  have HN := Lib.hid fun (W : World) => new_any n W
  have HM := Lib.hid fun (W : World) => new_any m W
  unfold RetS newL newE at HN HM
  cases hn : nodeOK n
  · rw [hn] at HN
    rw [if_neg (by decide), if_neg (by decide)] at HN
    obtain ⟨xl, hxl⟩ : ∃ xl, (if nodeOK m = true then [(⟨0, m⟩ : StepD)] else []) = xl := ⟨_, rfl⟩
    obtain ⟨xe, hxe⟩ : ∃ xe, (if nodeOK m = true then (0 : Int) else 2) = xe := ⟨_, rfl⟩
    rw [hxl, hxe] at HM
    have hc : ¬ (0 ≤ n ∧ n ≤ 10000) := fun e => by rw [nodeOK_iff.2 e] at hn; cases hn
    clear hxl hxe hn
    by_cases h0 : 0 ≤ n
    · have h1 : 10000 < n := by omega
      clear hc
      go_enter Try.func10, Try.ntmps10
      go_wp2_with fail
      refine (HN.out _).mono ?_
      rintro e w1 ⟨A1, c1, rfl, hs1, hb1⟩
      go_wp2_with fail
      refine (HM.out _).mono ?_
      rintro e w2 ⟨A2, c2, rfl, hs2, hb2⟩
      go_wp2_with fail
      refine (HK.out _).mono ?_
      rintro e w' ⟨rfl, hw⟩
      go_wp2
      go_ret
      exact ⟨rfl, blw (blw hb1 hb2) hw⟩
    · have h1 : n < 0 := by omega
      clear hc h0
      go_enter Try.func10, Try.ntmps10
      go_wp2_with fail
      refine (HN.out _).mono ?_
      rintro e w1 ⟨A1, c1, rfl, hs1, hb1⟩
      go_wp2_with fail
      refine (HM.out _).mono ?_
      rintro e w2 ⟨A2, c2, rfl, hs2, hb2⟩
      go_wp2_with fail
      refine (HK.out _).mono ?_
      rintro e w' ⟨rfl, hw⟩
      go_wp2
      go_ret
      exact ⟨rfl, blw (blw hb1 hb2) hw⟩
  · rw [hn] at HN
    rw [if_pos rfl, if_pos rfl] at HN
    have hnb := nodeOK_iff.1 hn
    have hn0 := hnb.1
    have hn1 := hnb.2
    cases hm : nodeOK m
    · rw [hm] at HM
      rw [if_neg (by decide), if_neg (by decide)] at HM
      clear hnb hn hm
      go_enter Try.func10, Try.ntmps10
      go_wp2_with fail
      refine (HN.out _).mono ?_
      rintro e w1 ⟨A1, c1, rfl, hs1, hb1⟩
      go_wp2_with fail
      refine (HM.out _).mono ?_
      rintro e w2 ⟨A2, c2, rfl, hs2, hb2⟩
      go_wp2_with fail
      refine (HK.out _).mono ?_
      rintro e w' ⟨rfl, hw⟩
      go_wp2
      go_ret
      exact ⟨rfl, blw (blw hb1 hb2) hw⟩
    · rw [hm] at HM
      rw [if_pos rfl, if_pos rfl] at HM
      have hmb := nodeOK_iff.1 hm
      have hm0 := hmb.1
      have hm1 := hmb.2
      have HS := Lib.hid fun (A B : Option Addr) (c d : Nat) W (hs : Stp.Stp W A c [⟨0, n⟩]) (hs' : Stp.Stp W B d [⟨0, m⟩]) => sum_any [⟨0, n⟩] [⟨0, m⟩] A B 1 1 c d rfl rfl (by decide) W hs hs'
      unfold RetS sumL at HS
      rw [one_sumE hn hm, one_sum] at HS
      have hw1 : IntKind.i64.wrap (n + m) = n + m := IntWalk.i64_in _ (by omega)
      by_cases hnm : 10000 < n + m
      · rw [show nodeOK (n + m) = false from by simp [nodeOK]; omega, if_neg (by decide), if_neg (by decide)] at HS
        clear hnb hmb hn hm
        go_enter Try.func10, Try.ntmps10
        go_wp2_with fail
        refine (HN.out _).mono ?_
        rintro e w1 ⟨A1, c1, rfl, hs1, hb1⟩
        have HS1 := Lib.hid hs1; have HW1 := Lib.hid hb1
        clear hs1 hb1
        go_wp2_with fail
        refine (HM.out _).mono ?_
        rintro e w2 ⟨A2, c2, rfl, hs2, hb2⟩
        have HS2 := Lib.hid hs2; have HW2 := Lib.hid (blw HW1.out hb2); have HS1b := Lib.hid (HS1.out.below hb2)
        clear hs2 hb2
        go_wp2_with fail
        refine (HS.out _ _ _ _ _ HS1b.out HS2.out).mono ?_
        rintro e w3 ⟨A3, c3, rfl, hs3, hb3⟩
        have HW3 := Lib.hid (blw HW2.out hb3)
        clear hs3 hb3
        go_wp2_with fail
        refine (HK.out _).mono ?_
        rintro e w' ⟨rfl, hw⟩
        go_wp2
        go_ret
        exact ⟨rfl, blw HW3.out hw⟩
      · rw [show nodeOK (n + m) = true from by simp [nodeOK]; omega, if_pos rfl, if_pos rfl] at HS
        have HT := Lib.hid fun (A : Option Addr) (c : Nat) W (hs : Stp.Stp W A c [⟨0, n⟩]) => at_any [⟨0, n⟩] t A 1 c rfl W hs
        rw [one_at hn] at HT
        have HSM := Lib.hid fun (A B : Option Addr) (c d : Nat) (W : World) (hs : Stp.Stp W A c [⟨0, n + m⟩]) (hs' : Stp.Stp W B d [⟨0, n + m⟩]) => rsame_any [⟨0, n + m⟩] [⟨0, n + m⟩] A B 1 1 c d rfl rfl W hs hs'
        rw [show sameB [⟨0, n + m⟩] [⟨0, n + m⟩] = true from sameB_iff.2 rfl] at HSM
        have hle : n + m ≤ 10000 := by omega
        obtain ⟨v, hv⟩ : ∃ v, (if Clk.isT t = true then n else 0) = v := ⟨_, rfl⟩
        rw [hv] at HT
        by_cases ht0 : t < 0
        · obtain rfl : v = 0 := by rw [← hv, Clk.isT_low ht0]; rfl
          clear hnb hmb hn hm hnm hv
          go_enter Try.func10, Try.ntmps10
          go_wp2_with fail
          refine (HN.out _).mono ?_
          rintro e w1 ⟨A1, c1, rfl, hs1, hb1⟩
          have HS1 := Lib.hid hs1; have HW1 := Lib.hid hb1
          clear hs1 hb1
          go_wp2_with fail
          refine (HM.out _).mono ?_
          rintro e w2 ⟨A2, c2, rfl, hs2, hb2⟩
          have HS2 := Lib.hid hs2; have HW2 := Lib.hid (blw HW1.out hb2); have HS1b := Lib.hid (HS1.out.below hb2)
          clear hs2 hb2
          go_wp2_with fail
          refine (HS.out _ _ _ _ _ HS1b.out HS2.out).mono ?_
          rintro e w3 ⟨A3, c3, rfl, hs3, hb3⟩
          have HS3 := Lib.hid hs3; have HW3 := Lib.hid (blw HW2.out hb3); have HS1c := Lib.hid (HS1b.out.below hb3)
          clear hs3 hb3
          go_wp2_with fail
          refine (HT.out _ _ _ HS1c.out).mono ?_
          rintro e w4 ⟨rfl, hb4⟩
          have HS4 := Lib.hid (HS3.out.below hb4); have HW4 := Lib.hid (blw HW3.out hb4)
          clear hb4
          go_wp2_with fail
          refine (HSM.out _ _ _ _ _ (HS4.out.below (al _ _)) (lit1 (heap_alloc_new w4 _))).mono ?_
          rintro e w5 ⟨rfl, hb5⟩
          have HW5 := Lib.hid (blw (blw HW4.out (al w4 _)) hb5)
          clear hb5
          go_wp2_with fail
          refine (HK.out _).mono ?_
          rintro e w' ⟨rfl, hw⟩
          go_wp2
          go_ret
          exact ⟨rfl, blw HW5.out hw⟩
        · by_cases ht1 : 1099511627775 < t
          · obtain rfl : v = 0 := by rw [← hv, Clk.isT_high ht1]; rfl
            clear hnb hmb hn hm hnm hv
            go_enter Try.func10, Try.ntmps10
            go_wp2_with fail
            refine (HN.out _).mono ?_
            rintro e w1 ⟨A1, c1, rfl, hs1, hb1⟩
            have HS1 := Lib.hid hs1; have HW1 := Lib.hid hb1
            clear hs1 hb1
            go_wp2_with fail
            refine (HM.out _).mono ?_
            rintro e w2 ⟨A2, c2, rfl, hs2, hb2⟩
            have HS2 := Lib.hid hs2; have HW2 := Lib.hid (blw HW1.out hb2); have HS1b := Lib.hid (HS1.out.below hb2)
            clear hs2 hb2
            go_wp2_with fail
            refine (HS.out _ _ _ _ _ HS1b.out HS2.out).mono ?_
            rintro e w3 ⟨A3, c3, rfl, hs3, hb3⟩
            have HS3 := Lib.hid hs3; have HW3 := Lib.hid (blw HW2.out hb3); have HS1c := Lib.hid (HS1b.out.below hb3)
            clear hs3 hb3
            go_wp2_with fail
            refine (HT.out _ _ _ HS1c.out).mono ?_
            rintro e w4 ⟨rfl, hb4⟩
            have HS4 := Lib.hid (HS3.out.below hb4); have HW4 := Lib.hid (blw HW3.out hb4)
            clear hb4
            go_wp2_with fail
            refine (HSM.out _ _ _ _ _ (HS4.out.below (al _ _)) (lit1 (heap_alloc_new w4 _))).mono ?_
            rintro e w5 ⟨rfl, hb5⟩
            have HW5 := Lib.hid (blw (blw HW4.out (al w4 _)) hb5)
            clear hb5
            go_wp2_with fail
            refine (HK.out _).mono ?_
            rintro e w' ⟨rfl, hw⟩
            go_wp2
            go_ret
            exact ⟨rfl, blw HW5.out hw⟩
          · have ht0' : 0 ≤ t := by omega
            have ht1' : t ≤ 1099511627775 := by omega
            obtain rfl : n = v := by rw [← hv, Clk.isT_yes ht0' ht1']; rfl
            clear hnb hmb hn hm hnm hv
            go_enter Try.func10, Try.ntmps10
            go_wp2_with fail
            refine (HN.out _).mono ?_
            rintro e w1 ⟨A1, c1, rfl, hs1, hb1⟩
            have HS1 := Lib.hid hs1; have HW1 := Lib.hid hb1
            clear hs1 hb1
            go_wp2_with fail
            refine (HM.out _).mono ?_
            rintro e w2 ⟨A2, c2, rfl, hs2, hb2⟩
            have HS2 := Lib.hid hs2; have HW2 := Lib.hid (blw HW1.out hb2); have HS1b := Lib.hid (HS1.out.below hb2)
            clear hs2 hb2
            go_wp2_with fail
            refine (HS.out _ _ _ _ _ HS1b.out HS2.out).mono ?_
            rintro e w3 ⟨A3, c3, rfl, hs3, hb3⟩
            have HS3 := Lib.hid hs3; have HW3 := Lib.hid (blw HW2.out hb3); have HS1c := Lib.hid (HS1b.out.below hb3)
            clear hs3 hb3
            go_wp2_with fail
            refine (HT.out _ _ _ HS1c.out).mono ?_
            rintro e w4 ⟨rfl, hb4⟩
            have HS4 := Lib.hid (HS3.out.below hb4); have HW4 := Lib.hid (blw HW3.out hb4)
            clear hb4
            go_wp2_with fail
            refine (HSM.out _ _ _ _ _ (HS4.out.below (al _ _)) (lit1 (heap_alloc_new w4 _))).mono ?_
            rintro e w5 ⟨rfl, hb5⟩
            have HW5 := Lib.hid (blw (blw HW4.out (al w4 _)) hb5)
            clear hb5
            go_wp2_with fail
            refine (HK.out _).mono ?_
            rintro e w' ⟨rfl, hw⟩
            go_wp2
            go_ret
            exact ⟨rfl, blw HW5.out hw⟩

namespace stepsNew
open Go.ChangeShapes Go.WideShapes Go.ChangeAt Go.RowKit
theorem own : ownKnob Try.prog.godebug = none := by kernel_rfl
theorem laidOut : laidOutB Try.prog = true := by kernel_rfl

set_option maxRecDepth 100000 in
theorem lifted (os : Os) (started : os.Started) (H : Type) (enc : TypeId × Value → H) :
    ReturnsInHanded {} Try.checked os 10 .any (Rows.stepsNewSpec.pre6 enc Try.prog Try.f10 Rows.stepsNewRow.domain false) (Rows.stepsNewSpec.post enc Try.prog Try.f10 false true false false) := by
  refine returnsInHanded_of_change (C := Try.checked) own started (by kernel_rfl) Try.func10
    (ChangeSpec.witness6 (enc := enc) (C := Try.checked) false ⟨#[], #[.int .i64 0, .int .i64 0, .int .i64 0], []⟩ 8 (by kernel_rfl) (by kernel_rfl) (by kernel_rfl) (by kernel_rfl)) ?_
  intro W base args ds gs before hval0 hW hcnd _
  have hval : ∀ (j : Nat) t v, Try.f10.params[j]? = some t → args[j]? = some v → Value.okWide Try.prog W .any base t v := hval0
  have hW' := hW
  obtain ⟨p, q, hA0, hV, rfl, hfz, hnd⟩ := hW
  have hA : DataW.TrodAll enc Try.prog W 0 (fun _ => true) true Try.f10.params.toList args.toList ds p := hA0
  rw [Try.params10] at hA hval
  obtain ⟨v0, vs0, d0, ds0, p0, q0, hargs, rfl, rfl, h0, r0⟩ := trodAll_cons hA
  obtain ⟨v1, vs1, d1, ds1, p1, q1, rfl, rfl, rfl, h1, r1⟩ := trodAll_cons r0
  obtain ⟨v2, vs2, d2, ds2, p2, q2, rfl, rfl, rfl, h2, r2⟩ := trodAll_cons r1
  obtain ⟨rfl, rfl, rfl⟩ := trodAll_nil r2
  obtain rfl : args = #[v0, v1, v2] := by cases args; simp_all
  obtain ⟨rfl, rfl⟩ := trodVars_none hV
  obtain ⟨a0, rfl, rfl, rfl, w0⟩ := open_int Try.underlying3 (hval 0 3 v0 rfl rfl) h0
  obtain ⟨a1, rfl, rfl, rfl, w1⟩ := open_int Try.underlying3 (hval 1 3 v1 rfl rfl) h1
  obtain ⟨a2, rfl, rfl, rfl, w2⟩ := open_int Try.underlying3 (hval 2 3 v2 rfl rfl) h2
  simp only [List.append_nil] at hW'
  clear hA0 hval0
  refine (walk_StepsNew W a0 a1 a2).mono fun e W' ⟨he, bel⟩ => ?_
  subst he
  exact ⟨_, rfl, _, _, _, [], _, [], hW', trodAll_mk1 (shut_bool Try.underlying4 _), (trodAll_cons_mk (shut_int Try.underlying3 w0) (trodAll_cons_mk (shut_int Try.underlying3 w1) (trodAll_cons_mk (shut_int Try.underlying3 w2) trodAll_mk0))), rfl, bel.frame _, fun h => by cases h⟩

theorem over : Rows.stepsNewRow.holds Try.pinned (OpenSpec.ofChange Rows.stepsNewSpec) :=
  OpenClaim.holds_of_wide 10 Try.f10 rfl rfl rfl rfl rfl rfl rfl ⟨rfl, rfl, rfl, rfl, rfl⟩ rfl rfl rfl rfl rfl (by kernel_rfl) Try.func10 (by kernel_rfl)
    (of_decide_eq_true (by kernel_rfl)) (by unfold Func.isWrapper; first | (rw [if_pos (by decide +kernel)]; kernel_rfl) | (rw [if_neg (by decide +kernel)]; exact ⟨rfl, rfl⟩))
    (fun os started H enc _ => lifted os started H enc)

theorem proved : Rows.StepsNewSaid := over
#print axioms proved
end stepsNew
end Go.Proofs.Ytmlkomcjbcolhaa

