/- StepsSums: for any two lists of steps, the law returns true, and all read afterwards as before. No condition. -/
import Derived.Test.YtmlkomcjbcolhaaRows
import Derived.Test.YtmlkomcjbcolhaaStpO
import Derived.Test.YtmlkomcjbcolhaaStpL
import Derived.Test.YtmlkomcjbcolhaaStpArg
import Derived.WalkKit
import Derived.ProofKit
import Derived.OpenShut
import Derived.ShutString
import Derived.ChangeOld
import Derived.Below
namespace Go.Proofs.Ytmlkomcjbcolhaa
open Go.ChangeShapes Go.WideShapes Go.ChangeAt Go.RowKit
open Stp (blw al kp Stp.below sumE sumL sumR sum_of sum_any rsum_any known9_any RetS rsame_any sameB sameB_iff okS)
set_option linter.unusedVariables false

theorem sumR_comm {l m : List StepD} (h : Prof l) (k : Prof m) : sumR m l = sumR l m := by
  have h1 := sum_of k h.rise h.frees
  have h2 := sum_of h k.rise k.frees
  exact uniq _ _ (-1) DD h1.norm h2.norm fun t ht => by
    have e1 := h1.val t (by omega)
    have e2 := h2.val t (by omega)
    exact e1.trans ((Int.add_comm _ _).trans e2.symm)
theorem sumE_comm (l m : List StepD) : sumE m l = sumE l m := by
  unfold sumE
  by_cases h : chkD l = true ∧ chkD m = true
  · rw [if_pos h, if_pos ⟨h.2, h.1⟩, sumR_comm (chkD_prof.1 h.1) (chkD_prof.1 h.2)]
  · rw [if_neg h, if_neg (fun e => h ⟨e.2, e.1⟩)]
theorem sumL_comm (l m : List StepD) : sumL m l = sumL l m := by
  unfold sumL
  rw [sumE_comm]
  by_cases h : sumE l m = 0
  · rw [if_pos h, if_pos h]
    unfold sumE at h
    by_cases hc : chkD l = true ∧ chkD m = true
    · exact sumR_comm (chkD_prof.1 hc.1) (chkD_prof.1 hc.2)
    · rw [if_neg hc] at h; cases h
  · rw [if_neg h, if_neg h]

set_option maxRecDepth 100000 in
set_option maxHeartbeats 3200000 in
theorem walk_StepsSums (w : World) (A : Option Addr) (c0 : Nat) (l : List StepD) (h : Stp.Stp w A c0 l) (B : Option Addr) (d0 : Nat) (m : List StepD) (h' : Stp.Stp w B d0 m) :
    Calls Try.prog 5 #[.slice A l.length c0, .slice B m.length d0] w fun e w' => e = .returned (.bool true) ∧ Below w.heap.size w w' := by
  have HK := Lib.hid known9_any
  obtain ⟨n, hn⟩ : ∃ n, l.length = n := ⟨_, rfl⟩
  obtain ⟨k, hk⟩ : ∃ k, m.length = k := ⟨_, rfl⟩
  have hnl : n ≤ 9223372036854775807 := by rw [← hn]; exact h.lenI
  have hkl : k ≤ 9223372036854775807 := by rw [← hk]; exact h'.lenI
  rw [hn, hk]
  by_cases hlong : 60 < n
  · clear h h' hn hk
    go_enter Try.func5, Try.ntmps5
    go_wp2_with fail
    refine (HK.out _).mono ?_
    rintro e w' ⟨rfl, hw⟩
    go_wp2
    go_ret
    exact ⟨rfl, hw⟩
  by_cases hlong2 : 60 < k
  · clear h h' hn hk
    go_enter Try.func5, Try.ntmps5
    go_wp2_with fail
    refine (HK.out _).mono ?_
    rintro e w' ⟨rfl, hw⟩
    go_wp2
    go_ret
    exact ⟨rfl, hw⟩
  have HA := Lib.hid fun W (hW : Below w.heap.size w W) => sum_any l m A B n k c0 d0 hn hk (by omega) W (h.below hW) (h'.below hW)
  have HR := Lib.hid fun W (hW : Below w.heap.size w W) => rsum_any l m A B n k c0 d0 hn hk (by omega) W (h.below hW) (h'.below hW)
  have HB := Lib.hid fun W (hW : Below w.heap.size w W) => sum_any m l B A k n d0 c0 hk hn (by omega) W (h'.below hW) (h.below hW)
  unfold RetS at HA HR HB
  rw [sumE_comm, sumL_comm] at HB
  obtain ⟨e1, he1⟩ : ∃ e, sumE l m = e := ⟨_, rfl⟩
  obtain ⟨x, hx⟩ : ∃ x, sumL l m = x := ⟨_, rfl⟩
  obtain ⟨xn, hxn⟩ : ∃ xn, x.length = xn := ⟨_, rfl⟩
  rw [he1, hx, hxn] at HA HR HB
  have HSM := Lib.hid fun (A B : Option Addr) (c d : Nat) (W : World) (hs : Stp.Stp W A c x) (hs' : Stp.Stp W B d x) => rsame_any x x A B xn xn c d hxn hxn W hs hs'
  rw [show sameB x x = true from sameB_iff.2 rfl] at HSM
  have hbe : (e1 == e1) = true := by simp
  clear h h' hn hk he1 hx hxn
  go_enter Try.func5, Try.ntmps5
  go_wp2_with fail
  refine (HA.out _ (Below.refl _ _)).mono ?_
  rintro e w1 ⟨A1, c1, rfl, hs1, hb1⟩
  have HS1 := Lib.hid hs1; have HW1 := Lib.hid hb1
  clear hs1 hb1
  go_wp2_with fail
  refine (HR.out _ HW1.out).mono ?_
  rintro e w2 ⟨A2, c2, rfl, hs2, hb2⟩
  have HS2 := Lib.hid hs2; have HS1b := Lib.hid (HS1.out.below hb2); have HW2 := Lib.hid (blw HW1.out hb2)
  clear hs2 hb2
  go_wp2_with fail
  refine (HB.out _ HW2.out).mono ?_
  rintro e w3 ⟨A3, c3, rfl, hs3, hb3⟩
  have HS3 := Lib.hid hs3; have HS2b := Lib.hid (HS2.out.below hb3); have HS1c := Lib.hid (HS1b.out.below hb3); have HW3 := Lib.hid (blw HW2.out hb3)
  clear hs3 hb3
  go_wp2_with fail
  refine (HSM.out _ _ _ _ _ HS1c.out HS2b.out).mono ?_
  rintro e w4 ⟨rfl, hb4⟩
  have HS3b := Lib.hid (HS3.out.below hb4); have HS1d := Lib.hid (HS1c.out.below hb4); have HW4 := Lib.hid (blw HW3.out hb4)
  clear hb4
  go_wp2_with fail
  refine (HSM.out _ _ _ _ _ HS3b.out HS1d.out).mono ?_
  rintro e w5 ⟨rfl, hb5⟩
  have HW5 := Lib.hid (blw HW4.out hb5)
  clear hb5
  go_wp2_with fail
  refine (HK.out _).mono ?_
  rintro e w' ⟨rfl, hw⟩
  go_wp2
  go_ret
  exact ⟨rfl, blw HW5.out hw⟩

namespace stepsSums
open Go.ChangeShapes Go.WideShapes Go.ChangeAt Go.RowKit
theorem own : ownKnob Try.prog.godebug = none := by kernel_rfl
theorem laidOut : laidOutB Try.prog = true := by kernel_rfl

set_option maxRecDepth 100000 in
theorem lifted (os : Os) (started : os.Started) (H : Type) (enc : TypeId × Value → H) :
    ReturnsInHanded {} Try.checked os 5 .any (Rows.stepsSumsSpec.pre6 enc Try.prog Try.f5 Rows.stepsSumsRow.domain false) (Rows.stepsSumsSpec.post enc Try.prog Try.f5 false true false false) := by
  refine returnsInHanded_of_change (C := Try.checked) own started (by kernel_rfl) Try.func5
    (ChangeSpec.witness6 (enc := enc) (C := Try.checked) false ⟨#[], #[.slice none 0 0, .slice none 0 0], []⟩ 8 (by kernel_rfl) (by kernel_rfl) (by kernel_rfl) (by kernel_rfl)) ?_
  intro W base args ds gs before hval0 hW hcnd _
  have hval : ∀ (j : Nat) t v, Try.f5.params[j]? = some t → args[j]? = some v → Value.okWide Try.prog W .any base t v := hval0
  have hW' := hW
  obtain ⟨p, q, hA0, hV, rfl, hfz, hnd⟩ := hW
  have hA : DataW.TrodAll enc Try.prog W 0 (fun _ => true) true Try.f5.params.toList args.toList ds p := hA0
  rw [Try.params5] at hA hval
  obtain ⟨v0, vs0, d0, ds0, p0, q0, hargs, rfl, rfl, h0, r0⟩ := trodAll_cons hA
  obtain ⟨v1, vs1, d1, ds1, p1, q1, rfl, rfl, rfl, h1, r1⟩ := trodAll_cons r0
  obtain ⟨rfl, rfl, rfl⟩ := trodAll_nil r1
  obtain rfl : args = #[v0, v1] := by cases args; simp_all
  obtain ⟨rfl, rfl⟩ := trodVars_none hV
  have k0 := h0
  have lt0 : ∀ x ∈ p0, x.block < W.heap.size := by obtain ⟨m, hm⟩ := k0; exact DataW.trod_lt m _ _ _ hm
  obtain ⟨A0, l0, c0, e0⟩ := okWide_slice Try.underlying22 (hval 0 22 v0 rfl rfl)
  obtain ⟨fuel0, hf0⟩ := h0
  rw [show v0.cells.toList = [v0] from by rw [e0]; rfl] at hf0
  clear e0 A0 l0 c0
  obtain ⟨A0, c0, z0, rfl, w0⟩ := Stp.steps_arg hf0
  have k1 := h1
  have lt1 : ∀ x ∈ p1, x.block < W.heap.size := by obtain ⟨m, hm⟩ := k1; exact DataW.trod_lt m _ _ _ hm
  obtain ⟨A1, l1, c1, e1⟩ := okWide_slice Try.underlying22 (hval 1 22 v1 rfl rfl)
  obtain ⟨fuel1, hf1⟩ := h1
  rw [show v1.cells.toList = [v1] from by rw [e1]; rfl] at hf1
  clear e1 A1 l1 c1
  obtain ⟨A1, c1, z1, rfl, w1⟩ := Stp.steps_arg hf1
  clear hA0 hval0
  refine (walk_StepsSums W A0 c0 z0 w0 A1 c1 z1 w1).mono fun e W' ⟨he, bel⟩ => ?_
  subst he
  exact ⟨_, rfl, _, _, _, [], _, [], hW', trodAll_mk1 (shut_bool Try.underlying4 _), (trodAll_cons_mk (Below.trod laidOut (by kernel_rfl) (of_decide_eq_true (by kernel_rfl)) k0 bel lt0) (trodAll_cons_mk (Below.trod laidOut (by kernel_rfl) (of_decide_eq_true (by kernel_rfl)) k1 bel lt1) trodAll_mk0)), rfl, bel.frame _, fun h => by cases h⟩

theorem over : Rows.stepsSumsRow.holds Try.pinned (OpenSpec.ofChange Rows.stepsSumsSpec) :=
  OpenClaim.holds_of_wide 5 Try.f5 rfl rfl rfl rfl rfl rfl rfl ⟨rfl, rfl, rfl, rfl, rfl⟩ rfl rfl rfl rfl rfl (by kernel_rfl) Try.func5 (by kernel_rfl)
    (of_decide_eq_true (by kernel_rfl)) (by unfold Func.isWrapper; first | (rw [if_pos (by decide +kernel)]; kernel_rfl) | (rw [if_neg (by decide +kernel)]; exact ⟨rfl, rfl⟩))
    (fun os started H enc _ => lifted os started H enc)

theorem proved : Rows.StepsSumsSaid := over
#print axioms proved
end stepsSums
end Go.Proofs.Ytmlkomcjbcolhaa

