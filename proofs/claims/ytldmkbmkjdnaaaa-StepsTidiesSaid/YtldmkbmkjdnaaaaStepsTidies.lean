/- StepsTidies: for any two lists of steps, the law returns true, and both read afterwards as before. No condition. -/
import Derived.Test.YtldmkbmkjdnaaaaRows
import Derived.Test.YtldmkbmkjdnaaaaTidH
import Derived.Test.YtldmkbmkjdnaaaaTidJ
import Derived.Test.YtldmkbmkjdnaaaaStpArg
import Derived.WalkKit
import Derived.ProofKit
import Derived.OpenShut
import Derived.ShutString
import Derived.ChangeOld
import Derived.Below
namespace Go.Proofs.Ytldmkbmkjdnaaaa
open Go.ChangeShapes Go.WideShapes Go.ChangeAt Go.RowKit
open Stp (blw al kp Stp.below known9_any RetP OwnS TidyR rsame_any sameB sameB_iff tidyA_any rtidyA_any psame_any)
set_option linter.unusedVariables false

set_option maxRecDepth 100000 in
set_option maxHeartbeats 3200000 in
theorem walk_StepsTidies (w : World) (A : Option Addr) (c0 : Nat) (l : List StepD) (h : Stp.Stp w A c0 l) (B : Option Addr) (d0 : Nat) (m : List StepD) (h' : Stp.Stp w B d0 m) :
    Calls Try.prog 3 #[.slice A l.length c0, .slice B m.length d0] w fun e w' => e = .returned (.bool true) ∧ Below w.heap.size w w' := by
  have HK := Lib.hid known9_any
  obtain ⟨n, hn⟩ : ∃ n, l.length = n := ⟨_, rfl⟩
  obtain ⟨k, hk⟩ : ∃ k, m.length = k := ⟨_, rfl⟩
  have hnl : n ≤ 9223372036854775807 := by rw [← hn]; exact h.lenI
  have hkl : k ≤ 9223372036854775807 := by rw [← hk]; exact h'.lenI
  rw [hn, hk]
  by_cases hlong : 60 < n
  · clear h h' hn hk
    go_enter Try.func3, Try.ntmps3
    go_wp2_with fail
    refine (HK.out _).mono ?_
    rintro e w' ⟨rfl, hw⟩
    go_wp2
    go_ret
    exact ⟨rfl, hw⟩
  by_cases hlong2 : 60 < k
  · clear h h' hn hk
    go_enter Try.func3, Try.ntmps3
    go_wp2_with fail
    refine (HK.out _).mono ?_
    rintro e w' ⟨rfl, hw⟩
    go_wp2
    go_ret
    exact ⟨rfl, hw⟩
  have HT := Lib.hid fun W (hW : Below w.heap.size w W) => tidyA_any l A n c0 hn (by omega) W (h.below hW)
  have HR := Lib.hid fun W (hW : Below w.heap.size w W) => rtidyA_any l A n c0 hn (by omega) W (h.below hW)
  have HP := Lib.hid fun W (hW : Below w.heap.size w W) => psame_any l m A B n k c0 d0 hn hk W (h.below hW) (h'.below hW)
  have HQ := Lib.hid fun W (hW : Below w.heap.size w W) => rsame_any l m A B n k c0 d0 hn hk W (h.below hW) (h'.below hW)
  have HS := Lib.hid fun W (hW : Below w.heap.size w W) => psame_any l l A A n n c0 c0 hn hn W (h.below hW) (h.below hW)
  rw [show sameB l l = true from sameB_iff.2 rfl] at HS
  obtain ⟨bb, hbb⟩ : ∃ bb, sameB l m = bb := ⟨_, rfl⟩
  rw [hbb] at HP HQ
  have hbe : (bb == bb) = true := by simp
  clear h h' hn hk hbb
  go_enter Try.func3, Try.ntmps3
  go_wp2_with fail
  refine (HT.out _ (Below.refl _ _)).mono ?_
  rintro e w1 ⟨R, hRn, hR, A1, c1, rfl, ho1, hb1⟩
  obtain ⟨_, hs1⟩ := ho1.stp
  obtain ⟨x, hx⟩ : ∃ x, R.length = x := ⟨_, rfl⟩
  rw [hx] at hRn ⊢
  have HTX := Lib.hid fun W (c : Nat) (A : Option Addr) (hs : Stp.Stp W A c R) => tidyA_any R A x c hx (by omega) W hs
  have HSM := Lib.hid fun (A B : Option Addr) (c d : Nat) (W : World) (hs : Stp.Stp W A c R) (hs' : Stp.Stp W B d R) => rsame_any R R A B x x c d hx hx W hs hs'
  rw [show sameB R R = true from sameB_iff.2 rfl] at HSM
  have HRR := Lib.hid hR; have HXL := Lib.hid hx
  have HS1 := Lib.hid hs1; have HW1 := Lib.hid hb1
  clear hs1 hb1 ho1 hR hx
  go_wp2_with fail
  refine (HR.out _ HW1.out).mono ?_
  rintro e w2 ⟨R', hR', A2, c2, rfl, ho2, hb2⟩
  obtain rfl : R = R' := HRR.out.uniq hR'
  obtain ⟨_, hs2⟩ := ho2.stp
  rw [HXL.out]
  have HS2 := Lib.hid hs2; have HS1b := Lib.hid (HS1.out.below hb2); have HW2 := Lib.hid (blw HW1.out hb2)
  clear hs2 hb2 ho2 hR'
  go_wp2_with fail
  refine (HSM.out _ _ _ _ _ HS1b.out HS2.out).mono ?_
  rintro e w3 ⟨rfl, hb3⟩
  have HS1c := Lib.hid (HS1b.out.below hb3); have HW3 := Lib.hid (blw HW2.out hb3)
  clear hb3
  go_wp2_with fail
  refine (HTX.out _ _ _ HS1c.out).mono ?_
  rintro e w4 ⟨R2, _, hR2, A4, c4, rfl, ho4, hb4⟩
  obtain rfl : R2 = R := HRR.out.again hR2
  obtain ⟨_, hs4⟩ := ho4.stp
  rw [HXL.out]
  have HS4 := Lib.hid hs4; have HS1d := Lib.hid (HS1c.out.below hb4); have HW4 := Lib.hid (blw HW3.out hb4)
  clear hs4 hb4 ho4 hR2
  go_wp2_with fail
  refine (HSM.out _ _ _ _ _ HS4.out HS1d.out).mono ?_
  rintro e w5 ⟨rfl, hb5⟩
  have HW5 := Lib.hid (blw HW4.out hb5)
  clear hb5
  go_wp2_with fail
  refine (HP.out _ HW5.out).mono ?_
  rintro e w6 ⟨rfl, hb6⟩
  have HW6 := Lib.hid (blw HW5.out hb6)
  clear hb6
  go_wp2_with fail
  refine (HQ.out _ HW6.out).mono ?_
  rintro e w7 ⟨rfl, hb7⟩
  have HW7 := Lib.hid (blw HW6.out hb7)
  clear hb7
  go_wp2_with fail
  refine (HS.out _ HW7.out).mono ?_
  rintro e w8 ⟨rfl, hb8⟩
  have HW8 := Lib.hid (blw HW7.out hb8)
  clear hb8
  go_wp2_with fail
  refine (HK.out _).mono ?_
  rintro e w' ⟨rfl, hw⟩
  go_wp2
  go_ret
  exact ⟨rfl, blw HW8.out hw⟩

namespace stepsTidies
open Go.ChangeShapes Go.WideShapes Go.ChangeAt Go.RowKit
theorem own : ownKnob Try.prog.godebug = none := by kernel_rfl
theorem laidOut : laidOutB Try.prog = true := by kernel_rfl

set_option maxRecDepth 100000 in
theorem lifted (os : Os) (started : os.Started) (H : Type) (enc : TypeId × Value → H) :
    ReturnsInHanded {} Try.checked os 3 .any (Rows.stepsTidiesSpec.pre6 enc Try.prog Try.f3 Rows.stepsTidiesRow.domain false) (Rows.stepsTidiesSpec.post enc Try.prog Try.f3 false true false false) := by
  refine returnsInHanded_of_change (C := Try.checked) own started (by kernel_rfl) Try.func3
    (ChangeSpec.witness6 (enc := enc) (C := Try.checked) false ⟨#[], #[.slice none 0 0, .slice none 0 0], []⟩ 8 (by kernel_rfl) (by kernel_rfl) (by kernel_rfl) (by kernel_rfl)) ?_
  intro W base args ds gs before hval0 hW hcnd _
  have hval : ∀ (j : Nat) t v, Try.f3.params[j]? = some t → args[j]? = some v → Value.okWide Try.prog W .any base t v := hval0
  have hW' := hW
  obtain ⟨p, q, hA0, hV, rfl, hfz, hnd⟩ := hW
  have hA : DataW.TrodAll enc Try.prog W 0 (fun _ => true) true Try.f3.params.toList args.toList ds p := hA0
  rw [Try.params3] at hA hval
  obtain ⟨v0, vs0, d0, ds0, p0, q0, hargs, rfl, rfl, h0, r0⟩ := trodAll_cons hA
  obtain ⟨v1, vs1, d1, ds1, p1, q1, rfl, rfl, rfl, h1, r1⟩ := trodAll_cons r0
  obtain ⟨rfl, rfl, rfl⟩ := trodAll_nil r1
  obtain rfl : args = #[v0, v1] := by cases args; simp_all
  obtain ⟨rfl, rfl⟩ := trodVars_none hV
  have k0 := h0
  have lt0 : ∀ x ∈ p0, x.block < W.heap.size := by obtain ⟨m, hm⟩ := k0; exact DataW.trod_lt m _ _ _ hm
  obtain ⟨A0, l0, c0, e0⟩ := okWide_slice Try.underlying22 (hval 0 22 v0 rfl rfl)
  obtain ⟨fuel0, hf0⟩ := h0
  rw [show v0.cells.toList = [v0] from by rw [e0]; rfl] at hf0
  clear e0 A0 l0 c0
  obtain ⟨A0, c0, z0, rfl, w0⟩ := Stp.steps_arg hf0
  have k1 := h1
  have lt1 : ∀ x ∈ p1, x.block < W.heap.size := by obtain ⟨m, hm⟩ := k1; exact DataW.trod_lt m _ _ _ hm
  obtain ⟨A1, l1, c1, e1⟩ := okWide_slice Try.underlying22 (hval 1 22 v1 rfl rfl)
  obtain ⟨fuel1, hf1⟩ := h1
  rw [show v1.cells.toList = [v1] from by rw [e1]; rfl] at hf1
  clear e1 A1 l1 c1
  obtain ⟨A1, c1, z1, rfl, w1⟩ := Stp.steps_arg hf1
  clear hA0 hval0
  refine (walk_StepsTidies W A0 c0 z0 w0 A1 c1 z1 w1).mono fun e W' ⟨he, bel⟩ => ?_
  subst he
  exact ⟨_, rfl, _, _, _, [], _, [], hW', trodAll_mk1 (shut_bool Try.underlying4 _), (trodAll_cons_mk (Below.trod laidOut (by kernel_rfl) (of_decide_eq_true (by kernel_rfl)) k0 bel lt0) (trodAll_cons_mk (Below.trod laidOut (by kernel_rfl) (of_decide_eq_true (by kernel_rfl)) k1 bel lt1) trodAll_mk0)), rfl, bel.frame _, fun h => by cases h⟩

theorem over : Rows.stepsTidiesRow.holds Try.pinned (OpenSpec.ofChange Rows.stepsTidiesSpec) :=
  OpenClaim.holds_of_wide 3 Try.f3 rfl rfl rfl rfl rfl rfl rfl ⟨rfl, rfl, rfl, rfl, rfl⟩ rfl rfl rfl rfl rfl (by kernel_rfl) Try.func3 (by kernel_rfl)
    (of_decide_eq_true (by kernel_rfl)) (by unfold Func.isWrapper; first | (rw [if_pos (by decide +kernel)]; kernel_rfl) | (rw [if_neg (by decide +kernel)]; exact ⟨rfl, rfl⟩))
    (fun os started H enc _ => lifted os started H enc)

theorem proved : Rows.StepsTidiesSaid := over
#print axioms proved
end stepsTidies
end Go.Proofs.Ytldmkbmkjdnaaaa

