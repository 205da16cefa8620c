/- StepsEnds: for any steps and any two ints, the law returns true, and all read afterwards as before. No condition. -/
import Derived.Test.YtmlkomcjbcolhaaRows
import Derived.Test.YtmlkomcjbcolhaaStpR
import Derived.Test.YtmlkomcjbcolhaaStpL
import Derived.Test.YtmlkomcjbcolhaaStpArg
import Derived.WalkKit
import Derived.ProofKit
import Derived.OpenShut
import Derived.ShutString
import Derived.ChangeOld
import Derived.Below
namespace Go.Proofs.Ytmlkomcjbcolhaa
open Go.ChangeShapes Go.WideShapes Go.ChangeAt Go.RowKit
open Stp (blw al kp Stp.below known9_any area_any areaV least_any most_any at_any rat_any rends_any rarea_any)
set_option linter.unusedVariables false

set_option maxRecDepth 100000 in
set_option maxHeartbeats 3200000 in
theorem walk_StepsEnds (w : World) (A : Option Addr) (c0 : Nat) (l : List StepD) (h : Stp.Stp w A c0 l) (a b : Int) :
    Calls Try.prog 4 #[.slice A l.length c0, .int .i64 a, .int .i64 b] w fun e w' => e = .returned (.bool true) ∧ Below w.heap.size w w' := by
  have HK := Lib.hid known9_any
  obtain ⟨n, hn⟩ : ∃ n, l.length = n := ⟨_, rfl⟩
  have hnl : n ≤ 9223372036854775807 := by rw [← hn]; exact h.lenI
  rw [hn]
  by_cases hlong : 60 < n
  · clear h hn
    go_enter Try.func4, Try.ntmps4
    go_wp2_with fail
    refine (HK.out _).mono ?_
    rintro e w' ⟨rfl, hw⟩
    go_wp2
    go_ret
    exact ⟨rfl, hw⟩
  have HL := Lib.hid fun W (hW : Below w.heap.size w W) => least_any l a b A n c0 hn W (h.below hW)
  have HM := Lib.hid fun W (hW : Below w.heap.size w W) => most_any l a b A n c0 hn W (h.below hW)
  have HA := Lib.hid fun W (hW : Below w.heap.size w W) => area_any l a b A n c0 hn (by omega) W (h.below hW)
  have HE := Lib.hid fun W (hW : Below w.heap.size w W) => rends_any l a b A n c0 hn W (h.below hW)
  have HR := Lib.hid fun W (hW : Below w.heap.size w W) => rarea_any l a b A n c0 hn (by omega) W (h.below hW)
  have HT := Lib.hid fun W (hW : Below w.heap.size w W) => at_any l a A n c0 hn W (h.below hW)
  have HU := Lib.hid fun W (hW : Below w.heap.size w W) => rat_any l a A n c0 hn W (h.below hW)
  obtain ⟨x, hx⟩ : ∃ x, minV l a b = x := ⟨_, rfl⟩
  obtain ⟨y, hy⟩ : ∃ x, maxV l a b = x := ⟨_, rfl⟩
  obtain ⟨z, hz⟩ : ∃ x, areaV l a b = x := ⟨_, rfl⟩
  obtain ⟨e1, he1⟩ : ∃ x, endE l a b = x := ⟨_, rfl⟩
  obtain ⟨e2, he2⟩ : ∃ x, durE l a b = x := ⟨_, rfl⟩
  obtain ⟨v, hv⟩ : ∃ x, atV l a = x := ⟨_, rfl⟩
  rw [hx, he1] at HL
  rw [hy, he1] at HM
  rw [hz, he2] at HA HR
  rw [hx, hy, he1] at HE
  rw [hv] at HT HU
  have b1 : (x == x) = true := by simp
  have b2 : (y == y) = true := by simp
  have b3 : (z == z) = true := by simp
  have b4 : (e1 == e1) = true := by simp
  have b5 : (e2 == e2) = true := by simp
  have b6 : (v == v) = true := by simp
  clear h hn hx hy hz he1 he2 hv
  go_enter Try.func4, Try.ntmps4
  go_wp2_with fail
  refine (HL.out _ (Below.refl _ _)).mono ?_
  rintro e w1 ⟨rfl, hb1⟩
  have HW1 := Lib.hid hb1
  clear hb1
  go_wp2_with fail
  refine (HM.out _ HW1.out).mono ?_
  rintro e w2 ⟨rfl, hb2⟩
  have HW2 := Lib.hid (blw HW1.out hb2)
  clear hb2
  go_wp2_with fail
  refine (HA.out _ HW2.out).mono ?_
  rintro e w3 ⟨rfl, hb3⟩
  have HW3 := Lib.hid (blw HW2.out hb3)
  clear hb3
  go_wp2_with fail
  refine (HE.out _ HW3.out).mono ?_
  rintro e w4 ⟨rfl, hb4⟩
  have HW4 := Lib.hid (blw HW3.out hb4)
  clear hb4
  go_wp2_with fail
  refine (HR.out _ HW4.out).mono ?_
  rintro e w5 ⟨rfl, hb5⟩
  have HW5 := Lib.hid (blw HW4.out hb5)
  clear hb5
  go_wp2_with fail
  refine (HT.out _ HW5.out).mono ?_
  rintro e w6 ⟨rfl, hb6⟩
  have HW6 := Lib.hid (blw HW5.out hb6)
  clear hb6
  go_wp2_with fail
  refine (HU.out _ HW6.out).mono ?_
  rintro e w7 ⟨rfl, hb7⟩
  have HW7 := Lib.hid (blw HW6.out hb7)
  clear hb7
  go_wp2_with fail
  refine (HK.out _).mono ?_
  rintro e w' ⟨rfl, hw⟩
  go_wp2
  go_ret
  exact ⟨rfl, blw HW7.out hw⟩

namespace stepsEnds
open Go.ChangeShapes Go.WideShapes Go.ChangeAt Go.RowKit
theorem own : ownKnob Try.prog.godebug = none := by kernel_rfl
theorem laidOut : laidOutB Try.prog = true := by kernel_rfl

set_option maxRecDepth 100000 in
theorem lifted (os : Os) (started : os.Started) (H : Type) (enc : TypeId × Value → H) :
    ReturnsInHanded {} Try.checked os 4 .any (Rows.stepsEndsSpec.pre6 enc Try.prog Try.f4 Rows.stepsEndsRow.domain false) (Rows.stepsEndsSpec.post enc Try.prog Try.f4 false true false false) := by
  refine returnsInHanded_of_change (C := Try.checked) own started (by kernel_rfl) Try.func4
    (ChangeSpec.witness6 (enc := enc) (C := Try.checked) false ⟨#[], #[.slice none 0 0, .int .i64 0, .int .i64 0], []⟩ 8 (by kernel_rfl) (by kernel_rfl) (by kernel_rfl) (by kernel_rfl)) ?_
  intro W base args ds gs before hval0 hW hcnd _
  have hval : ∀ (j : Nat) t v, Try.f4.params[j]? = some t → args[j]? = some v → Value.okWide Try.prog W .any base t v := hval0
  have hW' := hW
  obtain ⟨p, q, hA0, hV, rfl, hfz, hnd⟩ := hW
  have hA : DataW.TrodAll enc Try.prog W 0 (fun _ => true) true Try.f4.params.toList args.toList ds p := hA0
  rw [Try.params4] at hA hval
  obtain ⟨v0, vs0, d0, ds0, p0, q0, hargs, rfl, rfl, h0, r0⟩ := trodAll_cons hA
  obtain ⟨v1, vs1, d1, ds1, p1, q1, rfl, rfl, rfl, h1, r1⟩ := trodAll_cons r0
  obtain ⟨v2, vs2, d2, ds2, p2, q2, rfl, rfl, rfl, h2, r2⟩ := trodAll_cons r1
  obtain ⟨rfl, rfl, rfl⟩ := trodAll_nil r2
  obtain rfl : args = #[v0, v1, v2] := by cases args; simp_all
  obtain ⟨rfl, rfl⟩ := trodVars_none hV
  have k0 := h0
  have lt0 : ∀ x ∈ p0, x.block < W.heap.size := by obtain ⟨m, hm⟩ := k0; exact DataW.trod_lt m _ _ _ hm
  obtain ⟨A0, l0, c0, e0⟩ := okWide_slice Try.underlying22 (hval 0 22 v0 rfl rfl)
  obtain ⟨fuel0, hf0⟩ := h0
  rw [show v0.cells.toList = [v0] from by rw [e0]; rfl] at hf0
  clear e0 A0 l0 c0
  obtain ⟨A0, c0, z0, rfl, w0⟩ := Stp.steps_arg hf0
  obtain ⟨a1, rfl, rfl, rfl, w1⟩ := open_int Try.underlying3 (hval 1 3 v1 rfl rfl) h1
  obtain ⟨a2, rfl, rfl, rfl, w2⟩ := open_int Try.underlying3 (hval 2 3 v2 rfl rfl) h2
  clear hA0 hval0
  refine (walk_StepsEnds W A0 c0 z0 w0 a1 a2).mono fun e W' ⟨he, bel⟩ => ?_
  subst he
  exact ⟨_, rfl, _, _, _, [], _, [], hW', trodAll_mk1 (shut_bool Try.underlying4 _), (trodAll_cons_mk (Below.trod laidOut (by kernel_rfl) (of_decide_eq_true (by kernel_rfl)) k0 bel lt0) (trodAll_cons_mk (shut_int Try.underlying3 w1) (trodAll_cons_mk (shut_int Try.underlying3 w2) trodAll_mk0))), rfl, bel.frame _, fun h => by cases h⟩

theorem over : Rows.stepsEndsRow.holds Try.pinned (OpenSpec.ofChange Rows.stepsEndsSpec) :=
  OpenClaim.holds_of_wide 4 Try.f4 rfl rfl rfl rfl rfl rfl rfl ⟨rfl, rfl, rfl, rfl, rfl⟩ rfl rfl rfl rfl rfl (by kernel_rfl) Try.func4 (by kernel_rfl)
    (of_decide_eq_true (by kernel_rfl)) (by unfold Func.isWrapper; first | (rw [if_pos (by decide +kernel)]; kernel_rfl) | (rw [if_neg (by decide +kernel)]; exact ⟨rfl, rfl⟩))
    (fun os started H enc _ => lifted os started H enc)

theorem proved : Rows.StepsEndsSaid := over
#print axioms proved
end stepsEnds
end Go.Proofs.Ytmlkomcjbcolhaa

