/- FitFinds: for any steps, window and numbers, the law returns true, and all read afterwards as before. No condition. -/
import Derived.Test.YtldmkbmkjdnaaaaRows
import Derived.Test.YtldmkbmkjdnaaaaFitJ
import Derived.Test.YtldmkbmkjdnaaaaFitArg
import Derived.WalkKit
import Derived.ProofKit
import Derived.OpenShut
import Derived.ShutString
import Derived.ChangeOld
import Derived.Below
namespace Go.Proofs.Ytldmkbmkjdnaaaa
open Go.ChangeShapes Go.WideShapes Go.ChangeAt Go.RowKit
open Stp (blw al kp dr drN Stp.below new2)
open Ft
set_option linter.unusedVariables false

set_option maxRecDepth 100000 in
set_option maxHeartbeats 3200000 in
theorem walk_FitFinds (w : World) (A : Option Addr) (c0 : Nat) (l : List StepD) (h : Stp.Stp w A c0 l) (a b n d : Int) :
    Calls Try.prog 4 #[.slice A l.length c0, .agg #[.int .i64 a, .int .i64 b], .int .i64 n, .int .i64 d] w fun e w' => e = .returned (.bool true) ∧ Below w.heap.size w w' := by
  have HK := Lib.hid known10_any
  obtain ⟨m, hm⟩ : ∃ m, l.length = m := ⟨_, rfl⟩
  have hml : m ≤ 9223372036854775807 := by rw [← hm]; exact h.lenI
  rw [hm]
  by_cases hlong : 40 < m
  · clear h hm
    go_enter Try.func4, Try.ntmps4
    go_wp2_with fail
    refine (HK.out _).mono ?_
    rintro e w' ⟨rfl, hw⟩
    go_wp2
    go_ret
    exact ⟨rfl, blw (al w _) hw⟩
  have HF := Lib.hid fun W (hW : Below w.heap.size w W) => first_any l a b n d A m c0 hm W (h.below hW)
  have HL := Lib.hid fun W (hW : Below w.heap.size w W) => last_any l a b n d A m c0 hm W (h.below hW)
  have HC := Lib.hid fun W (hW : Below w.heap.size w W) => rchk_any l a b n d A m c0 hm W (h.below hW)
  rcases req_or l a b n d with hq | hq
  case inr =>
    have k1 : firstV l a b n d = 0 := by unfold firstV; rw [if_neg (by omega)]
    have k2 : firstE l a b n d = 2 := by unfold firstE; rw [if_neg (by omega)]
    have k3 : lastR l a b n d = 0 := by unfold lastR; rw [if_neg (by omega)]
    rw [k1, k2] at HF
    rw [k3, k2] at HL
    rw [hq] at HC
    clear h hm hq k1 k2 k3
    obtain ⟨x0, x1⟩ := new2 w (.int .i64 a) (.int .i64 b) 28
    go_enter Try.func4, Try.ntmps4
    go_wp2_with fail
    refine (HF.out _ (al w _)).mono ?_
    rintro e w1 ⟨rfl, hb1⟩
    have HW1 := Lib.hid (blw (al w (.cells #[.int .i64 a, .int .i64 b] 28)) hb1)
    have y0 := kp hb1 x0; have y1 := kp hb1 x1
    clear hb1 x0 x1
    go_wp2_with fail
    refine (HL.out _ HW1.out).mono ?_
    rintro e w2 ⟨rfl, hb2⟩
    have HW2 := Lib.hid (blw HW1.out hb2)
    have z0 := kp hb2 y0; have z1 := kp hb2 y1
    clear hb2 y0 y1
    go_wp2_with fail
    refine (HC.out _ HW2.out).mono ?_
    rintro e w3 ⟨rfl, hb3⟩
    have HW3 := Lib.hid (blw HW2.out hb3)
    have u0 := kp hb3 z0; have u1 := kp hb3 z1
    clear hb3 z0 z1
    go_wp2_with fail
    refine (HK.out _).mono ?_
    rintro e w' ⟨rfl, hw⟩
    go_wp2
    go_ret
    exact ⟨rfl, blw HW3.out hw⟩
  have hr := req_yes.1 hq
  have HX := Lib.hid fun W (hW : Below w.heap.size w W) => rfirst_any l hr.prof a b n d hr.ha hr.hb hr.hd A m c0 hm W (h.below hW)
  have HY := Lib.hid fun W (hW : Below w.heap.size w W) => rlast_any l hr.prof a b n d hr.ha hr.hb hr.hd A m c0 hm W (h.below hW)
  have k1 : firstV l a b n d = fstV (fitL l n d a b) := by unfold firstV; rw [if_pos hq]
  have k2 : firstE l a b n d = fstE (fitL l n d a b) := by unfold firstE; rw [if_pos hq]
  have k3 : lastR l a b n d = lstV (fitL l n d a b) := by unfold lastR; rw [if_pos hq]
  rw [k1, k2] at HF
  rw [k3, k2] at HL
  rw [hq] at HC
  rcases fir_is hr with ⟨hR, e1⟩ | ⟨hR, e1, e0⟩
  · have e2 : lasN l a b n d = -1 := by
      rcases las_is hr with ⟨_, e⟩ | ⟨h', _⟩
      · exact e
      · exact absurd hR h'
    rw [hR] at HF HL
    rw [e1] at HX
    rw [e2] at HY
    have k4 : fstV ([] : List StepD) = 0 := rfl
    have k5 : fstE ([] : List StepD) = 70 := rfl
    have k6 : lstV ([] : List StepD) = 0 := rfl
    rw [k4, k5] at HF
    rw [k6, k5] at HL
    clear h hm hq hr k1 k2 k3 k4 k5 k6 e1 e2 hR
    obtain ⟨x0, x1⟩ := new2 w (.int .i64 a) (.int .i64 b) 28
    go_enter Try.func4, Try.ntmps4
    go_wp2_with fail
    refine (HF.out _ (al w _)).mono ?_
    rintro e w1 ⟨rfl, hb1⟩
    have HW1 := Lib.hid (blw (al w (.cells #[.int .i64 a, .int .i64 b] 28)) hb1)
    have y0 := kp hb1 x0; have y1 := kp hb1 x1
    clear hb1 x0 x1
    go_wp2_with fail
    refine (HL.out _ HW1.out).mono ?_
    rintro e w2 ⟨rfl, hb2⟩
    have HW2 := Lib.hid (blw HW1.out hb2)
    have z0 := kp hb2 y0; have z1 := kp hb2 y1
    clear hb2 y0 y1
    go_wp2_with fail
    refine (HC.out _ HW2.out).mono ?_
    rintro e w3 ⟨rfl, hb3⟩
    have HW3 := Lib.hid (blw HW2.out hb3)
    have u0 := kp hb3 z0; have u1 := kp hb3 z1
    clear hb3 z0 z1
    go_wp2_with fail
    refine (HX.out _ HW3.out).mono ?_
    rintro e w4 ⟨rfl, hb4⟩
    have HW4 := Lib.hid (blw HW3.out hb4)
    have v0 := kp hb4 u0; have v1 := kp hb4 u1
    clear hb4 u0 u1
    go_wp2_with fail
    refine (HY.out _ HW4.out).mono ?_
    rintro e w5 ⟨rfl, hb5⟩
    have HW5 := Lib.hid (blw HW4.out hb5)
    clear hb5 v0 v1
    go_wp2_with fail
    refine (HK.out _).mono ?_
    rintro e w' ⟨rfl, hw⟩
    go_wp2
    go_ret
    exact ⟨rfl, blw HW5.out hw⟩
  · have e2 : lasN l a b n d = lstV (fitL l n d a b) := by
      rcases las_is hr with ⟨h', _⟩ | ⟨_, e⟩
      · exact absurd h' hR
      · exact e
    have k5 : fstE (fitL l n d a b) = 0 := fst_zero.2 hR
    rw [k5] at HF HL
    rw [e1] at HX e0
    rw [e2] at HY
    obtain ⟨x, hx⟩ : ∃ x, fstV (fitL l n d a b) = x := ⟨_, rfl⟩
    obtain ⟨y, hy⟩ : ∃ x, lstV (fitL l n d a b) = x := ⟨_, rfl⟩
    rw [hx] at HF HX e0
    rw [hy] at HL HY
    have hxx : (x == x) = true := by simp
    have hyy : (y == y) = true := by simp
    have e0n : ¬ x < 0 := by omega
    clear h hm hq hr k1 k2 k3 k5 e1 e2 hR hx hy e0
    obtain ⟨x0, x1⟩ := new2 w (.int .i64 a) (.int .i64 b) 28
    go_enter Try.func4, Try.ntmps4
    go_wp2_with fail
    refine (HF.out _ (al w _)).mono ?_
    rintro e w1 ⟨rfl, hb1⟩
    have HW1 := Lib.hid (blw (al w (.cells #[.int .i64 a, .int .i64 b] 28)) hb1)
    have y0 := kp hb1 x0; have y1 := kp hb1 x1
    clear hb1 x0 x1
    go_wp2_with fail
    refine (HL.out _ HW1.out).mono ?_
    rintro e w2 ⟨rfl, hb2⟩
    have HW2 := Lib.hid (blw HW1.out hb2)
    have z0 := kp hb2 y0; have z1 := kp hb2 y1
    clear hb2 y0 y1
    go_wp2_with fail
    refine (HC.out _ HW2.out).mono ?_
    rintro e w3 ⟨rfl, hb3⟩
    have HW3 := Lib.hid (blw HW2.out hb3)
    have u0 := kp hb3 z0; have u1 := kp hb3 z1
    clear hb3 z0 z1
    go_wp2_with fail
    refine (HX.out _ HW3.out).mono ?_
    rintro e w4 ⟨rfl, hb4⟩
    have HW4 := Lib.hid (blw HW3.out hb4)
    have v0 := kp hb4 u0; have v1 := kp hb4 u1
    clear hb4 u0 u1
    go_wp2_with fail
    refine (HY.out _ HW4.out).mono ?_
    rintro e w5 ⟨rfl, hb5⟩
    have HW5 := Lib.hid (blw HW4.out hb5)
    clear hb5 v0 v1
    go_wp2_with fail
    refine (HK.out _).mono ?_
    rintro e w' ⟨rfl, hw⟩
    go_wp2
    go_ret
    exact ⟨rfl, blw HW5.out hw⟩

namespace fitFinds
open Go.ChangeShapes Go.WideShapes Go.ChangeAt Go.RowKit
theorem own : ownKnob Try.prog.godebug = none := by kernel_rfl
theorem laidOut : laidOutB Try.prog = true := by kernel_rfl

set_option maxRecDepth 100000 in
theorem lifted (os : Os) (started : os.Started) (H : Type) (enc : TypeId × Value → H) :
    ReturnsInHanded {} Try.checked os 4 .any (Rows.fitFindsSpec.pre6 enc Try.prog Try.f4 Rows.fitFindsRow.domain false) (Rows.fitFindsSpec.post enc Try.prog Try.f4 false true false false) := by
  refine returnsInHanded_of_change (C := Try.checked) own started (by kernel_rfl) Try.func4
    (ChangeSpec.witness6 (enc := enc) (C := Try.checked) false ⟨#[], #[.slice none 0 0, .agg #[.int .i64 0, .int .i64 0], .int .i64 0, .int .i64 0], []⟩ 8 (by kernel_rfl) (by kernel_rfl) (by kernel_rfl) (by kernel_rfl)) ?_
  intro W base args ds gs before hval0 hW hcnd _
  have hval : ∀ (j : Nat) t v, Try.f4.params[j]? = some t → args[j]? = some v → Value.okWide Try.prog W .any base t v := hval0
  have hW' := hW
  obtain ⟨p, q, hA0, hV, rfl, hfz, hnd⟩ := hW
  have hA : DataW.TrodAll enc Try.prog W 0 (fun _ => true) true Try.f4.params.toList args.toList ds p := hA0
  rw [Try.params4] at hA hval
  obtain ⟨v0, vs0, d0, ds0, p0, q0, hargs, rfl, rfl, h0, r0⟩ := trodAll_cons hA
  obtain ⟨v1, vs1, d1, ds1, p1, q1, rfl, rfl, rfl, h1, r1⟩ := trodAll_cons r0
  obtain ⟨v2, vs2, d2, ds2, p2, q2, rfl, rfl, rfl, h2, r2⟩ := trodAll_cons r1
  obtain ⟨v3, vs3, d3, ds3, p3, q3, rfl, rfl, rfl, h3, r3⟩ := trodAll_cons r2
  obtain ⟨rfl, rfl, rfl⟩ := trodAll_nil r3
  obtain rfl : args = #[v0, v1, v2, v3] := by cases args; simp_all
  obtain ⟨rfl, rfl⟩ := trodVars_none hV
  have k0 := h0
  have lt0 : ∀ x ∈ p0, x.block < W.heap.size := by obtain ⟨m, hm⟩ := k0; exact DataW.trod_lt m _ _ _ hm
  obtain ⟨A0, l0, c0, e0⟩ := okWide_slice Try.underlying22 (hval 0 22 v0 rfl rfl)
  obtain ⟨fuel0, hf0⟩ := h0
  rw [show v0.cells.toList = [v0] from by rw [e0]; rfl] at hf0
  clear e0 A0 l0 c0
  obtain ⟨A0, c0, z0, rfl, w0⟩ := Stp.steps_arg hf0
  have k1 := h1
  have lt1 : ∀ x ∈ p1, x.block < W.heap.size := by obtain ⟨m, hm⟩ := k1; exact DataW.trod_lt m _ _ _ hm
  obtain ⟨cs1, e1, _⟩ := okWide_struct Try.underlying28 (hval 1 28 v1 rfl rfl)
  obtain ⟨fuel1, hf1⟩ := h1
  rw [show v1.cells.toList = cs1.toList from by rw [e1]; rfl] at hf1
  obtain ⟨x1, y1, hcs1⟩ := Ft.win_arg hf1
  obtain rfl : cs1 = #[.int .i64 x1, .int .i64 y1] := by rw [← Array.toArray_toList (xs := cs1), hcs1]
  subst e1
  clear hf1 hcs1
  obtain ⟨a2, rfl, rfl, rfl, w2⟩ := open_int Try.underlying3 (hval 2 3 v2 rfl rfl) h2
  obtain ⟨a3, rfl, rfl, rfl, w3⟩ := open_int Try.underlying3 (hval 3 3 v3 rfl rfl) h3
  clear hA0 hval0
  refine (walk_FitFinds W A0 c0 z0 w0 x1 y1 a2 a3).mono fun e W' ⟨he, bel⟩ => ?_
  subst he
  exact ⟨_, rfl, _, _, _, [], _, [], hW', trodAll_mk1 (shut_bool Try.underlying4 _), (trodAll_cons_mk (Below.trod laidOut (by kernel_rfl) (of_decide_eq_true (by kernel_rfl)) k0 bel lt0) (trodAll_cons_mk (Below.trod laidOut (by kernel_rfl) (of_decide_eq_true (by kernel_rfl)) k1 bel lt1) (trodAll_cons_mk (shut_int Try.underlying3 w2) (trodAll_cons_mk (shut_int Try.underlying3 w3) trodAll_mk0)))), rfl, bel.frame _, fun h => by cases h⟩

theorem over : Rows.fitFindsRow.holds Try.pinned (OpenSpec.ofChange Rows.fitFindsSpec) :=
  OpenClaim.holds_of_wide 4 Try.f4 rfl rfl rfl rfl rfl rfl rfl ⟨rfl, rfl, rfl, rfl, rfl⟩ rfl rfl rfl rfl rfl (by kernel_rfl) Try.func4 (by kernel_rfl)
    (of_decide_eq_true (by kernel_rfl)) (by unfold Func.isWrapper; first | (rw [if_pos (by decide +kernel)]; kernel_rfl) | (rw [if_neg (by decide +kernel)]; exact ⟨rfl, rfl⟩))
    (fun os started H enc _ => lifted os started H enc)

theorem proved : Rows.FitFindsSaid := over
#print axioms proved
end fitFinds
end Go.Proofs.Ytldmkbmkjdnaaaa

