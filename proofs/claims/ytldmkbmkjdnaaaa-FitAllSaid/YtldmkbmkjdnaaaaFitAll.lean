/- FitAll: for any steps, window and numbers, the law returns true, and all read afterwards as before. No condition. -/
import Derived.Test.YtldmkbmkjdnaaaaRows
import Derived.Test.YtldmkbmkjdnaaaaFitN
import Derived.Test.YtldmkbmkjdnaaaaFitArg
import Derived.WalkKit
import Derived.ProofKit
import Derived.OpenShut
import Derived.ShutString
import Derived.ChangeOld
import Derived.Below
namespace Go.Proofs.Ytldmkbmkjdnaaaa
open Go.ChangeShapes Go.WideShapes Go.ChangeAt Go.RowKit
open Stp (blw al kp dr drN Stp.below new2)
open Ft
set_option linter.unusedVariables false

set_option maxRecDepth 100000 in
set_option maxHeartbeats 3200000 in
theorem walk_FitAll (w : World) (A : Option Addr) (c0 : Nat) (l : List StepD) (h : Stp.Stp w A c0 l) (a b n d : Int) :
    Calls Try.prog 6 #[.slice A l.length c0, .agg #[.int .i64 a, .int .i64 b], .int .i64 n, .int .i64 d] w fun e w' => e = .returned (.bool true) ∧ Below w.heap.size w w' := by
  have HK := Lib.hid known10_any
  obtain ⟨m, hm⟩ : ∃ m, l.length = m := ⟨_, rfl⟩
  have hml : m ≤ 9223372036854775807 := by rw [← hm]; exact h.lenI
  rw [hm]
  by_cases hlong : 20 < m
  · clear h hm
    go_enter Try.func6, Try.ntmps6
    go_wp2_with fail
    refine (HK.out _).mono ?_
    rintro e w' ⟨rfl, hw⟩
    go_wp2
    go_ret
    exact ⟨rfl, blw (al w _) hw⟩
  have HA := Lib.hid fun W (hW : Below w.heap.size w W) => all_any l a b n d A m c0 hm W (h.below hW)
  have HC := Lib.hid fun W (hW : Below w.heap.size w W) => rchk_any l a b n d A m c0 hm W (h.below hW)
  unfold RetW2 at HA
  rcases req_or l a b n d with hq | hq
  case inr =>
    have k1 : allL l a b n d = [] := by unfold allL; rw [if_neg (by omega)]
    rw [k1, hq] at HA
    rw [hq] at HC
    clear h hm hq k1
    obtain ⟨x0, x1⟩ := new2 w (.int .i64 a) (.int .i64 b) 28
    go_enter Try.func6, Try.ntmps6
    go_wp2_with fail
    refine (HA.out _ (al w _)).mono ?_
    rintro e w1 ⟨A1, c1, rfl, hs1, hb1⟩
    have HS1 := Lib.hid hs1
    have HW1 := Lib.hid (blw (al w (.cells #[.int .i64 a, .int .i64 b] 28)) hb1)
    have y0 := kp hb1 x0; have y1 := kp hb1 x1
    clear hb1 x0 x1 hs1
    go_wp2_with fail
    refine (HC.out _ HW1.out).mono ?_
    rintro e w2 ⟨rfl, hb2⟩
    have HS2 := Lib.hid (HS1.out.below hb2)
    have HW2 := Lib.hid (blw HW1.out hb2)
    have z0 := kp hb2 y0; have z1 := kp hb2 y1
    clear hb2 y0 y1
    go_wp2_with fail
    refine (HK.out _).mono ?_
    rintro e w' ⟨rfl, hw⟩
    go_wp2
    go_ret
    exact ⟨rfl, blw HW2.out hw⟩
  have hr := req_yes.1 hq
  have HR := Lib.hid fun W (hW : Below w.heap.size w W) => rall_any l a b n d hr A m c0 hm W (h.below hW)
  unfold RetW at HR
  have k1 : allL l a b n d = fitL l n d a b := by unfold allL; rw [if_pos hq]
  obtain ⟨R, hR⟩ : ∃ R, fitL l n d a b = R := ⟨_, rfl⟩
  obtain ⟨q, hql⟩ : ∃ q, R.length = q := ⟨_, rfl⟩
  rw [k1, hq, hR, hql] at HA
  rw [hR, hql] at HR
  rw [hq] at HC
  have HSM := Lib.hid fun (A B : Option Addr) (c d : Nat) (W : World) (hs : Stp.Stp W A c R) (hs' : Stp.Stp W B d R) => rsamew_any R q hql W A B c d hs hs'
  clear h hm hq k1 hR hql hr
  obtain ⟨x0, x1⟩ := new2 w (.int .i64 a) (.int .i64 b) 28
  go_enter Try.func6, Try.ntmps6
  go_wp2_with fail
  refine (HA.out _ (al w _)).mono ?_
  rintro e w1 ⟨A1, c1, rfl, hs1, hb1⟩
  have HS1 := Lib.hid hs1
  have HW1 := Lib.hid (blw (al w (.cells #[.int .i64 a, .int .i64 b] 28)) hb1)
  have y0 := kp hb1 x0; have y1 := kp hb1 x1
  clear hb1 x0 x1 hs1
  go_wp2_with fail
  refine (HC.out _ HW1.out).mono ?_
  rintro e w2 ⟨rfl, hb2⟩
  have HS2 := Lib.hid (HS1.out.below hb2)
  have HW2 := Lib.hid (blw HW1.out hb2)
  have z0 := kp hb2 y0; have z1 := kp hb2 y1
  clear hb2 y0 y1
  go_wp2_with fail
  refine (HR.out _ HW2.out).mono ?_
  rintro e w3 ⟨A3, c3, rfl, hs3, hb3⟩
  have HS3 := Lib.hid (HS2.out.below hb3)
  have HT3 := Lib.hid hs3
  have HW3 := Lib.hid (blw HW2.out hb3)
  clear hb3 hs3 z0 z1
  go_wp2_with fail
  refine (HSM.out _ _ _ _ _ HS3.out HT3.out).mono ?_
  rintro e w4 ⟨rfl, hb4⟩
  have HW4 := Lib.hid (blw HW3.out hb4)
  clear hb4
  go_wp2_with fail
  refine (HK.out _).mono ?_
  rintro e w' ⟨rfl, hw⟩
  go_wp2
  go_ret
  exact ⟨rfl, blw HW4.out hw⟩

namespace fitAll
open Go.ChangeShapes Go.WideShapes Go.ChangeAt Go.RowKit
theorem own : ownKnob Try.prog.godebug = none := by kernel_rfl
theorem laidOut : laidOutB Try.prog = true := by kernel_rfl

set_option maxRecDepth 100000 in
theorem lifted (os : Os) (started : os.Started) (H : Type) (enc : TypeId × Value → H) :
    ReturnsInHanded {} Try.checked os 6 .any (Rows.fitAllSpec.pre6 enc Try.prog Try.f6 Rows.fitAllRow.domain false) (Rows.fitAllSpec.post enc Try.prog Try.f6 false true false false) := by
  refine returnsInHanded_of_change (C := Try.checked) own started (by kernel_rfl) Try.func6
    (ChangeSpec.witness6 (enc := enc) (C := Try.checked) false ⟨#[], #[.slice none 0 0, .agg #[.int .i64 0, .int .i64 0], .int .i64 0, .int .i64 0], []⟩ 8 (by kernel_rfl) (by kernel_rfl) (by kernel_rfl) (by kernel_rfl)) ?_
  intro W base args ds gs before hval0 hW hcnd _
  have hval : ∀ (j : Nat) t v, Try.f6.params[j]? = some t → args[j]? = some v → Value.okWide Try.prog W .any base t v := hval0
  have hW' := hW
  obtain ⟨p, q, hA0, hV, rfl, hfz, hnd⟩ := hW
  have hA : DataW.TrodAll enc Try.prog W 0 (fun _ => true) true Try.f6.params.toList args.toList ds p := hA0
  rw [Try.params6] at hA hval
  obtain ⟨v0, vs0, d0, ds0, p0, q0, hargs, rfl, rfl, h0, r0⟩ := trodAll_cons hA
  obtain ⟨v1, vs1, d1, ds1, p1, q1, rfl, rfl, rfl, h1, r1⟩ := trodAll_cons r0
  obtain ⟨v2, vs2, d2, ds2, p2, q2, rfl, rfl, rfl, h2, r2⟩ := trodAll_cons r1
  obtain ⟨v3, vs3, d3, ds3, p3, q3, rfl, rfl, rfl, h3, r3⟩ := trodAll_cons r2
  obtain ⟨rfl, rfl, rfl⟩ := trodAll_nil r3
  obtain rfl : args = #[v0, v1, v2, v3] := by cases args; simp_all
  obtain ⟨rfl, rfl⟩ := trodVars_none hV
  have k0 := h0
  have lt0 : ∀ x ∈ p0, x.block < W.heap.size := by obtain ⟨m, hm⟩ := k0; exact DataW.trod_lt m _ _ _ hm
  obtain ⟨A0, l0, c0, e0⟩ := okWide_slice Try.underlying22 (hval 0 22 v0 rfl rfl)
  obtain ⟨fuel0, hf0⟩ := h0
  rw [show v0.cells.toList = [v0] from by rw [e0]; rfl] at hf0
  clear e0 A0 l0 c0
  obtain ⟨A0, c0, z0, rfl, w0⟩ := Stp.steps_arg hf0
  have k1 := h1
  have lt1 : ∀ x ∈ p1, x.block < W.heap.size := by obtain ⟨m, hm⟩ := k1; exact DataW.trod_lt m _ _ _ hm
  obtain ⟨cs1, e1, _⟩ := okWide_struct Try.underlying28 (hval 1 28 v1 rfl rfl)
  obtain ⟨fuel1, hf1⟩ := h1
  rw [show v1.cells.toList = cs1.toList from by rw [e1]; rfl] at hf1
  obtain ⟨x1, y1, hcs1⟩ := Ft.win_arg hf1
  obtain rfl : cs1 = #[.int .i64 x1, .int .i64 y1] := by rw [← Array.toArray_toList (xs := cs1), hcs1]
  subst e1
  clear hf1 hcs1
  obtain ⟨a2, rfl, rfl, rfl, w2⟩ := open_int Try.underlying3 (hval 2 3 v2 rfl rfl) h2
  obtain ⟨a3, rfl, rfl, rfl, w3⟩ := open_int Try.underlying3 (hval 3 3 v3 rfl rfl) h3
  clear hA0 hval0
  refine (walk_FitAll W A0 c0 z0 w0 x1 y1 a2 a3).mono fun e W' ⟨he, bel⟩ => ?_
  subst he
  exact ⟨_, rfl, _, _, _, [], _, [], hW', trodAll_mk1 (shut_bool Try.underlying4 _), (trodAll_cons_mk (Below.trod laidOut (by kernel_rfl) (of_decide_eq_true (by kernel_rfl)) k0 bel lt0) (trodAll_cons_mk (Below.trod laidOut (by kernel_rfl) (of_decide_eq_true (by kernel_rfl)) k1 bel lt1) (trodAll_cons_mk (shut_int Try.underlying3 w2) (trodAll_cons_mk (shut_int Try.underlying3 w3) trodAll_mk0)))), rfl, bel.frame _, fun h => by cases h⟩

theorem over : Rows.fitAllRow.holds Try.pinned (OpenSpec.ofChange Rows.fitAllSpec) :=
  OpenClaim.holds_of_wide 6 Try.f6 rfl rfl rfl rfl rfl rfl rfl ⟨rfl, rfl, rfl, rfl, rfl⟩ rfl rfl rfl rfl rfl (by kernel_rfl) Try.func6 (by kernel_rfl)
    (of_decide_eq_true (by kernel_rfl)) (by unfold Func.isWrapper; first | (rw [if_pos (by decide +kernel)]; kernel_rfl) | (rw [if_neg (by decide +kernel)]; exact ⟨rfl, rfl⟩))
    (fun os started H enc _ => lifted os started H enc)

theorem proved : Rows.FitAllSaid := over
#print axioms proved
end fitAll
end Go.Proofs.Ytldmkbmkjdnaaaa

