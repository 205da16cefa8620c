/- FitEnds: for any steps, window and numbers, the law returns true, and all read afterwards as before. No condition. -/
import Derived.Test.YtldmkbmkjdnaaaaRows
import Derived.Test.YtldmkbmkjdnaaaaFitH
import Derived.Test.YtldmkbmkjdnaaaaFitArg
import Derived.WalkKit
import Derived.ProofKit
import Derived.OpenShut
import Derived.ShutString
import Derived.ChangeOld
import Derived.Below
namespace Go.Proofs.Ytldmkbmkjdnaaaa
open Go.ChangeShapes Go.WideShapes Go.ChangeAt Go.RowKit
open Stp (blw al kp dr drN Stp.below new2)
open Ft
set_option linter.unusedVariables false

set_option maxRecDepth 100000 in
set_option maxHeartbeats 3200000 in
theorem walk_FitEnds (w : World) (A : Option Addr) (c0 : Nat) (l : List StepD) (h : Stp.Stp w A c0 l) (a b n d : Int) :
    Calls Try.prog 10 #[.slice A l.length c0, .agg #[.int .i64 a, .int .i64 b], .int .i64 n, .int .i64 d] w fun e w' => e = .returned (.bool true) ∧ Below w.heap.size w w' := by
  have HK := Lib.hid known10_any
  obtain ⟨m, hm⟩ : ∃ m, l.length = m := ⟨_, rfl⟩
  have hml : m ≤ 9223372036854775807 := by rw [← hm]; exact h.lenI
  rw [hm]
  have HF := Lib.hid fun W (hW : Below w.heap.size w W) => first_any l a b n d A m c0 hm W (h.below hW)
  have HL := Lib.hid fun W (hW : Below w.heap.size w W) => last_any l a b n d A m c0 hm W (h.below hW)
  obtain ⟨e0, he⟩ : ∃ x, firstE l a b n d = x := ⟨_, rfl⟩
  rw [he] at HF HL
  have hqq : (e0 == e0) = true := by simp
  by_cases hlong : 40 < m
  · clear h hm he
    obtain ⟨x0, x1⟩ := new2 w (.int .i64 a) (.int .i64 b) 28
    go_enter Try.func10, Try.ntmps10
    go_wp2_with fail
    refine (HF.out _ (al w _)).mono ?_
    rintro e w1 ⟨rfl, hb1⟩
    have HW1 := Lib.hid (blw (al w (.cells #[.int .i64 a, .int .i64 b] 28)) hb1)
    have y0 := kp hb1 x0; have y1 := kp hb1 x1
    clear hb1 x0 x1
    go_wp2_with fail
    refine (HL.out _ HW1.out).mono ?_
    rintro e w2 ⟨rfl, hb2⟩
    have HW2 := Lib.hid (blw HW1.out hb2)
    have z0 := kp hb2 y0; have z1 := kp hb2 y1
    clear hb2 y0 y1
    go_wp2_with fail
    refine (HK.out _).mono ?_
    rintro e w' ⟨rfl, hw⟩
    go_wp2
    go_ret
    exact ⟨rfl, blw HW2.out hw⟩
  by_cases h0 : e0 = 0
  case neg =>
    have h0b : (e0 != 0) = true := by simp [h0]
    clear h hm he h0
    obtain ⟨x0, x1⟩ := new2 w (.int .i64 a) (.int .i64 b) 28
    go_enter Try.func10, Try.ntmps10
    go_wp2_with fail
    refine (HF.out _ (al w _)).mono ?_
    rintro e w1 ⟨rfl, hb1⟩
    have HW1 := Lib.hid (blw (al w (.cells #[.int .i64 a, .int .i64 b] 28)) hb1)
    have y0 := kp hb1 x0; have y1 := kp hb1 x1
    clear hb1 x0 x1
    go_wp2_with fail
    refine (HL.out _ HW1.out).mono ?_
    rintro e w2 ⟨rfl, hb2⟩
    have HW2 := Lib.hid (blw HW1.out hb2)
    have z0 := kp hb2 y0; have z1 := kp hb2 y1
    clear hb2 y0 y1
    go_wp2_with fail
    refine (HK.out _).mono ?_
    rintro e w' ⟨rfl, hw⟩
    go_wp2
    go_ret
    exact ⟨rfl, blw HW2.out hw⟩
  subst h0
  have hE := fit_ends he
  obtain ⟨x, hx⟩ : ∃ x, firstV l a b n d = x := ⟨_, rfl⟩
  obtain ⟨y, hy⟩ : ∃ x, lastR l a b n d = x := ⟨_, rfl⟩
  rw [hx] at HF
  rw [hy] at HL
  rw [hx, hy] at hE
  have ra := hE.req.ha; have rb := hE.req.hb; have rn := hE.req.hn; have rd := hE.req.hd
  have bx := hE.bx; have bby := hE.by_; have bax := hE.ax
  have HG := Lib.hid fun W (hW : Below w.heap.size w W) => first_any l x b n d A m c0 hm W (h.below hW)
  have HH := Lib.hid fun W (hW : Below w.heap.size w W) => last_any l a (y + d) n d A m c0 hm W (h.below hW)
  have HI := Lib.hid fun W (hW : Below w.heap.size w W) => first_any l a (x + d) n d A m c0 hm W (h.below hW)
  have HJ := Lib.hid fun W (hW : Below w.heap.size w W) => first_any l a (x + d - 1) n d A m c0 hm W (h.below hW)
  have HR := Lib.hid fun W (hW : Below w.heap.size w W) => rfits_any l hE.prof a b n d x rb.2 ra.1 ⟨rd.1, by omega⟩ ⟨by omega, by omega⟩ A m c0 hm W (h.below hW)
  unfold RF at HR
  rw [hE.fit] at HR
  rw [hE.c.1, hE.c.2] at HG
  rw [hE.e.1, hE.e.2] at HH
  rw [hE.f.1, hE.f.2] at HI
  have hj := hE.j; have hz0 := hE.z
  have w1' : IntKind.i64.wrap (y + d) = y + d := IntWalk.i64_in _ (by omega)
  have w2' : IntKind.i64.wrap (x + d) = x + d := IntWalk.i64_in _ (by omega)
  have w3' : IntKind.i64.wrap (x + d - 1) = x + d - 1 := IntWalk.i64_in _ (by omega)
  have hxx : (x != x) = false := by simp
  have hyy : (y != y) = false := by simp
  obtain ⟨j0, hj0⟩ : ∃ r, firstE l a (x + d - 1) n d = r := ⟨_, rfl⟩
  rw [hj0] at HJ hj
  have hjj : 0 < x + d → j0 ≠ 70 → ¬ 0 < d ∧ ¬ a < x := fun k1 k2 => ⟨fun k => k2 (hj k1 (Or.inl k)), fun k => k2 (hj k1 (Or.inr k))⟩
  clear h hm he hE hx hy hj0 hj hz0
  by_cases c1 : 0 < x + d
  case neg =>
    clear hjj HJ
    obtain ⟨x0, x1⟩ := new2 w (.int .i64 a) (.int .i64 b) 28
    go_enter Try.func10, Try.ntmps10
    go_wp2_with fail
    refine (HF.out _ (al w _)).mono ?_
    rintro e w1 ⟨rfl, hb1⟩
    have HW1 := Lib.hid (blw (al w (.cells #[.int .i64 a, .int .i64 b] 28)) hb1)
    have y0 := kp hb1 x0; have y1 := kp hb1 x1
    clear hb1 x0 x1
    go_wp2_with fail
    refine (HL.out _ HW1.out).mono ?_
    rintro e w2 ⟨rfl, hb2⟩
    have HW2 := Lib.hid (blw HW1.out hb2)
    have z0 := kp hb2 y0; have z1 := kp hb2 y1
    clear hb2 y0 y1
    have z2a := z0; have z2b := z1
    clear z0 z1
    go_wp2_with fail
    refine (HG.out _ HW2.out).mono ?_
    rintro e w3 ⟨rfl, hb3⟩
    have HW3 := Lib.hid (blw HW2.out hb3)
    have z3a := kp hb3 z2a; have z3b := kp hb3 z2b
    clear hb3 z2a z2b
    go_wp2_with fail
    refine (HH.out _ HW3.out).mono ?_
    rintro e w4 ⟨rfl, hb4⟩
    have HW4 := Lib.hid (blw HW3.out hb4)
    have z4a := kp hb4 z3a; have z4b := kp hb4 z3b
    clear hb4 z3a z3b
    go_wp2_with fail
    refine (HI.out _ HW4.out).mono ?_
    rintro e w5 ⟨rfl, hb5⟩
    have HW5 := Lib.hid (blw HW4.out hb5)
    have z5a := kp hb5 z4a; have z5b := kp hb5 z4b
    clear hb5 z4a z4b
    go_wp2_with fail
    refine (HR.out _ HW5.out).mono ?_
    rintro e w7 ⟨rfl, hb7⟩
    have HW7 := Lib.hid (blw HW5.out hb7)
    clear hb7 z5a z5b
    go_wp2_with fail
    refine (HK.out _).mono ?_
    rintro e w' ⟨rfl, hw⟩
    go_wp2
    go_ret
    exact ⟨rfl, blw HW7.out hw⟩
  by_cases c2 : j0 = 70
  case pos =>
    subst c2
    clear hjj
    obtain ⟨x0, x1⟩ := new2 w (.int .i64 a) (.int .i64 b) 28
    go_enter Try.func10, Try.ntmps10
    go_wp2_with fail
    refine (HF.out _ (al w _)).mono ?_
    rintro e w1 ⟨rfl, hb1⟩
    have HW1 := Lib.hid (blw (al w (.cells #[.int .i64 a, .int .i64 b] 28)) hb1)
    have y0 := kp hb1 x0; have y1 := kp hb1 x1
    clear hb1 x0 x1
    go_wp2_with fail
    refine (HL.out _ HW1.out).mono ?_
    rintro e w2 ⟨rfl, hb2⟩
    have HW2 := Lib.hid (blw HW1.out hb2)
    have z0 := kp hb2 y0; have z1 := kp hb2 y1
    clear hb2 y0 y1
    have z2a := z0; have z2b := z1
    clear z0 z1
    go_wp2_with fail
    refine (HG.out _ HW2.out).mono ?_
    rintro e w3 ⟨rfl, hb3⟩
    have HW3 := Lib.hid (blw HW2.out hb3)
    have z3a := kp hb3 z2a; have z3b := kp hb3 z2b
    clear hb3 z2a z2b
    go_wp2_with fail
    refine (HH.out _ HW3.out).mono ?_
    rintro e w4 ⟨rfl, hb4⟩
    have HW4 := Lib.hid (blw HW3.out hb4)
    have z4a := kp hb4 z3a; have z4b := kp hb4 z3b
    clear hb4 z3a z3b
    go_wp2_with fail
    refine (HI.out _ HW4.out).mono ?_
    rintro e w5 ⟨rfl, hb5⟩
    have HW5 := Lib.hid (blw HW4.out hb5)
    have z5a := kp hb5 z4a; have z5b := kp hb5 z4b
    clear hb5 z4a z4b
    go_wp2_with fail
    refine (HJ.out _ HW5.out).mono ?_
    rintro e w6 ⟨rfl, hb6⟩
    have HW6 := Lib.hid (blw HW5.out hb6)
    have z6a := kp hb6 z5a; have z6b := kp hb6 z5b
    clear hb6 z5a z5b
    go_wp2_with fail
    refine (HR.out _ HW6.out).mono ?_
    rintro e w7 ⟨rfl, hb7⟩
    have HW7 := Lib.hid (blw HW6.out hb7)
    clear hb7 z6a z6b
    go_wp2_with fail
    refine (HK.out _).mono ?_
    rintro e w' ⟨rfl, hw⟩
    go_wp2
    go_ret
    exact ⟨rfl, blw HW7.out hw⟩
  obtain ⟨c3, c4⟩ := hjj c1 c2
  have c2b : (j0 != 70) = true := by simp [c2]
  clear hjj c2
  obtain ⟨x0, x1⟩ := new2 w (.int .i64 a) (.int .i64 b) 28
  go_enter Try.func10, Try.ntmps10
  go_wp2_with fail
  refine (HF.out _ (al w _)).mono ?_
  rintro e w1 ⟨rfl, hb1⟩
  have HW1 := Lib.hid (blw (al w (.cells #[.int .i64 a, .int .i64 b] 28)) hb1)
  have y0 := kp hb1 x0; have y1 := kp hb1 x1
  clear hb1 x0 x1
  go_wp2_with fail
  refine (HL.out _ HW1.out).mono ?_
  rintro e w2 ⟨rfl, hb2⟩
  have HW2 := Lib.hid (blw HW1.out hb2)
  have z0 := kp hb2 y0; have z1 := kp hb2 y1
  clear hb2 y0 y1
  have z2a := z0; have z2b := z1
  clear z0 z1
  go_wp2_with fail
  refine (HG.out _ HW2.out).mono ?_
  rintro e w3 ⟨rfl, hb3⟩
  have HW3 := Lib.hid (blw HW2.out hb3)
  have z3a := kp hb3 z2a; have z3b := kp hb3 z2b
  clear hb3 z2a z2b
  go_wp2_with fail
  refine (HH.out _ HW3.out).mono ?_
  rintro e w4 ⟨rfl, hb4⟩
  have HW4 := Lib.hid (blw HW3.out hb4)
  have z4a := kp hb4 z3a; have z4b := kp hb4 z3b
  clear hb4 z3a z3b
  go_wp2_with fail
  refine (HI.out _ HW4.out).mono ?_
  rintro e w5 ⟨rfl, hb5⟩
  have HW5 := Lib.hid (blw HW4.out hb5)
  have z5a := kp hb5 z4a; have z5b := kp hb5 z4b
  clear hb5 z4a z4b
  go_wp2_with fail
  refine (HJ.out _ HW5.out).mono ?_
  rintro e w6 ⟨rfl, hb6⟩
  have HW6 := Lib.hid (blw HW5.out hb6)
  have z6a := kp hb6 z5a; have z6b := kp hb6 z5b
  clear hb6 z5a z5b
  go_wp2_with fail
  refine (HR.out _ HW6.out).mono ?_
  rintro e w7 ⟨rfl, hb7⟩
  have HW7 := Lib.hid (blw HW6.out hb7)
  clear hb7 z6a z6b
  go_wp2_with fail
  refine (HK.out _).mono ?_
  rintro e w' ⟨rfl, hw⟩
  go_wp2
  go_ret
  exact ⟨rfl, blw HW7.out hw⟩

namespace fitEnds
open Go.ChangeShapes Go.WideShapes Go.ChangeAt Go.RowKit
theorem own : ownKnob Try.prog.godebug = none := by kernel_rfl
theorem laidOut : laidOutB Try.prog = true := by kernel_rfl

set_option maxRecDepth 100000 in
theorem lifted (os : Os) (started : os.Started) (H : Type) (enc : TypeId × Value → H) :
    ReturnsInHanded {} Try.checked os 10 .any (Rows.fitEndsSpec.pre6 enc Try.prog Try.f10 Rows.fitEndsRow.domain false) (Rows.fitEndsSpec.post enc Try.prog Try.f10 false true false false) := by
  refine returnsInHanded_of_change (C := Try.checked) own started (by kernel_rfl) Try.func10
    (ChangeSpec.witness6 (enc := enc) (C := Try.checked) false ⟨#[], #[.slice none 0 0, .agg #[.int .i64 0, .int .i64 0], .int .i64 0, .int .i64 0], []⟩ 8 (by kernel_rfl) (by kernel_rfl) (by kernel_rfl) (by kernel_rfl)) ?_
  intro W base args ds gs before hval0 hW hcnd _
  have hval : ∀ (j : Nat) t v, Try.f10.params[j]? = some t → args[j]? = some v → Value.okWide Try.prog W .any base t v := hval0
  have hW' := hW
  obtain ⟨p, q, hA0, hV, rfl, hfz, hnd⟩ := hW
  have hA : DataW.TrodAll enc Try.prog W 0 (fun _ => true) true Try.f10.params.toList args.toList ds p := hA0
  rw [Try.params10] at hA hval
  obtain ⟨v0, vs0, d0, ds0, p0, q0, hargs, rfl, rfl, h0, r0⟩ := trodAll_cons hA
  obtain ⟨v1, vs1, d1, ds1, p1, q1, rfl, rfl, rfl, h1, r1⟩ := trodAll_cons r0
  obtain ⟨v2, vs2, d2, ds2, p2, q2, rfl, rfl, rfl, h2, r2⟩ := trodAll_cons r1
  obtain ⟨v3, vs3, d3, ds3, p3, q3, rfl, rfl, rfl, h3, r3⟩ := trodAll_cons r2
  obtain ⟨rfl, rfl, rfl⟩ := trodAll_nil r3
  obtain rfl : args = #[v0, v1, v2, v3] := by cases args; simp_all
  obtain ⟨rfl, rfl⟩ := trodVars_none hV
  have k0 := h0
  have lt0 : ∀ x ∈ p0, x.block < W.heap.size := by obtain ⟨m, hm⟩ := k0; exact DataW.trod_lt m _ _ _ hm
  obtain ⟨A0, l0, c0, e0⟩ := okWide_slice Try.underlying22 (hval 0 22 v0 rfl rfl)
  obtain ⟨fuel0, hf0⟩ := h0
  rw [show v0.cells.toList = [v0] from by rw [e0]; rfl] at hf0
  clear e0 A0 l0 c0
  obtain ⟨A0, c0, z0, rfl, w0⟩ := Stp.steps_arg hf0
  have k1 := h1
  have lt1 : ∀ x ∈ p1, x.block < W.heap.size := by obtain ⟨m, hm⟩ := k1; exact DataW.trod_lt m _ _ _ hm
  obtain ⟨cs1, e1, _⟩ := okWide_struct Try.underlying28 (hval 1 28 v1 rfl rfl)
  obtain ⟨fuel1, hf1⟩ := h1
  rw [show v1.cells.toList = cs1.toList from by rw [e1]; rfl] at hf1
  obtain ⟨x1, y1, hcs1⟩ := Ft.win_arg hf1
  obtain rfl : cs1 = #[.int .i64 x1, .int .i64 y1] := by rw [← Array.toArray_toList (xs := cs1), hcs1]
  subst e1
  clear hf1 hcs1
  obtain ⟨a2, rfl, rfl, rfl, w2⟩ := open_int Try.underlying3 (hval 2 3 v2 rfl rfl) h2
  obtain ⟨a3, rfl, rfl, rfl, w3⟩ := open_int Try.underlying3 (hval 3 3 v3 rfl rfl) h3
  clear hA0 hval0
  refine (walk_FitEnds W A0 c0 z0 w0 x1 y1 a2 a3).mono fun e W' ⟨he, bel⟩ => ?_
  subst he
  exact ⟨_, rfl, _, _, _, [], _, [], hW', trodAll_mk1 (shut_bool Try.underlying4 _), (trodAll_cons_mk (Below.trod laidOut (by kernel_rfl) (of_decide_eq_true (by kernel_rfl)) k0 bel lt0) (trodAll_cons_mk (Below.trod laidOut (by kernel_rfl) (of_decide_eq_true (by kernel_rfl)) k1 bel lt1) (trodAll_cons_mk (shut_int Try.underlying3 w2) (trodAll_cons_mk (shut_int Try.underlying3 w3) trodAll_mk0)))), rfl, bel.frame _, fun h => by cases h⟩

theorem over : Rows.fitEndsRow.holds Try.pinned (OpenSpec.ofChange Rows.fitEndsSpec) :=
  OpenClaim.holds_of_wide 10 Try.f10 rfl rfl rfl rfl rfl rfl rfl ⟨rfl, rfl, rfl, rfl, rfl⟩ rfl rfl rfl rfl rfl (by kernel_rfl) Try.func10 (by kernel_rfl)
    (of_decide_eq_true (by kernel_rfl)) (by unfold Func.isWrapper; first | (rw [if_pos (by decide +kernel)]; kernel_rfl) | (rw [if_neg (by decide +kernel)]; exact ⟨rfl, rfl⟩))
    (fun os started H enc _ => lifted os started H enc)

theorem proved : Rows.FitEndsSaid := over
#print axioms proved
end fitEnds
end Go.Proofs.Ytldmkbmkjdnaaaa

