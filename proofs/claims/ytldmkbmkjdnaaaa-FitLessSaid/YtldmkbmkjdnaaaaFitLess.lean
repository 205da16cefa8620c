/- FitLess: for any steps, window and numbers, the law returns true, and all read afterwards as before. No condition. -/
import Derived.Test.YtldmkbmkjdnaaaaRows
import Derived.Test.YtldmkbmkjdnaaaaFitH
import Derived.Test.YtldmkbmkjdnaaaaFitArg
import Derived.WalkKit
import Derived.ProofKit
import Derived.OpenShut
import Derived.ShutString
import Derived.ChangeOld
import Derived.Below
namespace Go.Proofs.Ytldmkbmkjdnaaaa
open Go.ChangeShapes Go.WideShapes Go.ChangeAt Go.RowKit
open Stp (blw al kp dr drN Stp.below new2)
open Ft
set_option linter.unusedVariables false

set_option maxRecDepth 100000 in
set_option maxHeartbeats 3200000 in
theorem walk_FitLess (w : World) (A : Option Addr) (c0 : Nat) (l : List StepD) (h : Stp.Stp w A c0 l) (a b n d : Int) (u : Int) (hu : (Lit.int .u8 u).wf = true) (v : Int) (hv : (Lit.int .u8 v).wf = true) (z : Int) (hz : (Lit.int .u8 z).wf = true) :
    Calls Try.prog 9 #[.slice A l.length c0, .agg #[.int .i64 a, .int .i64 b], .int .i64 n, .int .i64 d, .int .u8 u, .int .u8 v, .int .u8 z] w fun e w' => e = .returned (.bool true) ∧ Below w.heap.size w w' := by
  have HK := Lib.hid known10_any
  obtain ⟨m, hm⟩ : ∃ m, l.length = m := ⟨_, rfl⟩
  have hml : m ≤ 9223372036854775807 := by rw [← hm]; exact h.lenI
  rw [hm]
  by_cases hlong : 40 < m
  · clear h hm
    go_enter Try.func9, Try.ntmps9
    go_wp2_with fail
    refine (HK.out _).mono ?_
    rintro e w' ⟨rfl, hw⟩
    go_wp2
    go_ret
    exact ⟨rfl, blw (al w _) hw⟩
  have hub := u8_bd hu; have hvb := u8_bd hv; have hzb := u8_bd hz
  obtain ⟨A', hA'⟩ : ∃ x, IntKind.i64.wrap (a - u) = x := ⟨_, rfl⟩
  obtain ⟨B', hB'⟩ : ∃ x, IntKind.i64.wrap (b + u) = x := ⟨_, rfl⟩
  obtain ⟨N', hN'⟩ : ∃ x, IntKind.i64.wrap (n - v) = x := ⟨_, rfl⟩
  obtain ⟨D', hD'⟩ : ∃ x, IntKind.i64.wrap (d - z) = x := ⟨_, rfl⟩
  have HF := Lib.hid fun W (hW : Below w.heap.size w W) => first_any l a b n d A m c0 hm W (h.below hW)
  have HL := Lib.hid fun W (hW : Below w.heap.size w W) => last_any l a b n d A m c0 hm W (h.below hW)
  have HG := Lib.hid fun W (hW : Below w.heap.size w W) => first_any l A' B' N' D' A m c0 hm W (h.below hW)
  have HH := Lib.hid fun W (hW : Below w.heap.size w W) => last_any l A' B' N' D' A m c0 hm W (h.below hW)
  obtain ⟨e0, he⟩ : ∃ x, firstE l a b n d = x := ⟨_, rfl⟩
  obtain ⟨g0, hg⟩ : ∃ x, firstE l A' B' N' D' = x := ⟨_, rfl⟩
  obtain ⟨x, hx⟩ : ∃ x, firstV l a b n d = x := ⟨_, rfl⟩
  obtain ⟨y, hy⟩ : ∃ x, lastR l a b n d = x := ⟨_, rfl⟩
  obtain ⟨p, hp⟩ : ∃ x, firstV l A' B' N' D' = x := ⟨_, rfl⟩
  obtain ⟨q, hq⟩ : ∃ x, lastR l A' B' N' D' = x := ⟨_, rfl⟩
  rw [he, hx] at HF
  rw [he, hy] at HL
  rw [hg, hp] at HG
  rw [hg, hq] at HH
  have hqq : (e0 == e0) = true := by simp
  have hu64 : IntKind.i64.wrap u = u := IntWalk.i64_in _ (by omega)
  have hv64 : IntKind.i64.wrap v = v := IntWalk.i64_in _ (by omega)
  have hz64 : IntKind.i64.wrap z = z := IntWalk.i64_in _ (by omega)
  by_cases h0 : e0 = 0
  · subst h0
    have hr := (firstE_ok he).1.req
    have ra := hr.ha; have rb := hr.hb; have rn := hr.hn; have rd := hr.hd
    by_cases h2 : g0 = 2
    · subst h2
      clear h hm he hg hx hy hp hq hub hvb hzb hr
      obtain ⟨x0, x1⟩ := new2 w (.int .i64 a) (.int .i64 b) 28
      go_enter Try.func9, Try.ntmps9
      go_wp2_with fail
      refine (HF.out _ (al w _)).mono ?_
      rintro e w1 ⟨rfl, hb1⟩
      have HW1 := Lib.hid (blw (al w (.cells #[.int .i64 a, .int .i64 b] 28)) hb1)
      have y0 := kp hb1 x0; have y1 := kp hb1 x1
      clear hb1 x0 x1
      go_wp2_with fail
      refine (HL.out _ HW1.out).mono ?_
      rintro e w2 ⟨rfl, hb2⟩
      have HW2 := Lib.hid (blw HW1.out hb2)
      have z0 := kp hb2 y0; have z1 := kp hb2 y1
      clear hb2 y0 y1
      obtain ⟨v0, v1⟩ := new2 w2 (.int .i64 A') (.int .i64 B') 28
      go_wp2_with fail
      refine (HG.out _ (blw HW2.out (al w2 _))).mono ?_
      rintro e w3 ⟨rfl, hb3⟩
      have HW3 := Lib.hid (blw HW2.out (blw (al w2 (.cells #[.int .i64 A', .int .i64 B'] 28)) hb3))
      have u0 := kp hb3 v0; have u1 := kp hb3 v1
      clear hb3 v0 v1 z0 z1
      go_wp2_with fail
      refine (HH.out _ HW3.out).mono ?_
      rintro e w4 ⟨rfl, hb4⟩
      have HW4 := Lib.hid (blw HW3.out hb4)
      clear hb4 u0 u1
      go_wp2_with fail
      refine (HK.out _).mono ?_
      rintro e w' ⟨rfl, hw⟩
      go_wp2
      go_ret
      exact ⟨rfl, blw HW4.out hw⟩
    · have eA : A' ≤ a := by rw [← hA', IntWalk.i64_in _ (by omega)]; omega
      have eB : b ≤ B' := by rw [← hB', IntWalk.i64_in _ (by omega)]; omega
      have eN : N' ≤ n := by rw [← hN', IntWalk.i64_in _ (by omega)]; omega
      have eD : D' ≤ d := by rw [← hD', IntWalk.i64_in _ (by omega)]; omega
      obtain ⟨k1, k2, k3⟩ := fit_less he (by rw [hg]; exact h2) eN eD eA eB
      rw [hg] at k1
      subst k1
      rw [hx, hp] at k2
      rw [hy, hq] at k3
      clear h hm he hg hx hy hp hq hub hvb hzb hr eA eB eN eD ra rb rn rd h2
      obtain ⟨x0, x1⟩ := new2 w (.int .i64 a) (.int .i64 b) 28
      go_enter Try.func9, Try.ntmps9
      go_wp2_with fail
      refine (HF.out _ (al w _)).mono ?_
      rintro e w1 ⟨rfl, hb1⟩
      have HW1 := Lib.hid (blw (al w (.cells #[.int .i64 a, .int .i64 b] 28)) hb1)
      have y0 := kp hb1 x0; have y1 := kp hb1 x1
      clear hb1 x0 x1
      go_wp2_with fail
      refine (HL.out _ HW1.out).mono ?_
      rintro e w2 ⟨rfl, hb2⟩
      have HW2 := Lib.hid (blw HW1.out hb2)
      have z0 := kp hb2 y0; have z1 := kp hb2 y1
      clear hb2 y0 y1
      obtain ⟨v0, v1⟩ := new2 w2 (.int .i64 A') (.int .i64 B') 28
      go_wp2_with fail
      refine (HG.out _ (blw HW2.out (al w2 _))).mono ?_
      rintro e w3 ⟨rfl, hb3⟩
      have HW3 := Lib.hid (blw HW2.out (blw (al w2 (.cells #[.int .i64 A', .int .i64 B'] 28)) hb3))
      have u0 := kp hb3 v0; have u1 := kp hb3 v1
      clear hb3 v0 v1 z0 z1
      go_wp2_with fail
      refine (HH.out _ HW3.out).mono ?_
      rintro e w4 ⟨rfl, hb4⟩
      have HW4 := Lib.hid (blw HW3.out hb4)
      clear hb4 u0 u1
      go_wp2_with fail
      refine (HK.out _).mono ?_
      rintro e w' ⟨rfl, hw⟩
      go_wp2
      go_ret
      exact ⟨rfl, blw HW4.out hw⟩
  · have h0b : (e0 != 0) = true := by simp [h0]
    clear h hm he hg hx hy hp hq h0 hub hvb hzb
    obtain ⟨x0, x1⟩ := new2 w (.int .i64 a) (.int .i64 b) 28
    go_enter Try.func9, Try.ntmps9
    go_wp2_with fail
    refine (HF.out _ (al w _)).mono ?_
    rintro e w1 ⟨rfl, hb1⟩
    have HW1 := Lib.hid (blw (al w (.cells #[.int .i64 a, .int .i64 b] 28)) hb1)
    have y0 := kp hb1 x0; have y1 := kp hb1 x1
    clear hb1 x0 x1
    go_wp2_with fail
    refine (HL.out _ HW1.out).mono ?_
    rintro e w2 ⟨rfl, hb2⟩
    have HW2 := Lib.hid (blw HW1.out hb2)
    have z0 := kp hb2 y0; have z1 := kp hb2 y1
    clear hb2 y0 y1
    obtain ⟨v0, v1⟩ := new2 w2 (.int .i64 A') (.int .i64 B') 28
    go_wp2_with fail
    refine (HG.out _ (blw HW2.out (al w2 _))).mono ?_
    rintro e w3 ⟨rfl, hb3⟩
    have HW3 := Lib.hid (blw HW2.out (blw (al w2 (.cells #[.int .i64 A', .int .i64 B'] 28)) hb3))
    have u0 := kp hb3 v0; have u1 := kp hb3 v1
    clear hb3 v0 v1 z0 z1
    go_wp2_with fail
    refine (HH.out _ HW3.out).mono ?_
    rintro e w4 ⟨rfl, hb4⟩
    have HW4 := Lib.hid (blw HW3.out hb4)
    clear hb4 u0 u1
    go_wp2_with fail
    refine (HK.out _).mono ?_
    rintro e w' ⟨rfl, hw⟩
    go_wp2
    go_ret
    exact ⟨rfl, blw HW4.out hw⟩

namespace fitLess
open Go.ChangeShapes Go.WideShapes Go.ChangeAt Go.RowKit
theorem own : ownKnob Try.prog.godebug = none := by kernel_rfl
theorem laidOut : laidOutB Try.prog = true := by kernel_rfl

set_option maxRecDepth 100000 in
theorem lifted (os : Os) (started : os.Started) (H : Type) (enc : TypeId × Value → H) :
    ReturnsInHanded {} Try.checked os 9 .any (Rows.fitLessSpec.pre6 enc Try.prog Try.f9 Rows.fitLessRow.domain false) (Rows.fitLessSpec.post enc Try.prog Try.f9 false true false false) := by
  refine returnsInHanded_of_change (C := Try.checked) own started (by kernel_rfl) Try.func9
    (ChangeSpec.witness6 (enc := enc) (C := Try.checked) false ⟨#[], #[.slice none 0 0, .agg #[.int .i64 0, .int .i64 0], .int .i64 0, .int .i64 0, .int .u8 0, .int .u8 0, .int .u8 0], []⟩ 8 (by kernel_rfl) (by kernel_rfl) (by kernel_rfl) (by kernel_rfl)) ?_
  intro W base args ds gs before hval0 hW hcnd _
  have hval : ∀ (j : Nat) t v, Try.f9.params[j]? = some t → args[j]? = some v → Value.okWide Try.prog W .any base t v := hval0
  have hW' := hW
  obtain ⟨p, q, hA0, hV, rfl, hfz, hnd⟩ := hW
  have hA : DataW.TrodAll enc Try.prog W 0 (fun _ => true) true Try.f9.params.toList args.toList ds p := hA0
  rw [Try.params9] at hA hval
  obtain ⟨v0, vs0, d0, ds0, p0, q0, hargs, rfl, rfl, h0, r0⟩ := trodAll_cons hA
  obtain ⟨v1, vs1, d1, ds1, p1, q1, rfl, rfl, rfl, h1, r1⟩ := trodAll_cons r0
  obtain ⟨v2, vs2, d2, ds2, p2, q2, rfl, rfl, rfl, h2, r2⟩ := trodAll_cons r1
  obtain ⟨v3, vs3, d3, ds3, p3, q3, rfl, rfl, rfl, h3, r3⟩ := trodAll_cons r2
  obtain ⟨v4, vs4, d4, ds4, p4, q4, rfl, rfl, rfl, h4, r4⟩ := trodAll_cons r3
  obtain ⟨v5, vs5, d5, ds5, p5, q5, rfl, rfl, rfl, h5, r5⟩ := trodAll_cons r4
  obtain ⟨v6, vs6, d6, ds6, p6, q6, rfl, rfl, rfl, h6, r6⟩ := trodAll_cons r5
  obtain ⟨rfl, rfl, rfl⟩ := trodAll_nil r6
  obtain rfl : args = #[v0, v1, v2, v3, v4, v5, v6] := by cases args; simp_all
  obtain ⟨rfl, rfl⟩ := trodVars_none hV
  have k0 := h0
  have lt0 : ∀ x ∈ p0, x.block < W.heap.size := by obtain ⟨m, hm⟩ := k0; exact DataW.trod_lt m _ _ _ hm
  obtain ⟨A0, l0, c0, e0⟩ := okWide_slice Try.underlying22 (hval 0 22 v0 rfl rfl)
  obtain ⟨fuel0, hf0⟩ := h0
  rw [show v0.cells.toList = [v0] from by rw [e0]; rfl] at hf0
  clear e0 A0 l0 c0
  obtain ⟨A0, c0, z0, rfl, w0⟩ := Stp.steps_arg hf0
  have k1 := h1
  have lt1 : ∀ x ∈ p1, x.block < W.heap.size := by obtain ⟨m, hm⟩ := k1; exact DataW.trod_lt m _ _ _ hm
  obtain ⟨cs1, e1, _⟩ := okWide_struct Try.underlying28 (hval 1 28 v1 rfl rfl)
  obtain ⟨fuel1, hf1⟩ := h1
  rw [show v1.cells.toList = cs1.toList from by rw [e1]; rfl] at hf1
  obtain ⟨x1, y1, hcs1⟩ := Ft.win_arg hf1
  obtain rfl : cs1 = #[.int .i64 x1, .int .i64 y1] := by rw [← Array.toArray_toList (xs := cs1), hcs1]
  subst e1
  clear hf1 hcs1
  obtain ⟨a2, rfl, rfl, rfl, w2⟩ := open_int Try.underlying3 (hval 2 3 v2 rfl rfl) h2
  obtain ⟨a3, rfl, rfl, rfl, w3⟩ := open_int Try.underlying3 (hval 3 3 v3 rfl rfl) h3
  obtain ⟨a4, rfl, rfl, rfl, w4⟩ := open_int Try.underlying5 (hval 4 5 v4 rfl rfl) h4
  obtain ⟨a5, rfl, rfl, rfl, w5⟩ := open_int Try.underlying5 (hval 5 5 v5 rfl rfl) h5
  obtain ⟨a6, rfl, rfl, rfl, w6⟩ := open_int Try.underlying5 (hval 6 5 v6 rfl rfl) h6
  clear hA0 hval0
  refine (walk_FitLess W A0 c0 z0 w0 x1 y1 a2 a3 a4 w4 a5 w5 a6 w6).mono fun e W' ⟨he, bel⟩ => ?_
  subst he
  exact ⟨_, rfl, _, _, _, [], _, [], hW', trodAll_mk1 (shut_bool Try.underlying4 _), (trodAll_cons_mk (Below.trod laidOut (by kernel_rfl) (of_decide_eq_true (by kernel_rfl)) k0 bel lt0) (trodAll_cons_mk (Below.trod laidOut (by kernel_rfl) (of_decide_eq_true (by kernel_rfl)) k1 bel lt1) (trodAll_cons_mk (shut_int Try.underlying3 w2) (trodAll_cons_mk (shut_int Try.underlying3 w3) (trodAll_cons_mk (shut_int Try.underlying5 w4) (trodAll_cons_mk (shut_int Try.underlying5 w5) (trodAll_cons_mk (shut_int Try.underlying5 w6) trodAll_mk0))))))), rfl, bel.frame _, fun h => by cases h⟩

theorem over : Rows.fitLessRow.holds Try.pinned (OpenSpec.ofChange Rows.fitLessSpec) :=
  OpenClaim.holds_of_wide 9 Try.f9 rfl rfl rfl rfl rfl rfl rfl ⟨rfl, rfl, rfl, rfl, rfl⟩ rfl rfl rfl rfl rfl (by kernel_rfl) Try.func9 (by kernel_rfl)
    (of_decide_eq_true (by kernel_rfl)) (by unfold Func.isWrapper; first | (rw [if_pos (by decide +kernel)]; kernel_rfl) | (rw [if_neg (by decide +kernel)]; exact ⟨rfl, rfl⟩))
    (fun os started H enc _ => lifted os started H enc)

theorem proved : Rows.FitLessSaid := over
#print axioms proved
end fitLess
end Go.Proofs.Ytldmkbmkjdnaaaa

