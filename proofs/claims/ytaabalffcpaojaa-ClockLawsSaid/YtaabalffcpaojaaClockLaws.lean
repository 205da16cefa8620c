/- ClockLaws: for any three ints the law returns true, and all read afterwards as before. No condition. -/
import Derived.Test.YtaabalffcpaojaaRows
import Derived.Test.YtaabalffcpaojaaClkLaw
import Derived.WalkKit
import Derived.ProofKit
import Derived.OpenShut
import Derived.ShutString
import Derived.ChangeOld
import Derived.Below
import Derived.Outline
namespace Go.Proofs.Ytaabalffcpaojaa
open Go.ChangeShapes Go.WideShapes Go.ChangeAt Go.RowKit
open Go.ChangeMaps (open_string shut_string)
set_option linter.unusedVariables false

set_option maxHeartbeats 1600000 in
theorem laws_y1 (w : World) (t u n : Int) (bn : -9223372036854775808 ≤ n ∧ n ≤ 9223372036854775807) (he : addE [t, u] = 0) (hT : isT t = true) (hn0 : 0 ≤ n) (hn1 : n < 4611686018427387904) (hm : mulE t n = 0) :
    Calls Try.prog 7 #[.int .i64 t, .int .i64 u, .int .i64 n] w fun e w' => e = .returned (.bool true) ∧ Below w.heap.size w w' := by
  have H1 := Lib.hid (sum_yes he).1
  have H2 := Lib.hid (sum_yes he).2.1
  have H3 := Lib.hid (sum_yes he).2.2.1
  have H4 := Lib.hid (sum_yes he).2.2.2
  have HE := Lib.hid he; clear he
  obtain ⟨v1, hv1⟩ : ∃ v1, mulV t (n + 1) = v1 := ⟨_, rfl⟩
  obtain ⟨e1, he1⟩ : ∃ e1, mulE t (n + 1) = e1 := ⟨_, rfl⟩
  have HS1 := Lib.hid ((mul_step hT hn0 hm).1.trans hv1)
  have HS2 := Lib.hid ((mul_step hT hn0 hm).2.trans he1)
  have HV1 := Lib.hid hv1
  have HE1 := Lib.hid he1
  have HM := Lib.hid hm
  clear hv1 he1 hm hT
  go_enter Try.func7, Try.ntmps7
  go_wp2_with fail
  refine (add_at _ _ _ _ _ _ (by simp) _ _ H1.out HE.out).mono ?_
  rintro e w' ⟨rfl, rfl⟩
  go_wp2_with fail
  refine (sub_at _ _ _ _ _ H2.out H3.out).mono ?_
  rintro e w' ⟨rfl, rfl⟩
  go_wp2_with fail
  refine (clip_at1 _ _ _ _ _ _ (by simp) _ H4.out).mono ?_
  rintro e w' ⟨rfl, rfl⟩
  go_wp2_with fail
  refine (mul_at _ _ _ (by omega) _ _ rfl HM.out).mono ?_
  rintro e w' ⟨rfl, rfl⟩
  go_wp2_with fail
  refine (mul_at _ _ _ (by omega) _ _ HV1.out HE1.out).mono ?_
  rintro e w' ⟨rfl, rfl⟩
  go_wp2_with fail
  refine (add_at _ _ _ _ _ _ (by simp) _ _ HS1.out HS2.out).mono ?_
  rintro e w' ⟨rfl, rfl⟩
  go_wp2_with fail
  refine (clip2 _ _ _ _ _ _ _ (by simp)).mono ?_
  rintro e w' ⟨rfl, rfl⟩
  go_wp2_with fail
  refine (is_clip _ _).mono ?_
  rintro e w' ⟨rfl, rfl⟩
  go_wp2_with fail
  refine (known_any _).mono ?_
  rintro e w1 ⟨rfl, hb1⟩
  go_wp2_with fail
  go_ret
  exact ⟨rfl, blw (bal (bal (bal (bal (Below.refl _ _) _) _) _) _) hb1⟩

set_option maxHeartbeats 1600000 in
theorem laws_y2 (w : World) (t u n : Int) (bn : -9223372036854775808 ≤ n ∧ n ≤ 9223372036854775807) (he : addE [t, u] = 0) (hn0 : 0 ≤ n) (hn1 : n < 4611686018427387904) (e2 : Int) (hm : mulE t n = e2) (hne2 : (e2 == 0) = false) :
    Calls Try.prog 7 #[.int .i64 t, .int .i64 u, .int .i64 n] w fun e w' => e = .returned (.bool true) ∧ Below w.heap.size w w' := by
  have H1 := Lib.hid (sum_yes he).1
  have H2 := Lib.hid (sum_yes he).2.1
  have H3 := Lib.hid (sum_yes he).2.2.1
  have H4 := Lib.hid (sum_yes he).2.2.2
  have HE := Lib.hid he; clear he
  have HM := Lib.hid hm; clear hm
  go_enter Try.func7, Try.ntmps7
  go_wp2_with fail
  refine (add_at _ _ _ _ _ _ (by simp) _ _ H1.out HE.out).mono ?_
  rintro e w' ⟨rfl, rfl⟩
  go_wp2_with fail
  refine (sub_at _ _ _ _ _ H2.out H3.out).mono ?_
  rintro e w' ⟨rfl, rfl⟩
  go_wp2_with fail
  refine (clip_at1 _ _ _ _ _ _ (by simp) _ H4.out).mono ?_
  rintro e w' ⟨rfl, rfl⟩
  go_wp2_with fail
  refine (mul_at _ _ _ (by omega) _ _ rfl HM.out).mono ?_
  rintro e w' ⟨rfl, rfl⟩
  go_wp2_with fail
  refine (mul_any _ _ _ (by omega)).mono ?_
  rintro e w' ⟨rfl, rfl⟩
  go_wp2_with fail
  refine (add1 _ _ _ _ _ _ (by simp)).mono ?_
  rintro e w' ⟨rfl, rfl⟩
  go_wp2_with fail
  refine (clip2 _ _ _ _ _ _ _ (by simp)).mono ?_
  rintro e w' ⟨rfl, rfl⟩
  go_wp2_with fail
  refine (is_clip _ _).mono ?_
  rintro e w' ⟨rfl, rfl⟩
  go_wp2_with fail
  refine (known_any _).mono ?_
  rintro e w1 ⟨rfl, hb1⟩
  go_wp2_with fail
  go_ret
  exact ⟨rfl, blw (bal (bal (bal (bal (Below.refl _ _) _) _) _) _) hb1⟩

set_option maxHeartbeats 1600000 in
theorem laws_y3 (w : World) (t u n : Int) (bn : -9223372036854775808 ≤ n ∧ n ≤ 9223372036854775807) (he : addE [t, u] = 0) (hn0 : n < 0) :
    Calls Try.prog 7 #[.int .i64 t, .int .i64 u, .int .i64 n] w fun e w' => e = .returned (.bool true) ∧ Below w.heap.size w w' := by
  have H1 := Lib.hid (sum_yes he).1
  have H2 := Lib.hid (sum_yes he).2.1
  have H3 := Lib.hid (sum_yes he).2.2.1
  have H4 := Lib.hid (sum_yes he).2.2.2
  have HE := Lib.hid he; clear he
  go_enter Try.func7, Try.ntmps7
  go_wp2_with fail
  refine (add_at _ _ _ _ _ _ (by simp) _ _ H1.out HE.out).mono ?_
  rintro e w' ⟨rfl, rfl⟩
  go_wp2_with fail
  refine (sub_at _ _ _ _ _ H2.out H3.out).mono ?_
  rintro e w' ⟨rfl, rfl⟩
  go_wp2_with fail
  refine (clip_at1 _ _ _ _ _ _ (by simp) _ H4.out).mono ?_
  rintro e w' ⟨rfl, rfl⟩
  go_wp2_with fail
  refine (clip2 _ _ _ _ _ _ _ (by simp)).mono ?_
  rintro e w' ⟨rfl, rfl⟩
  go_wp2_with fail
  refine (is_clip _ _).mono ?_
  rintro e w' ⟨rfl, rfl⟩
  go_wp2_with fail
  refine (known_any _).mono ?_
  rintro e w1 ⟨rfl, hb1⟩
  go_wp2_with fail
  go_ret
  exact ⟨rfl, blw (bal (bal (bal (Below.refl _ _) _) _) _) hb1⟩

set_option maxHeartbeats 1600000 in
theorem laws_y4 (w : World) (t u n : Int) (bn : -9223372036854775808 ≤ n ∧ n ≤ 9223372036854775807) (he : addE [t, u] = 0) (hn1 : 4611686018427387904 ≤ n) :
    Calls Try.prog 7 #[.int .i64 t, .int .i64 u, .int .i64 n] w fun e w' => e = .returned (.bool true) ∧ Below w.heap.size w w' := by
  have H1 := Lib.hid (sum_yes he).1
  have H2 := Lib.hid (sum_yes he).2.1
  have H3 := Lib.hid (sum_yes he).2.2.1
  have H4 := Lib.hid (sum_yes he).2.2.2
  have HE := Lib.hid he; clear he
  go_enter Try.func7, Try.ntmps7
  go_wp2_with fail
  refine (add_at _ _ _ _ _ _ (by simp) _ _ H1.out HE.out).mono ?_
  rintro e w' ⟨rfl, rfl⟩
  go_wp2_with fail
  refine (sub_at _ _ _ _ _ H2.out H3.out).mono ?_
  rintro e w' ⟨rfl, rfl⟩
  go_wp2_with fail
  refine (clip_at1 _ _ _ _ _ _ (by simp) _ H4.out).mono ?_
  rintro e w' ⟨rfl, rfl⟩
  go_wp2_with fail
  refine (clip2 _ _ _ _ _ _ _ (by simp)).mono ?_
  rintro e w' ⟨rfl, rfl⟩
  go_wp2_with fail
  refine (is_clip _ _).mono ?_
  rintro e w' ⟨rfl, rfl⟩
  go_wp2_with fail
  refine (known_any _).mono ?_
  rintro e w1 ⟨rfl, hb1⟩
  go_wp2_with fail
  go_ret
  exact ⟨rfl, blw (bal (bal (bal (Below.refl _ _) _) _) _) hb1⟩

set_option maxHeartbeats 1600000 in
theorem laws_n1 (w : World) (t u n : Int) (bn : -9223372036854775808 ≤ n ∧ n ≤ 9223372036854775807) (e0 : Int) (he : addE [t, u] = e0) (hne : (e0 == 0) = false) (hT : isT t = true) (hn0 : 0 ≤ n) (hn1 : n < 4611686018427387904) (hm : mulE t n = 0) :
    Calls Try.prog 7 #[.int .i64 t, .int .i64 u, .int .i64 n] w fun e w' => e = .returned (.bool true) ∧ Below w.heap.size w w' := by
  have HE := Lib.hid he; clear he
  obtain ⟨v1, hv1⟩ : ∃ v1, mulV t (n + 1) = v1 := ⟨_, rfl⟩
  obtain ⟨e1, he1⟩ : ∃ e1, mulE t (n + 1) = e1 := ⟨_, rfl⟩
  have HS1 := Lib.hid ((mul_step hT hn0 hm).1.trans hv1)
  have HS2 := Lib.hid ((mul_step hT hn0 hm).2.trans he1)
  have HV1 := Lib.hid hv1
  have HE1 := Lib.hid he1
  have HM := Lib.hid hm
  clear hv1 he1 hm hT
  go_enter Try.func7, Try.ntmps7
  go_wp2_with fail
  refine (add_at _ _ _ _ _ _ (by simp) _ _ rfl HE.out).mono ?_
  rintro e w' ⟨rfl, rfl⟩
  go_wp2_with fail
  refine (mul_at _ _ _ (by omega) _ _ rfl HM.out).mono ?_
  rintro e w' ⟨rfl, rfl⟩
  go_wp2_with fail
  refine (mul_at _ _ _ (by omega) _ _ HV1.out HE1.out).mono ?_
  rintro e w' ⟨rfl, rfl⟩
  go_wp2_with fail
  refine (add_at _ _ _ _ _ _ (by simp) _ _ HS1.out HS2.out).mono ?_
  rintro e w' ⟨rfl, rfl⟩
  go_wp2_with fail
  refine (clip2 _ _ _ _ _ _ _ (by simp)).mono ?_
  rintro e w' ⟨rfl, rfl⟩
  go_wp2_with fail
  refine (is_clip _ _).mono ?_
  rintro e w' ⟨rfl, rfl⟩
  go_wp2_with fail
  refine (known_any _).mono ?_
  rintro e w1 ⟨rfl, hb1⟩
  go_wp2_with fail
  go_ret
  exact ⟨rfl, blw (bal (bal (bal (Below.refl _ _) _) _) _) hb1⟩

set_option maxHeartbeats 1600000 in
theorem laws_n2 (w : World) (t u n : Int) (bn : -9223372036854775808 ≤ n ∧ n ≤ 9223372036854775807) (e0 : Int) (he : addE [t, u] = e0) (hne : (e0 == 0) = false) (hn0 : 0 ≤ n) (hn1 : n < 4611686018427387904) (e2 : Int) (hm : mulE t n = e2) (hne2 : (e2 == 0) = false) :
    Calls Try.prog 7 #[.int .i64 t, .int .i64 u, .int .i64 n] w fun e w' => e = .returned (.bool true) ∧ Below w.heap.size w w' := by
  have HE := Lib.hid he; clear he
  have HM := Lib.hid hm; clear hm
  go_enter Try.func7, Try.ntmps7
  go_wp2_with fail
  refine (add_at _ _ _ _ _ _ (by simp) _ _ rfl HE.out).mono ?_
  rintro e w' ⟨rfl, rfl⟩
  go_wp2_with fail
  refine (mul_at _ _ _ (by omega) _ _ rfl HM.out).mono ?_
  rintro e w' ⟨rfl, rfl⟩
  go_wp2_with fail
  refine (mul_any _ _ _ (by omega)).mono ?_
  rintro e w' ⟨rfl, rfl⟩
  go_wp2_with fail
  refine (add1 _ _ _ _ _ _ (by simp)).mono ?_
  rintro e w' ⟨rfl, rfl⟩
  go_wp2_with fail
  refine (clip2 _ _ _ _ _ _ _ (by simp)).mono ?_
  rintro e w' ⟨rfl, rfl⟩
  go_wp2_with fail
  refine (is_clip _ _).mono ?_
  rintro e w' ⟨rfl, rfl⟩
  go_wp2_with fail
  refine (known_any _).mono ?_
  rintro e w1 ⟨rfl, hb1⟩
  go_wp2_with fail
  go_ret
  exact ⟨rfl, blw (bal (bal (bal (Below.refl _ _) _) _) _) hb1⟩

set_option maxHeartbeats 1600000 in
theorem laws_n3 (w : World) (t u n : Int) (bn : -9223372036854775808 ≤ n ∧ n ≤ 9223372036854775807) (e0 : Int) (he : addE [t, u] = e0) (hne : (e0 == 0) = false) (hn0 : n < 0) :
    Calls Try.prog 7 #[.int .i64 t, .int .i64 u, .int .i64 n] w fun e w' => e = .returned (.bool true) ∧ Below w.heap.size w w' := by
  have HE := Lib.hid he; clear he
  go_enter Try.func7, Try.ntmps7
  go_wp2_with fail
  refine (add_at _ _ _ _ _ _ (by simp) _ _ rfl HE.out).mono ?_
  rintro e w' ⟨rfl, rfl⟩
  go_wp2_with fail
  refine (clip2 _ _ _ _ _ _ _ (by simp)).mono ?_
  rintro e w' ⟨rfl, rfl⟩
  go_wp2_with fail
  refine (is_clip _ _).mono ?_
  rintro e w' ⟨rfl, rfl⟩
  go_wp2_with fail
  refine (known_any _).mono ?_
  rintro e w1 ⟨rfl, hb1⟩
  go_wp2_with fail
  go_ret
  exact ⟨rfl, blw (bal (bal (Below.refl _ _) _) _) hb1⟩

set_option maxHeartbeats 1600000 in
theorem laws_n4 (w : World) (t u n : Int) (bn : -9223372036854775808 ≤ n ∧ n ≤ 9223372036854775807) (e0 : Int) (he : addE [t, u] = e0) (hne : (e0 == 0) = false) (hn1 : 4611686018427387904 ≤ n) :
    Calls Try.prog 7 #[.int .i64 t, .int .i64 u, .int .i64 n] w fun e w' => e = .returned (.bool true) ∧ Below w.heap.size w w' := by
  have HE := Lib.hid he; clear he
  go_enter Try.func7, Try.ntmps7
  go_wp2_with fail
  refine (add_at _ _ _ _ _ _ (by simp) _ _ rfl HE.out).mono ?_
  rintro e w' ⟨rfl, rfl⟩
  go_wp2_with fail
  refine (clip2 _ _ _ _ _ _ _ (by simp)).mono ?_
  rintro e w' ⟨rfl, rfl⟩
  go_wp2_with fail
  refine (is_clip _ _).mono ?_
  rintro e w' ⟨rfl, rfl⟩
  go_wp2_with fail
  refine (known_any _).mono ?_
  rintro e w1 ⟨rfl, hb1⟩
  go_wp2_with fail
  go_ret
  exact ⟨rfl, blw (bal (bal (Below.refl _ _) _) _) hb1⟩

theorem walk_ClockLaws (w : World) (t : Int) (wt : (Lit.int .i64 t).wf = true) (u : Int) (wu : (Lit.int .i64 u).wf = true) (n : Int) (wn : (Lit.int .i64 n).wf = true) :
    Calls Try.prog 7 #[.int .i64 t, .int .i64 u, .int .i64 n] w fun e w' => e = .returned (.bool true) ∧ Below w.heap.size w w' := by
  have bn := bounds_i64 wn
  by_cases h1 : addE [t, u] = 0
  · by_cases h2 : n < 0
    · exact laws_y3 w t u n bn h1 h2
    · by_cases h3 : 4611686018427387904 ≤ n
      · exact laws_y4 w t u n bn h1 h3
      · by_cases h4 : mulE t n = 0
        · have hT : isT t = true := by
            cases h : isT t
            · rw [(mul_arg1 h).2] at h4; omega
            · rfl
          exact laws_y1 w t u n bn h1 hT (by omega) (by omega) h4
        · exact laws_y2 w t u n bn h1 (by omega) (by omega) _ rfl (beq_eq_false_iff_ne.2 h4)
  · have h1' := beq_eq_false_iff_ne.2 h1
    by_cases h2 : n < 0
    · exact laws_n3 w t u n bn _ rfl h1' h2
    · by_cases h3 : 4611686018427387904 ≤ n
      · exact laws_n4 w t u n bn _ rfl h1' h3
      · by_cases h4 : mulE t n = 0
        · have hT : isT t = true := by
            cases h : isT t
            · rw [(mul_arg1 h).2] at h4; omega
            · rfl
          exact laws_n1 w t u n bn _ rfl h1' hT (by omega) (by omega) h4
        · exact laws_n2 w t u n bn _ rfl h1' (by omega) (by omega) _ rfl (beq_eq_false_iff_ne.2 h4)

namespace clockLaws
theorem own : ownKnob Try.prog.godebug = none := by kernel_rfl
theorem laidOut : laidOutB Try.prog = true := by kernel_rfl

set_option maxRecDepth 100000 in
theorem lifted (os : Os) (started : os.Started) (H : Type) (enc : TypeId × Value → H) :
    ReturnsInHanded {} Try.checked os 7 .any (Rows.clockLawsSpec.pre6 enc Try.prog Try.f7 Rows.clockLawsRow.domain false) (Rows.clockLawsSpec.post enc Try.prog Try.f7 false true false false) := by
  refine returnsInHanded_of_change (C := Try.checked) own started (by kernel_rfl) Try.func7
    (ChangeSpec.witness6 (enc := enc) (C := Try.checked) false ⟨#[], #[.int .i64 0, .int .i64 0, .int .i64 0], []⟩ 8 (by kernel_rfl) (by kernel_rfl) (by kernel_rfl) (by kernel_rfl)) ?_
  intro W base args ds gs before hval0 hW hcnd _
  have hval : ∀ (j : Nat) t v, Try.f7.params[j]? = some t → args[j]? = some v → Value.okWide Try.prog W .any base t v := hval0
  have hW' := hW
  obtain ⟨p, q, hA0, hV, rfl, hfz, hnd⟩ := hW
  have hA : DataW.TrodAll enc Try.prog W 0 (fun _ => true) true Try.f7.params.toList args.toList ds p := hA0
  rw [Try.params7] at hA hval
  obtain ⟨v0, vs0, d0, ds0, p0, q0, hargs, rfl, rfl, h0, r0⟩ := trodAll_cons hA
  obtain ⟨v1, vs1, d1, ds1, p1, q1, rfl, rfl, rfl, h1, r1⟩ := trodAll_cons r0
  obtain ⟨v2, vs2, d2, ds2, p2, q2, rfl, rfl, rfl, h2, r2⟩ := trodAll_cons r1
  obtain ⟨rfl, rfl, rfl⟩ := trodAll_nil r2
  obtain rfl : args = #[v0, v1, v2] := by cases args; simp_all
  obtain ⟨rfl, rfl⟩ := trodVars_none hV
  obtain ⟨a0, rfl, rfl, rfl, w0⟩ := open_int Try.underlying3 (hval 0 3 v0 rfl rfl) h0
  obtain ⟨a1, rfl, rfl, rfl, w1⟩ := open_int Try.underlying3 (hval 1 3 v1 rfl rfl) h1
  obtain ⟨a2, rfl, rfl, rfl, w2⟩ := open_int Try.underlying3 (hval 2 3 v2 rfl rfl) h2
  clear hA0 hval0
  simp only [List.append_nil] at hW'
  refine (walk_ClockLaws W a0 w0 a1 w1 a2 w2).mono fun e W' ⟨he, bel⟩ => ?_
  subst he
  exact ⟨_, rfl, _, _, _, [], _, [], hW', trodAll_mk1 (shut_bool Try.underlying4 _), (trodAll_cons_mk (shut_int Try.underlying3 w0) (trodAll_cons_mk (shut_int Try.underlying3 w1) (trodAll_cons_mk (shut_int Try.underlying3 w2) trodAll_mk0))), rfl, bel.frame _, fun h => by cases h⟩

theorem over : Rows.clockLawsRow.holds Try.pinned (OpenSpec.ofChange Rows.clockLawsSpec) :=
  OpenClaim.holds_of_wide 7 Try.f7 rfl rfl rfl rfl rfl rfl rfl ⟨rfl, rfl, rfl, rfl, rfl⟩ rfl rfl rfl rfl rfl (by kernel_rfl) Try.func7 (by kernel_rfl)
    (of_decide_eq_true (by kernel_rfl)) (by unfold Func.isWrapper; first | (rw [if_pos (by decide +kernel)]; kernel_rfl) | (rw [if_neg (by decide +kernel)]; exact ⟨rfl, rfl⟩))
    (fun os started H enc _ => lifted os started H enc)

theorem proved : Rows.ClockLawsSaid := over
#print axioms proved
end clockLaws
end Go.Proofs.Ytaabalffcpaojaa
