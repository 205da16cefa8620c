/- ClockProducts: for any int and any uint8 the law returns true, and both read afterwards as before. No condition. -/
import Derived.Test.YtaabalffcpaojaaRows
import Derived.Test.YtaabalffcpaojaaClkLaw
import Derived.WalkKit
import Derived.ProofKit
import Derived.OpenShut
import Derived.ShutString
import Derived.ChangeOld
import Derived.Below
import Derived.Outline
namespace Go.Proofs.Ytaabalffcpaojaa
open Go.ChangeShapes Go.WideShapes Go.ChangeAt Go.RowKit
open Go.ChangeMaps (open_string shut_string)
set_option linter.unusedVariables false

theorem mul_zero {t : Int} (h : isT t = true) : mulV t (0 : Nat) = 0 ∧ mulE t (0 : Nat) = 0 := by
  have := mul_yes (n := ((0 : Nat) : Int)) h (by omega) (by simp)
  simpa using this
theorem mul_stuck {t k n : Int} (h : isT t = true) (hk : 0 ≤ k) (hkn : k ≤ n) (he : mulE t k ≠ 0) : mulV t n = mulV t k ∧ mulE t n = mulE t k := by
  have b := isT_bd h
  have ho : 1099511627775 < t * k := by
    rcases Int.lt_or_le 1099511627775 (t * k) with g | g
    · exact g
    · exact absurd (mul_yes h hk g).2 he
  have hle : t * k ≤ t * n := Int.mul_le_mul_of_nonneg_left hkn b.1
  rw [(mul_over h hk ho).1, (mul_over h hk ho).2, (mul_over h (by omega) (show 1099511627775 < t * n from by omega)).1, (mul_over h (by omega) (show 1099511627775 < t * n from by omega)).2]
  exact ⟨rfl, rfl⟩

set_option maxHeartbeats 1600000 in
theorem walk_ClockProducts (w : World) (t : Int) (wt : (Lit.int .i64 t).wf = true) (n : Int) (wn : (Lit.int .u8 n).wf = true) :
    Calls Try.prog 10 #[.int .i64 t, .int .u8 n] w fun e w' => e = .returned (.bool true) ∧ Below w.heap.size w w' := by
  have bn := bounds_u8 wn
  clear wt wn
  cases hT : isT t
  · have HV := Lib.hid (mul_arg1 (n := n) hT).1
    have HE := Lib.hid (mul_arg1 (n := n) hT).2
    go_enter Try.func10, Try.ntmps10
    go_wp2_with fail
    refine (mul_at _ _ _ (by omega) _ _ HV.out HE.out).mono ?_
    rintro e w' ⟨rfl, rfl⟩
    go_wp2_with fail
    refine (is_any _ _).mono ?_
    rintro e w' ⟨rfl, rfl⟩
    go_wp2_with fail
    refine (known_any _).mono ?_
    rintro e w1 ⟨rfl, hb1⟩
    go_wp2_with fail
    go_ret
    exact ⟨rfl, hb1⟩
  · obtain ⟨mv, hmv⟩ : ∃ mv, mulV t n = mv := ⟨_, rfl⟩
    obtain ⟨me, hme⟩ : ∃ me, mulE t n = me := ⟨_, rfl⟩
    have HV := Lib.hid hmv
    have HE := Lib.hid hme
    clear hmv hme
    go_enter Try.func10, Try.ntmps10
    go_wp2_with fail
    refine (mul_at _ _ _ (by omega) _ _ HV.out HE.out).mono ?_
    rintro e w' ⟨rfl, rfl⟩
    go_wp2_with fail
    refine (is_any _ _).mono ?_
    rintro e w' ⟨rfl, rfl⟩
    go_wp2_with fail
    have HT := Lib.hid hT; clear hT
    go_loopw [7, 8, 9] (fun s f i wr => ∃ (k : Nat) (v e0 : Int), (k : Int) ≤ n ∧ i = .int .i64 (k : Int) ∧ s = .int .i64 v ∧ f = .int .i64 e0 ∧ Below w.heap.size w wr ∧ Hid (mulV t k = v) ∧ Hid (mulE t k = e0)) (fun _ _ i _ => n.toNat - (intOf i).toNat)
    case atStart => exact ⟨0, 0, 0, by omega, rfl, rfl, rfl, Below.refl _ _, Lib.hid (mul_zero HT.out).1, Lib.hid (mul_zero HT.out).2⟩
    case round =>
      obtain ⟨k, v, e0, hk, rfl, rfl, rfl, hb, hv, he⟩ := hrel
      by_cases hlt : (k : Int) < n
      · by_cases h0 : e0 = 0
        · subst h0
          have hs := mul_step HT.out (show (0 : Int) ≤ k from by omega) he.out
          rw [hv.out] at hs
          obtain ⟨v1, hv1⟩ : ∃ v1, mulV t ((k : Int) + 1) = v1 := ⟨_, rfl⟩
          obtain ⟨e1, he1⟩ : ∃ e1, mulE t ((k : Int) + 1) = e1 := ⟨_, rfl⟩
          rw [hv1, he1] at hs
          have HS := Lib.hid hs
          have HV1 := Lib.hid hv1
          have HE1 := Lib.hid he1
          clear hs hv1 he1
          go_wp2_with fail
          refine (add_at _ _ _ _ _ _ (by simp) _ _ HS.out.1 HS.out.2).mono ?_
          rintro e w' ⟨rfl, rfl⟩
          go_wp2_with fail
          go_roundw
          case rel => exact ⟨k + 1, v1, e1, by omega, by go_num, rfl, rfl, bal hb _, by rw [Int.natCast_add]; exact HV1, by rw [Int.natCast_add]; exact HE1⟩
          case measure => simp [intOf]; omega
        · have h0b : (e0 == 0) = false := beq_eq_false_iff_ne.2 h0
          have hst := mul_stuck HT.out (show (0 : Int) ≤ k from by omega) (show (k : Int) ≤ n from by omega) (by rw [he.out]; exact h0)
          rw [hv.out, he.out, HV.out, HE.out] at hst
          obtain ⟨rfl, rfl⟩ := hst
          clear h0
          go_wp2_with fail
          refine (known_any _).mono ?_
          rintro e w1 ⟨rfl, hb1⟩
          go_wp2_with fail
          go_ret
          exact ⟨rfl, blw hb hb1⟩
      · obtain rfl : n = (k : Int) := by omega
        obtain rfl : mv = v := HV.out.symm.trans hv.out
        obtain rfl : me = e0 := HE.out.symm.trans he.out
        go_wp2_with fail
        refine (known_any _).mono ?_
        rintro e w1 ⟨rfl, hb1⟩
        go_wp2_with fail
        go_ret
        exact ⟨rfl, blw hb hb1⟩

namespace clockProducts
theorem own : ownKnob Try.prog.godebug = none := by kernel_rfl
theorem laidOut : laidOutB Try.prog = true := by kernel_rfl

set_option maxRecDepth 100000 in
theorem lifted (os : Os) (started : os.Started) (H : Type) (enc : TypeId × Value → H) :
    ReturnsInHanded {} Try.checked os 10 .any (Rows.clockProductsSpec.pre6 enc Try.prog Try.f10 Rows.clockProductsRow.domain false) (Rows.clockProductsSpec.post enc Try.prog Try.f10 false true false false) := by
  refine returnsInHanded_of_change (C := Try.checked) own started (by kernel_rfl) Try.func10
    (ChangeSpec.witness6 (enc := enc) (C := Try.checked) false ⟨#[], #[.int .i64 0, .int .u8 0], []⟩ 8 (by kernel_rfl) (by kernel_rfl) (by kernel_rfl) (by kernel_rfl)) ?_
  intro W base args ds gs before hval0 hW hcnd _
  have hval : ∀ (j : Nat) t v, Try.f10.params[j]? = some t → args[j]? = some v → Value.okWide Try.prog W .any base t v := hval0
  have hW' := hW
  obtain ⟨p, q, hA0, hV, rfl, hfz, hnd⟩ := hW
  have hA : DataW.TrodAll enc Try.prog W 0 (fun _ => true) true Try.f10.params.toList args.toList ds p := hA0
  rw [Try.params10] at hA hval
  obtain ⟨v0, vs0, d0, ds0, p0, q0, hargs, rfl, rfl, h0, r0⟩ := trodAll_cons hA
  obtain ⟨v1, vs1, d1, ds1, p1, q1, rfl, rfl, rfl, h1, r1⟩ := trodAll_cons r0
  obtain ⟨rfl, rfl, rfl⟩ := trodAll_nil r1
  obtain rfl : args = #[v0, v1] := by cases args; simp_all
  obtain ⟨rfl, rfl⟩ := trodVars_none hV
  obtain ⟨a0, rfl, rfl, rfl, w0⟩ := open_int Try.underlying3 (hval 0 3 v0 rfl rfl) h0
  obtain ⟨a1, rfl, rfl, rfl, w1⟩ := open_int Try.underlying5 (hval 1 5 v1 rfl rfl) h1
  clear hA0 hval0
  simp only [List.append_nil] at hW'
  refine (walk_ClockProducts W a0 w0 a1 w1).mono fun e W' ⟨he, bel⟩ => ?_
  subst he
  exact ⟨_, rfl, _, _, _, [], _, [], hW', trodAll_mk1 (shut_bool Try.underlying4 _), (trodAll_cons_mk (shut_int Try.underlying3 w0) (trodAll_cons_mk (shut_int Try.underlying5 w1) trodAll_mk0)), rfl, bel.frame _, fun h => by cases h⟩

theorem over : Rows.clockProductsRow.holds Try.pinned (OpenSpec.ofChange Rows.clockProductsSpec) :=
  OpenClaim.holds_of_wide 10 Try.f10 rfl rfl rfl rfl rfl rfl rfl ⟨rfl, rfl, rfl, rfl, rfl⟩ rfl rfl rfl rfl rfl (by kernel_rfl) Try.func10 (by kernel_rfl)
    (of_decide_eq_true (by kernel_rfl)) (by unfold Func.isWrapper; first | (rw [if_pos (by decide +kernel)]; kernel_rfl) | (rw [if_neg (by decide +kernel)]; exact ⟨rfl, rfl⟩))
    (fun os started H enc _ => lifted os started H enc)

theorem proved : Rows.ClockProductsSaid := over
#print axioms proved
end clockProducts
end Go.Proofs.Ytaabalffcpaojaa
