/- StepsPoints: for any steps and any four ints, the law returns true, and all read afterwards as before. No condition. -/
import Derived.Test.YtmlkomcjbcolhaaRows
import Derived.Test.YtmlkomcjbcolhaaStpL
import Derived.Test.YtmlkomcjbcolhaaStpArg
import Derived.WalkKit
import Derived.ProofKit
import Derived.OpenShut
import Derived.ShutString
import Derived.ChangeOld
import Derived.Below
namespace Go.Proofs.Ytmlkomcjbcolhaa
open Go.ChangeShapes Go.WideShapes Go.ChangeAt Go.RowKit
open Stp (blw al kp Stp.below addE addL add_any known9_any RetS add_yes addE_iff add_no add_at inW at_any check_any)
set_option linter.unusedVariables false

set_option maxRecDepth 100000 in
set_option maxHeartbeats 3200000 in
theorem walk_StepsPoints (w : World) (A : Option Addr) (c0 : Nat) (l : List StepD) (h : Stp.Stp w A c0 l) (a b k t : Int) :
    Calls Try.prog 7 #[.slice A l.length c0, .int .i64 a, .int .i64 b, .int .i64 k, .int .i64 t] w fun e w' => e = .returned (.bool true) ∧ Below w.heap.size w w' := by
  have HK := Lib.hid known9_any
  obtain ⟨n, hn⟩ : ∃ n, l.length = n := ⟨_, rfl⟩
  have hnl : n ≤ 9223372036854775807 := by rw [← hn]; exact h.lenI
  rw [hn]
  by_cases hlong : 60 < n
  · clear h hn
    go_enter Try.func7, Try.ntmps7
    go_wp2_with fail
    refine (HK.out _).mono ?_
    rintro e w' ⟨rfl, hw⟩
    go_wp2
    go_ret
    exact ⟨rfl, hw⟩
  have hn60 : l.length ≤ 900 := by omega
  obtain ⟨e1, he1⟩ : ∃ e, addE l a b k = e := ⟨_, rfl⟩
  obtain ⟨m, hm⟩ : ∃ m, addL l a b k = m := ⟨_, rfl⟩
  have HA1 := Lib.hid fun W (hW : Below w.heap.size w W) => add_any l a b k A n c0 hn (by omega) W (h.below hW)
  unfold RetS at HA1
  rw [he1, hm] at HA1
  by_cases h1 : e1 = 0
  case neg =>
    have hb1 : (e1 != 0) = true := by rw [bne_iff_ne]; exact h1
    obtain rfl : m = [] := by rw [← hm]; exact add_no (by rw [he1]; exact h1)
    clear h hn he1 hm h1 hn60
    go_enter Try.func7, Try.ntmps7
    go_wp2_with fail
    refine (HA1.out _ (Below.refl _ _)).mono ?_
    rintro e w1 ⟨A1, c1, rfl, hs1, hb1⟩
    go_wp2_with fail
    refine (HK.out _).mono ?_
    rintro e w' ⟨rfl, hw⟩
    go_wp2
    go_ret
    exact ⟨rfl, blw hb1 hw⟩
  subst h1
  have hy := addE_iff.1 he1
  have hv := add_yes he1 (by omega)
  rw [hm] at hv
  have hat := add_at he1 (by omega) t
  rw [hm] at hat
  obtain ⟨v, hvv⟩ : ∃ v, atV l t = v := ⟨_, rfl⟩
  obtain ⟨mn, hmn2⟩ : ∃ mn, m.length = mn := ⟨_, rfl⟩
  have HT1 := Lib.hid fun W (hW : Below w.heap.size w W) => at_any l t A n c0 hn W (h.below hW)
  have HT2 := Lib.hid fun (B : Option Addr) (d : Nat) W (hs : Stp.Stp W B d m) => at_any m t B mn d hmn2 W hs
  have HC := Lib.hid fun (B : Option Addr) (d : Nat) W (hs : Stp.Stp W B d m) => check_any m B mn d hmn2 W hs
  have hvb : 0 ≤ v ∧ v ≤ 10000 := by
    rw [← hvv]; unfold atV
    split
    · rename_i hc; exact hy.prof.bd (Clk.isT_bd hc.2).1
    · omega
  have hkk := hy.kk
  rw [hvv] at HT1
  rw [hat, hvv] at HT2
  rw [Stp.Prof.chkE hv.prof] at HC
  rw [hmn2] at HA1
  by_cases hin : a ≤ t ∧ t < b
  · rw [show inW a b k t = k from by unfold inW; rw [if_pos hin]] at HT2
    have hin1 := hin.1
    have hin2 := hin.2
    have hw1 : IntKind.i64.wrap (v + k) = v + k := IntWalk.i64_in _ (by omega)
    clear h hn he1 hm hn60 hy hv hat hvv hmn2 hin
    go_enter Try.func7, Try.ntmps7
    go_wp2_with fail
    refine (HA1.out _ (Below.refl _ _)).mono ?_
    rintro e w1 ⟨A1, c1, rfl, hs1, hb1⟩
    have HS1 := Lib.hid hs1; have HW1 := Lib.hid hb1
    clear hs1 hb1
    go_wp2_with fail
    refine (HT1.out _ HW1.out).mono ?_
    rintro e w2 ⟨rfl, hb2⟩
    have HS2 := Lib.hid (HS1.out.below hb2); have HW2 := Lib.hid (blw HW1.out hb2)
    clear hb2
    go_wp2_with fail
    refine (HT2.out _ _ _ HS2.out).mono ?_
    rintro e w3 ⟨rfl, hb3⟩
    have HS3 := Lib.hid (HS2.out.below hb3); have HW3 := Lib.hid (blw HW2.out hb3)
    clear hb3
    go_wp2_with fail
    refine (HC.out _ _ _ HS3.out).mono ?_
    rintro e w4 ⟨rfl, hb4⟩
    have HW4 := Lib.hid (blw HW3.out hb4)
    clear hb4
    go_wp2_with fail
    refine (HK.out _).mono ?_
    rintro e w' ⟨rfl, hw⟩
    go_wp2
    go_ret
    exact ⟨rfl, blw HW4.out hw⟩
  · rw [show inW a b k t = 0 from by unfold inW; rw [if_neg hin], Int.add_zero] at HT2
    clear h hn he1 hm hn60 hy hv hat hvv hmn2
    by_cases hin1 : a ≤ t
    · have hin2 : b ≤ t := by omega
      clear hin
      go_enter Try.func7, Try.ntmps7
      go_wp2_with fail
      refine (HA1.out _ (Below.refl _ _)).mono ?_
      rintro e w1 ⟨A1, c1, rfl, hs1, hb1⟩
      have HS1 := Lib.hid hs1; have HW1 := Lib.hid hb1
      clear hs1 hb1
      go_wp2_with fail
      refine (HT1.out _ HW1.out).mono ?_
      rintro e w2 ⟨rfl, hb2⟩
      have HS2 := Lib.hid (HS1.out.below hb2); have HW2 := Lib.hid (blw HW1.out hb2)
      clear hb2
      go_wp2_with fail
      refine (HT2.out _ _ _ HS2.out).mono ?_
      rintro e w3 ⟨rfl, hb3⟩
      have HS3 := Lib.hid (HS2.out.below hb3); have HW3 := Lib.hid (blw HW2.out hb3)
      clear hb3
      go_wp2_with fail
      refine (HC.out _ _ _ HS3.out).mono ?_
      rintro e w4 ⟨rfl, hb4⟩
      have HW4 := Lib.hid (blw HW3.out hb4)
      clear hb4
      go_wp2_with fail
      refine (HK.out _).mono ?_
      rintro e w' ⟨rfl, hw⟩
      go_wp2
      go_ret
      exact ⟨rfl, blw HW4.out hw⟩
    · have hin2 : t < a := by omega
      clear hin
      go_enter Try.func7, Try.ntmps7
      go_wp2_with fail
      refine (HA1.out _ (Below.refl _ _)).mono ?_
      rintro e w1 ⟨A1, c1, rfl, hs1, hb1⟩
      have HS1 := Lib.hid hs1; have HW1 := Lib.hid hb1
      clear hs1 hb1
      go_wp2_with fail
      refine (HT1.out _ HW1.out).mono ?_
      rintro e w2 ⟨rfl, hb2⟩
      have HS2 := Lib.hid (HS1.out.below hb2); have HW2 := Lib.hid (blw HW1.out hb2)
      clear hb2
      go_wp2_with fail
      refine (HT2.out _ _ _ HS2.out).mono ?_
      rintro e w3 ⟨rfl, hb3⟩
      have HS3 := Lib.hid (HS2.out.below hb3); have HW3 := Lib.hid (blw HW2.out hb3)
      clear hb3
      go_wp2_with fail
      refine (HC.out _ _ _ HS3.out).mono ?_
      rintro e w4 ⟨rfl, hb4⟩
      have HW4 := Lib.hid (blw HW3.out hb4)
      clear hb4
      go_wp2_with fail
      refine (HK.out _).mono ?_
      rintro e w' ⟨rfl, hw⟩
      go_wp2
      go_ret
      exact ⟨rfl, blw HW4.out hw⟩

namespace stepsPoints
open Go.ChangeShapes Go.WideShapes Go.ChangeAt Go.RowKit
theorem own : ownKnob Try.prog.godebug = none := by kernel_rfl
theorem laidOut : laidOutB Try.prog = true := by kernel_rfl

set_option maxRecDepth 100000 in
theorem lifted (os : Os) (started : os.Started) (H : Type) (enc : TypeId × Value → H) :
    ReturnsInHanded {} Try.checked os 7 .any (Rows.stepsPointsSpec.pre6 enc Try.prog Try.f7 Rows.stepsPointsRow.domain false) (Rows.stepsPointsSpec.post enc Try.prog Try.f7 false true false false) := by
  refine returnsInHanded_of_change (C := Try.checked) own started (by kernel_rfl) Try.func7
    (ChangeSpec.witness6 (enc := enc) (C := Try.checked) false ⟨#[], #[.slice none 0 0, .int .i64 0, .int .i64 0, .int .i64 0, .int .i64 0], []⟩ 8 (by kernel_rfl) (by kernel_rfl) (by kernel_rfl) (by kernel_rfl)) ?_
  intro W base args ds gs before hval0 hW hcnd _
  have hval : ∀ (j : Nat) t v, Try.f7.params[j]? = some t → args[j]? = some v → Value.okWide Try.prog W .any base t v := hval0
  have hW' := hW
  obtain ⟨p, q, hA0, hV, rfl, hfz, hnd⟩ := hW
  have hA : DataW.TrodAll enc Try.prog W 0 (fun _ => true) true Try.f7.params.toList args.toList ds p := hA0
  rw [Try.params7] at hA hval
  obtain ⟨v0, vs0, d0, ds0, p0, q0, hargs, rfl, rfl, h0, r0⟩ := trodAll_cons hA
  obtain ⟨v1, vs1, d1, ds1, p1, q1, rfl, rfl, rfl, h1, r1⟩ := trodAll_cons r0
  obtain ⟨v2, vs2, d2, ds2, p2, q2, rfl, rfl, rfl, h2, r2⟩ := trodAll_cons r1
  obtain ⟨v3, vs3, d3, ds3, p3, q3, rfl, rfl, rfl, h3, r3⟩ := trodAll_cons r2
  obtain ⟨v4, vs4, d4, ds4, p4, q4, rfl, rfl, rfl, h4, r4⟩ := trodAll_cons r3
  obtain ⟨rfl, rfl, rfl⟩ := trodAll_nil r4
  obtain rfl : args = #[v0, v1, v2, v3, v4] := by cases args; simp_all
  obtain ⟨rfl, rfl⟩ := trodVars_none hV
  have k0 := h0
  have lt0 : ∀ x ∈ p0, x.block < W.heap.size := by obtain ⟨m, hm⟩ := k0; exact DataW.trod_lt m _ _ _ hm
  obtain ⟨A0, l0, c0, e0⟩ := okWide_slice Try.underlying22 (hval 0 22 v0 rfl rfl)
  obtain ⟨fuel0, hf0⟩ := h0
  rw [show v0.cells.toList = [v0] from by rw [e0]; rfl] at hf0
  clear e0 A0 l0 c0
  obtain ⟨A0, c0, z0, rfl, w0⟩ := Stp.steps_arg hf0
  obtain ⟨a1, rfl, rfl, rfl, w1⟩ := open_int Try.underlying3 (hval 1 3 v1 rfl rfl) h1
  obtain ⟨a2, rfl, rfl, rfl, w2⟩ := open_int Try.underlying3 (hval 2 3 v2 rfl rfl) h2
  obtain ⟨a3, rfl, rfl, rfl, w3⟩ := open_int Try.underlying3 (hval 3 3 v3 rfl rfl) h3
  obtain ⟨a4, rfl, rfl, rfl, w4⟩ := open_int Try.underlying3 (hval 4 3 v4 rfl rfl) h4
  clear hA0 hval0
  refine (walk_StepsPoints W A0 c0 z0 w0 a1 a2 a3 a4).mono fun e W' ⟨he, bel⟩ => ?_
  subst he
  exact ⟨_, rfl, _, _, _, [], _, [], hW', trodAll_mk1 (shut_bool Try.underlying4 _), (trodAll_cons_mk (Below.trod laidOut (by kernel_rfl) (of_decide_eq_true (by kernel_rfl)) k0 bel lt0) (trodAll_cons_mk (shut_int Try.underlying3 w1) (trodAll_cons_mk (shut_int Try.underlying3 w2) (trodAll_cons_mk (shut_int Try.underlying3 w3) (trodAll_cons_mk (shut_int Try.underlying3 w4) trodAll_mk0))))), rfl, bel.frame _, fun h => by cases h⟩

theorem over : Rows.stepsPointsRow.holds Try.pinned (OpenSpec.ofChange Rows.stepsPointsSpec) :=
  OpenClaim.holds_of_wide 7 Try.f7 rfl rfl rfl rfl rfl rfl rfl ⟨rfl, rfl, rfl, rfl, rfl⟩ rfl rfl rfl rfl rfl (by kernel_rfl) Try.func7 (by kernel_rfl)
    (of_decide_eq_true (by kernel_rfl)) (by unfold Func.isWrapper; first | (rw [if_pos (by decide +kernel)]; kernel_rfl) | (rw [if_neg (by decide +kernel)]; exact ⟨rfl, rfl⟩))
    (fun os started H enc _ => lifted os started H enc)

theorem proved : Rows.StepsPointsSaid := over
#print axioms proved
end stepsPoints
end Go.Proofs.Ytmlkomcjbcolhaa

