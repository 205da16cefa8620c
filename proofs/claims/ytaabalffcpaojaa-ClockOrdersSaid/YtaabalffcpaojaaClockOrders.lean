/- ClockOrders: for any three ints the law returns true, and all read afterwards as before. No condition. -/
import Derived.Test.YtaabalffcpaojaaRows
import Derived.Test.YtaabalffcpaojaaClkKnown
import Derived.WalkKit
import Derived.ProofKit
import Derived.OpenShut
import Derived.ShutString
import Derived.ChangeOld
import Derived.Below
import Derived.Outline
namespace Go.Proofs.Ytaabalffcpaojaa
open Go.ChangeShapes Go.WideShapes Go.ChangeAt Go.RowKit
open Go.ChangeMaps (open_string shut_string)
set_option linter.unusedVariables false

theorem add_turn (a b c : Int) : addV [c, a, b] = addV [a, b, c] ∧ addE [c, a, b] = addE [a, b, c] := by
  have h1 : allT [c, a, b] = allT [a, b, c] := by
    simp only [allT, List.all_cons, List.all_nil, Bool.and_true]
    cases isT a <;> cases isT b <;> cases isT c <;> rfl
  have h2 : sumL [c, a, b] = sumL [a, b, c] := by simp only [sumL]; omega
  simp only [addV, addE, h1, h2, and_self]
theorem one_spec {y : Int} (h : 0 ≤ y) : (y ≤ 1099511627775 ∧ one y = y) ∨ (1099511627775 < y ∧ one y = 1099511627775) := by
  unfold one
  rw [if_neg (by omega)]
  by_cases h1 : 1099511627775 < y
  · exact Or.inr ⟨h1, if_pos h1⟩
  · exact Or.inl ⟨by omega, if_neg h1⟩
theorem clip_sum (x y z : Int) (hx : 0 ≤ x) (hy : 0 ≤ y) (hz : 0 ≤ z) (hx1 : x ≤ 1099511627775) : one (one (one (0 + x) + y) + z) = one (x + y + z) := by
  have h1 : one (0 + x) = x := by
    rcases one_spec (y := 0 + x) (by omega) with ⟨a, e⟩ | ⟨a, e⟩ <;> omega
  rw [h1]
  rcases one_spec (y := x + y) (by omega) with ⟨a, e⟩ | ⟨a, e⟩
  · rw [e]
  · rw [e]
    rcases one_spec (y := 1099511627775 + z) (by omega) with ⟨b, f⟩ | ⟨b, f⟩ <;> rcases one_spec (y := x + y + z) (by omega) with ⟨c, g⟩ | ⟨c, g⟩ <;> omega
theorem clip_turn (a b c : Int) : clipA [c, b, a] = clipA [a, b, c] := by
  have ha := one_bd a
  have hb := one_bd b
  have hc := one_bd c
  show one (one (one (0 + one c) + one b) + one a) = one (one (one (0 + one a) + one b) + one c)
  rw [clip_sum _ _ _ hc.1 hb.1 ha.1 hc.2, clip_sum _ _ _ ha.1 hb.1 hc.1 ha.2]
  congr 1
  omega
theorem add2t (t a b : Int) (W : World) (g c : Nat) (T : TypeId) (hg : W.heap.size = g) : Calls Try.prog 12 #[.int .i64 t, .slice (some ⟨g, 0, none⟩) 2 c] (W.alloc (.cells #[.int .i64 a, .int .i64 b] T))
    fun e w' => e = .returned (.tuple #[.int .i64 (addV [a, b, t]), .int .i64 (addE [a, b, t])]) ∧ W.alloc (.cells #[.int .i64 a, .int .i64 b] T) = w' := by
  have h := add2 t a b W g c T hg
  rw [(add_turn a b t).1, (add_turn a b t).2] at h
  exact h
theorem clip2t (t a b : Int) (W : World) (g c : Nat) (T : TypeId) (hg : W.heap.size = g) : Calls Try.prog 14 #[.int .i64 t, .slice (some ⟨g, 0, none⟩) 2 c] (W.alloc (.cells #[.int .i64 a, .int .i64 b] T))
    fun e w' => e = .returned (.int .i64 (clipA [b, a, t])) ∧ W.alloc (.cells #[.int .i64 a, .int .i64 b] T) = w' := by
  have h := clip2 t a b W g c T hg
  rw [clip_turn b a t] at h
  exact h

set_option maxHeartbeats 800000 in
theorem walk_ClockOrders (w : World) (a : Int) (wa : (Lit.int .i64 a).wf = true) (b : Int) (wb : (Lit.int .i64 b).wf = true) (c : Int) (wc : (Lit.int .i64 c).wf = true) :
    Calls Try.prog 8 #[.int .i64 a, .int .i64 b, .int .i64 c] w fun e w' => e = .returned (.bool true) ∧ Below w.heap.size w w' := by
  clear wa wb wc
  go_enter Try.func8, Try.ntmps8
  go_wp2_with fail
  refine (add2 _ _ _ _ _ _ _ (by simp)).mono ?_
  rintro e w' ⟨rfl, rfl⟩
  go_wp2_with fail
  refine (add2t _ _ _ _ _ _ _ (by simp)).mono ?_
  rintro e w' ⟨rfl, rfl⟩
  go_wp2_with fail
  refine (clip2 _ _ _ _ _ _ _ (by simp)).mono ?_
  rintro e w' ⟨rfl, rfl⟩
  go_wp2_with fail
  refine (clip2t _ _ _ _ _ _ _ (by simp)).mono ?_
  rintro e w' ⟨rfl, rfl⟩
  go_wp2_with fail
  refine (known_any _).mono ?_
  rintro e w1 ⟨rfl, hb1⟩
  go_wp2_with fail
  go_ret
  exact ⟨rfl, blw (bal (bal (bal (bal (Below.refl _ _) _) _) _) _) hb1⟩

namespace clockOrders
theorem own : ownKnob Try.prog.godebug = none := by kernel_rfl
theorem laidOut : laidOutB Try.prog = true := by kernel_rfl

set_option maxRecDepth 100000 in
theorem lifted (os : Os) (started : os.Started) (H : Type) (enc : TypeId × Value → H) :
    ReturnsInHanded {} Try.checked os 8 .any (Rows.clockOrdersSpec.pre6 enc Try.prog Try.f8 Rows.clockOrdersRow.domain false) (Rows.clockOrdersSpec.post enc Try.prog Try.f8 false true false false) := by
  refine returnsInHanded_of_change (C := Try.checked) own started (by kernel_rfl) Try.func8
    (ChangeSpec.witness6 (enc := enc) (C := Try.checked) false ⟨#[], #[.int .i64 0, .int .i64 0, .int .i64 0], []⟩ 8 (by kernel_rfl) (by kernel_rfl) (by kernel_rfl) (by kernel_rfl)) ?_
  intro W base args ds gs before hval0 hW hcnd _
  have hval : ∀ (j : Nat) t v, Try.f8.params[j]? = some t → args[j]? = some v → Value.okWide Try.prog W .any base t v := hval0
  have hW' := hW
  obtain ⟨p, q, hA0, hV, rfl, hfz, hnd⟩ := hW
  have hA : DataW.TrodAll enc Try.prog W 0 (fun _ => true) true Try.f8.params.toList args.toList ds p := hA0
  rw [Try.params8] at hA hval
  obtain ⟨v0, vs0, d0, ds0, p0, q0, hargs, rfl, rfl, h0, r0⟩ := trodAll_cons hA
  obtain ⟨v1, vs1, d1, ds1, p1, q1, rfl, rfl, rfl, h1, r1⟩ := trodAll_cons r0
  obtain ⟨v2, vs2, d2, ds2, p2, q2, rfl, rfl, rfl, h2, r2⟩ := trodAll_cons r1
  obtain ⟨rfl, rfl, rfl⟩ := trodAll_nil r2
  obtain rfl : args = #[v0, v1, v2] := by cases args; simp_all
  obtain ⟨rfl, rfl⟩ := trodVars_none hV
  obtain ⟨a0, rfl, rfl, rfl, w0⟩ := open_int Try.underlying3 (hval 0 3 v0 rfl rfl) h0
  obtain ⟨a1, rfl, rfl, rfl, w1⟩ := open_int Try.underlying3 (hval 1 3 v1 rfl rfl) h1
  obtain ⟨a2, rfl, rfl, rfl, w2⟩ := open_int Try.underlying3 (hval 2 3 v2 rfl rfl) h2
  clear hA0 hval0
  simp only [List.append_nil] at hW'
  refine (walk_ClockOrders W a0 w0 a1 w1 a2 w2).mono fun e W' ⟨he, bel⟩ => ?_
  subst he
  exact ⟨_, rfl, _, _, _, [], _, [], hW', trodAll_mk1 (shut_bool Try.underlying4 _), (trodAll_cons_mk (shut_int Try.underlying3 w0) (trodAll_cons_mk (shut_int Try.underlying3 w1) (trodAll_cons_mk (shut_int Try.underlying3 w2) trodAll_mk0))), rfl, bel.frame _, fun h => by cases h⟩

theorem over : Rows.clockOrdersRow.holds Try.pinned (OpenSpec.ofChange Rows.clockOrdersSpec) :=
  OpenClaim.holds_of_wide 8 Try.f8 rfl rfl rfl rfl rfl rfl rfl ⟨rfl, rfl, rfl, rfl, rfl⟩ rfl rfl rfl rfl rfl (by kernel_rfl) Try.func8 (by kernel_rfl)
    (of_decide_eq_true (by kernel_rfl)) (by unfold Func.isWrapper; first | (rw [if_pos (by decide +kernel)]; kernel_rfl) | (rw [if_neg (by decide +kernel)]; exact ⟨rfl, rfl⟩))
    (fun os started H enc _ => lifted os started H enc)

theorem proved : Rows.ClockOrdersSaid := over
#print axioms proved
end clockOrders
end Go.Proofs.Ytaabalffcpaojaa
