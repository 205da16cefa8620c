/- Layer 9: Area: from the last one on. -/
import Derived.Test.YtapojmniokdjfaaStpE
import Derived.Test.YtapojmniokdjfaaStpSeq
namespace Go.Proofs.Ytapojmniokdjfaa.Stp
open Go.RowKit Go.Shelf
set_option linter.unusedVariables false
set_option maxRecDepth 100000
attribute [local go_sem] Oper.semAt_some

/-! the sum, from the last one on -/
def mxV (x a : Int) : Int := if x < a then a else x
def arS (a : Int) : Int × Int → List StepD → Int × Int
  | p, [] => p
  | p, x :: r => arS a (p.1 + x.fr * (p.2 - mxV x.at_ a), x.at_) r
theorem arS_app (a : Int) : ∀ (pre : List StepD) (p : Int × Int) (x : StepD), arS a p (pre ++ [x]) = ((arS a p pre).1 + x.fr * ((arS a p pre).2 - mxV x.at_ a), x.at_)
  | [], p, x => rfl
  | y :: pre, p, x => arS_app a pre _ x
theorem mul_bd {x y : Int} (hx : 0 ≤ x ∧ x ≤ 10000) (hy : -1099511627775 ≤ y ∧ y ≤ 1099511627775) : -10995116277750000 ≤ x * y ∧ x * y ≤ 10995116277750000 := by
  have h1 : x * y ≤ x * 1099511627775 := Int.mul_le_mul_of_nonneg_left hy.2 hx.1
  have h2 : x * (-1099511627775) ≤ x * y := Int.mul_le_mul_of_nonneg_left hy.1 hx.1
  omega
def InP (l : List StepD) : Prop := ∀ x ∈ l, (0 ≤ x.at_ ∧ x.at_ ≤ 1099511627775) ∧ 0 ≤ x.fr ∧ x.fr ≤ 10000
theorem mxV_bd {x a : Int} (hx : 0 ≤ x ∧ x ≤ 1099511627775) (ha : 0 ≤ a ∧ a ≤ 1099511627775) : 0 ≤ mxV x a ∧ mxV x a ≤ 1099511627775 := by unfold mxV; split <;> omega
theorem arS_bd {a : Int} (ha : 0 ≤ a ∧ a ≤ 1099511627775) : ∀ (pre : List StepD) (p : Int × Int) (k : Int), InP pre → (0 ≤ p.2 ∧ p.2 ≤ 1099511627775) → (-(10995116277750000 * k) ≤ p.1 ∧ p.1 ≤ 10995116277750000 * k) →
    (0 ≤ (arS a p pre).2 ∧ (arS a p pre).2 ≤ 1099511627775) ∧ -(10995116277750000 * (k + pre.length)) ≤ (arS a p pre).1 ∧ (arS a p pre).1 ≤ 10995116277750000 * (k + pre.length)
  | [], p, k, _, h2, h1 => ⟨h2, by simpa [arS] using h1⟩
  | x :: pre, p, k, hP, h2, h1 => by
    have hx := hP x (by simp)
    have hm := mxV_bd hx.1 ha
    have hmul := mul_bd hx.2 (y := p.2 - mxV x.at_ a) (by omega)
    have := arS_bd ha pre (p.1 + x.fr * (p.2 - mxV x.at_ a), x.at_) (k + 1) (fun y hy => hP y (by simp [hy])) hx.1 (by show _ ≤ p.1 + x.fr * (p.2 - mxV x.at_ a) ∧ p.1 + x.fr * (p.2 - mxV x.at_ a) ≤ _; omega)
    show (0 ≤ (arS a (p.1 + x.fr * (p.2 - mxV x.at_ a), x.at_) pre).2 ∧ _) ∧ _ ≤ (arS a (p.1 + x.fr * (p.2 - mxV x.at_ a), x.at_) pre).1 ∧ (arS a (p.1 + x.fr * (p.2 - mxV x.at_ a), x.at_) pre).1 ≤ _
    refine ⟨this.1, ?_, ?_⟩
    · have h := this.2.1; rw [List.length_cons]; push_cast; omega
    · have h := this.2.2; rw [List.length_cons]; push_cast; omega
def areaV (l : List StepD) (a b : Int) : Int := if durE l a b = 0 then (arS a (0, b) (durL l a b).reverse).1 else 0
theorem dur_in {l : List StepD} {a b : Int} (h : durE l a b = 0) : InP (durL l a b) ∧ (durL l a b).length ≤ l.length := by
  obtain ⟨hp, _⟩ := dur_yes h
  unfold durL
  by_cases hc : durE l a b = 0 ∧ a < b
  · rw [if_pos hc]
    unfold partL
    exact ⟨fun x hx => hp.ok x (List.mem_of_mem_drop (List.mem_of_mem_take hx)), by rw [List.length_take, List.length_drop]; omega⟩
  · rw [if_neg hc]; exact ⟨fun x hx => (by cases hx), Nat.zero_le _⟩
end Go.Proofs.Ytapojmniokdjfaa.Stp

