/- Layer 9 in plain words: the steps of a while; the least and the greatest. No program. -/
import Derived.Test.YtapojmniokdjfaaStpLed
namespace Go.Proofs.Ytapojmniokdjfaa
set_option linter.unusedVariables false
theorem led_mono : ∀ (l : List StepD) {t u : Int}, t ≤ u → ledF l t ≤ ledF l u
  | [], _, _, _ => Nat.le_refl _
  | s :: l, t, u, h => by
    unfold ledF
    by_cases h1 : s.at_ ≤ t
    · rw [if_pos h1, if_pos (by omega)]; have := led_mono l h; omega
    · rw [if_neg h1]; exact Nat.zero_le _
theorem Prof.led {l : List StepD} (h : Prof l) {t : Int} (ht : 0 ≤ t) : 1 ≤ ledF l t := by
  obtain ⟨s, r, rfl, hz⟩ := h.zero
  unfold ledF
  rw [if_pos (by omega)]; omega
theorem Prof.rise {l : List StepD} (h : Prof l) : Rise (-1) l := h.norm.rise
theorem Prof.val {l : List StepD} (h : Prof l) {t : Int} (ht : 0 ≤ t) (d d' : Int) : valF d l t = valF d' l t := by
  obtain ⟨s, r, rfl, hz⟩ := h.zero
  rw [val_cons (by omega), val_cons (by omega)]
def atV (l : List StepD) (t : Int) : Int := if chkD l = true ∧ Clk.isT t = true then valF 0 l t else 0
def durE (l : List StepD) (a b : Int) : Int := if chkD l = true ∧ Clk.isT a = true ∧ Clk.isT b = true ∧ a ≤ b then 0 else 2
def partL (l : List StepD) (a b : Int) : List StepD := (l.drop (ledF l a - 1)).take (ledF l (b - 1) - (ledF l a - 1))
def durL (l : List StepD) (a b : Int) : List StepD := if durE l a b = 0 ∧ a < b then partL l a b else []
theorem dur_yes {l : List StepD} {a b : Int} (h : durE l a b = 0) : Prof l ∧ Clk.isT a = true ∧ Clk.isT b = true ∧ a ≤ b := by
  unfold durE at h
  by_cases hc : chkD l = true ∧ Clk.isT a = true ∧ Clk.isT b = true ∧ a ≤ b
  · exact ⟨chkD_prof.1 hc.1, hc.2⟩
  · rw [if_neg hc] at h; cases h
theorem dur_or (l : List StepD) (a b : Int) : durE l a b = 0 ∨ durE l a b = 2 := by
  unfold durE
  by_cases hc : chkD l = true ∧ Clk.isT a = true ∧ Clk.isT b = true ∧ a ≤ b
  · rw [if_pos hc]; exact Or.inl rfl
  · rw [if_neg hc]; exact Or.inr rfl
theorem part_len {l : List StepD} (h : Prof l) {a b : Int} (ha : 0 ≤ a) (hab : a < b) : (partL l a b).length = ledF l (b - 1) - (ledF l a - 1) ∧ 1 ≤ (partL l a b).length := by
  have h1 := h.led ha
  have h2 := led_mono l (show a ≤ b - 1 by omega)
  have h3 := led_le l (b - 1)
  have e : (partL l a b).length = ledF l (b - 1) - (ledF l a - 1) := by
    unfold partL
    rw [List.length_take, List.length_drop]; omega
  exact ⟨e, by omega⟩
theorem chkE_or (l : List StepD) : chkE l = 0 ∧ Prof l ∨ chkE l = 2 ∧ chkD l = false := by
  unfold chkE
  cases h : chkD l
  · exact Or.inr ⟨rfl, rfl⟩
  · exact Or.inl ⟨rfl, chkD_prof.1 h⟩
/-- the least, the greatest -/
def minF : Int → List StepD → Int
  | m, [] => m
  | m, s :: l => minF (if s.fr < m then s.fr else m) l
def maxF : Int → List StepD → Int
  | m, [] => m
  | m, s :: l => maxF (if m < s.fr then s.fr else m) l
def endE (l : List StepD) (a b : Int) : Int := if durE l a b = 0 ∧ a < b then 0 else 2
def headV : List StepD → Int
  | [] => 0
  | s :: _ => s.fr
def minV (l : List StepD) (a b : Int) : Int := if endE l a b = 0 then minF (headV (partL l a b)) (partL l a b) else 0
def maxV (l : List StepD) (a b : Int) : Int := if endE l a b = 0 then maxF (headV (partL l a b)) (partL l a b) else 0
end Go.Proofs.Ytapojmniokdjfaa

