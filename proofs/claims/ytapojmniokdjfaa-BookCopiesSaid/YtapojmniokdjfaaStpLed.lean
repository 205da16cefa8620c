/- Layer 9 in plain words: how many begin no later. No program. -/
import Derived.Test.YtapojmniokdjfaaStpPure
namespace Go.Proofs.Ytapojmniokdjfaa
set_option linter.unusedVariables false
/-! how many begin no later -/
def ledF : List StepD → Int → Nat
  | [], _ => 0
  | s :: l, t => if s.at_ ≤ t then ledF l t + 1 else 0
theorem led_le : ∀ (l : List StepD) (t : Int), ledF l t ≤ l.length
  | [], _ => Nat.le_refl _
  | s :: l, t => by
    unfold ledF
    by_cases h : s.at_ ≤ t
    · rw [if_pos h]; have := led_le l t; simp; omega
    · rw [if_neg h]; exact Nat.zero_le _
theorem led_low : ∀ {l : List StepD} {lo t : Int}, Rise lo l → t ≤ lo → ledF l t = 0
  | [], _, _, _, _ => rfl
  | s :: l, _, _, ⟨h1, _⟩, h => if_neg (by omega)
theorem led_is : ∀ {l : List StepD} {lo t : Int} {k : Nat}, Rise lo l → k ≤ l.length → (∀ q s, k = q + 1 → l[q]? = some s → s.at_ ≤ t) → (∀ s, l[k]? = some s → t < s.at_) → ledF l t = k
  | [], _, _, k, _, h, _, _ => by simp at h; subst h; rfl
  | a :: l, lo, t, 0, ⟨h1, h2⟩, _, _, hn => by
    have := hn a rfl
    exact if_neg (by omega)
  | a :: l, lo, t, k + 1, ⟨h1, h2⟩, hk, hp, hn => by
    have ha : a.at_ ≤ t := by
      cases k with
      | zero => exact hp 0 a rfl rfl
      | succ k =>
        rcases Int.lt_or_le t a.at_ with q | q
        · exfalso
          simp at hk
          obtain ⟨s, hs⟩ : ∃ s, l[k]? = some s := ⟨_, List.getElem?_eq_getElem (by omega)⟩
          have h3 := hp (k + 1) s rfl (by simpa using hs)
          have h4 : ∀ {l : List StepD} {lo : Int} {k : Nat} {s : StepD}, Rise lo l → l[k]? = some s → lo < s.at_ := by
            intro l
            induction l with
            | nil => intro lo k s _ h; simp at h
            | cons b l ih =>
              intro lo k s ⟨q1, q2⟩ h
              cases k with
              | zero => simp at h; subst h; exact q1
              | succ k => have := ih q2 (by simpa using h); omega
          have := h4 h2 hs
          omega
        · exact q
    have e : ledF l t = k := led_is h2 (by simp at hk; exact hk) (fun q s hq hs => hp (q + 1) s (by omega) (by simpa using hs)) (fun s hs => hn s (by simpa using hs))
    show (if a.at_ ≤ t then ledF l t + 1 else 0) = k + 1
    rw [if_pos ha, e]
theorem rise_at : ∀ {l : List StepD} {lo : Int} {k : Nat} {s : StepD}, Rise lo l → l[k]? = some s → lo < s.at_
  | [], _, _, _, _, h => by simp at h
  | b :: l, lo, 0, s, ⟨q1, q2⟩, h => by simp at h; subst h; exact q1
  | b :: l, lo, k + 1, s, ⟨q1, q2⟩, h => by have := rise_at q2 (by simpa using h : l[k]? = some s); omega
theorem rise_mono : ∀ {l : List StepD} {lo : Int} {i j : Nat} {s u : StepD}, Rise lo l → i < j → l[i]? = some s → l[j]? = some u → s.at_ < u.at_
  | [], _, _, _, _, _, _, _, h, _ => by simp at h
  | b :: l, lo, 0, j + 1, s, u, ⟨q1, q2⟩, hij, hs, hu => by simp at hs; subst hs; exact rise_at q2 (by simpa using hu)
  | b :: l, lo, i + 1, j + 1, s, u, ⟨q1, q2⟩, hij, hs, hu => rise_mono (i := i) (j := j) q2 (by omega) (by simpa using hs) (by simpa using hu)
  | b :: l, lo, i, 0, s, u, _, hij, hs, hu => by omega
theorem led_val : ∀ {l : List StepD} {lo d t : Int} {k : Nat} {s : StepD}, Rise lo l → ledF l t = k + 1 → l[k]? = some s → valF d l t = s.fr
  | [], _, _, _, k, s, _, h, _ => by cases h
  | a :: l, lo, d, t, k, s, ⟨h1, h2⟩, hk, hs => by
    unfold ledF at hk
    by_cases ha : a.at_ ≤ t
    · rw [if_pos ha] at hk
      rw [val_cons ha]
      cases k with
      | zero =>
        simp at hs; subst hs
        cases l with
        | nil => rfl
        | cons b l =>
          have e : ledF (b :: l) t = 0 := by omega
          unfold ledF at e
          by_cases hb : b.at_ ≤ t
          · rw [if_pos hb] at e; cases e
          · show (if b.at_ ≤ t then valF b.fr l t else _) = _
            rw [if_neg hb]
      | succ k => exact led_val (k := k) h2 (by omega) (by simpa using hs)
    · rw [if_neg ha] at hk; cases hk
end Go.Proofs.Ytapojmniokdjfaa

