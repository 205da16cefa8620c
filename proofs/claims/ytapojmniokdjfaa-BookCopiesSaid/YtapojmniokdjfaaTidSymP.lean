/- The merge in place, in plain words. No program. -/
import Derived.Test.YtapojmniokdjfaaTidIns
namespace Go.Proofs.Ytapojmniokdjfaa.Srt
set_option linter.unusedVariables false
theorem SrtOn.le {X : List StepD} {a b i j : Nat} (h : SrtOn X a b) (h1 : a ≤ i) (h2 : i ≤ j) (h3 : j < b) : atK X i ≤ atK X j := by
  by_cases e : i = j
  · rw [e]; exact Int.le_refl _
  · exact h i j h1 (by omega) h3
theorem rot_id {X : List StepD} {a m b : Nat} (h : a = m ∨ m = b) (h1 : a ≤ m) (h2 : m ≤ b) : Via (rotI a m b) X X := (Via.refl X).congr fun k _ => by
  unfold rotI
  repeat' split
  all_goals omega
/-- where the runs [a,m) and [m,b) are cut: st and en -/
structure Cut (X : List StepD) (a m b st en mid : Nat) : Prop where
  le1 : a ≤ st
  le2 : st ≤ m
  le3 : m ≤ en
  le4 : en ≤ b
  le5 : st ≤ mid
  le6 : mid ≤ en
  sum : st + en = mid + m
  low : st = a ∨ en = b ∨ atK X (st - 1) ≤ atK X en
  high : st = m ∨ en = m ∨ atK X (en - 1) < atK X st
structure Cut2 (X : List StepD) (a m b st en mid : Nat) (Y : List StepD) : Prop where
  mix : Mix a b X Y
  s1 : SrtOn Y a st
  s2 : SrtOn Y st mid
  s3 : SrtOn Y mid en
  s4 : SrtOn Y en b
  low : ∀ i j, a ≤ i → i < mid → mid ≤ j → j < b → atK Y i ≤ atK Y j
theorem Cut.rot {X Y : List StepD} {a m b st en mid : Nat} (h : Cut X a m b st en mid) (hX : b ≤ X.length) (sa : SrtOn X a m) (sb : SrtOn X m b) (hY : Via (rotI st m en) X Y) : Cut2 X a m b st en mid Y := by
  obtain ⟨l1, l2, l3, l4, l5, l6, hs, hL, hR⟩ := h
  have strict : ∀ i j, st ≤ i → i < m → m ≤ j → j < en → atK X j < atK X i := fun i j h1 h2 h3 h4 => by
    rcases hR with e | e | e
    · omega
    · omega
    · have := sa.le (i := st) (j := i) l1 h1 h2
      have := sb.le (i := j) (j := en - 1) h3 (by omega) (by omega)
      omega
  have k1 : ∀ k, k < st → atK Y k = atK X k := fun k hk => by
    rw [hY.key (by omega)]; unfold rotI; rw [if_pos hk]
  have k2 : ∀ k, st ≤ k → k < mid → atK Y k = atK X (m + (k - st)) := fun k h1 h2 => by
    rw [hY.key (by omega)]; unfold rotI; rw [if_neg (by omega), if_pos (by omega)]
  have k3 : ∀ k, mid ≤ k → k < en → atK Y k = atK X (st + (k - mid)) := fun k h1 h2 => by
    rw [hY.key (by omega)]; unfold rotI; rw [if_neg (by omega), if_neg (by omega), if_pos h2]; congr 1; omega
  have k4 : ∀ k, en ≤ k → k < b → atK Y k = atK X k := fun k h1 h2 => by
    rw [hY.key (by omega)]; unfold rotI; rw [if_neg (by omega), if_neg (by omega), if_neg (by omega)]
  refine ⟨(rot_mix hY l2 l3 (by omega) strict).wide l1 l4, fun i j h1 h2 h3 => ?_, fun i j h1 h2 h3 => ?_, fun i j h1 h2 h3 => ?_, fun i j h1 h2 h3 => ?_, fun i j h1 h2 h3 h4 => ?_⟩
  · rw [k1 i (by omega), k1 j h3]; exact sa i j h1 h2 (by omega)
  · rw [k2 i h1 (by omega), k2 j (by omega) h3]; exact sb _ _ (by omega) (by omega) (by omega)
  · rw [k3 i h1 (by omega), k3 j (by omega) h3]; exact sa _ _ (by omega) (by omega) (by omega)
  · rw [k4 i h1 (by omega), k4 j (by omega) h3]; exact sb i j (by omega) h2 h3
  · by_cases p1 : i < st
    · rw [k1 i p1]
      by_cases p2 : j < en
      · rw [k3 j h3 p2]; exact sa _ _ h1 (by omega) (by omega)
      · rw [k4 j (by omega) h4]
        rcases hL with e | e | e
        · omega
        · omega
        · exact Int.le_trans (sa.le (i := i) (j := st - 1) h1 (by omega) (by omega)) (Int.le_trans e (sb.le (i := en) (j := j) l3 (by omega) h4))
    · rw [k2 i (by omega) h2]
      by_cases p2 : j < en
      · rw [k3 j h3 p2]
        have := strict (st + (j - mid)) (m + (i - st)) (by omega) (by omega) (by omega) (by omega)
        omega
      · rw [k4 j (by omega) h4]; exact sb _ _ (by omega) (by omega) h4
/-- both sides in order, the left below the right: all in order -/
theorem Cut2.done {X Y Z : List StepD} {a m b st en mid : Nat} (h : Cut2 X a m b st en mid Y) (h1 : a ≤ mid) (h2 : mid ≤ b) {U : List StepD} (m1 : Mix a mid Y U) (m2 : Mix mid b U Z) (s1 : SrtOn U a mid) (s2 : SrtOn Z mid b) : Mix a b X Z ∧ SrtOn Z a b := by
  refine ⟨h.mix.trans ((m1.wide (Nat.le_refl _) h2).trans (m2.wide h1 (Nat.le_refl _))), fun i j p1 p2 p3 => ?_⟩
  by_cases q1 : j < mid
  · rw [m2.keyO (by omega), m2.keyO (by omega)]; exact s1 i j p1 p2 q1
  · by_cases q2 : mid ≤ i
    · exact s2 i j q2 p2 p3
    · rw [m2.keyO (k := i) (by omega)]
      obtain ⟨i', r1, r2, e1⟩ := m1.keyI (k := i) p1 (by omega)
      obtain ⟨j', r3, r4, e2⟩ := m2.keyI (k := j) (by omega) p3
      rw [e1, e2, m1.keyO (k := j') (by omega)]
      exact h.low i' j' r1 r2 r3 r4
theorem Cut2.left {X Y : List StepD} {a m b st en mid : Nat} (h : Cut2 X a m b st en mid Y) (e : st = a ∨ st = mid) : SrtOn Y a mid := by
  rcases e with rfl | rfl
  · exact h.s2
  · exact h.s1
theorem Cut2.right {X Y U : List StepD} {a m b st en mid : Nat} (h : Cut2 X a m b st en mid Y) (k : Mix a mid Y U) (e : mid = en ∨ en = b) : SrtOn U mid b := by
  rcases e with e | e
  · exact k.srtOut (by rw [e]; exact h.s4) (Or.inr (Nat.le_refl _))
  · exact k.srtOut (by rw [← e]; exact h.s3) (Or.inr (Nat.le_refl _))
/-- one put into its place among [m,b) -/
theorem one_up {X Y : List StepD} {a i b : Nat} (h1 : a + 1 ≤ i) (h2 : i ≤ b) (hX : b ≤ X.length) (sb : SrtOn X (a + 1) b) (hl : i = a + 1 ∨ atK X (i - 1) < atK X a) (hr : i = b ∨ atK X a ≤ atK X i) (hY : Via (rotI a (a + 1) i) X Y) : Mix a b X Y ∧ SrtOn Y a b := by
  have strict : ∀ p q, a ≤ p → p < a + 1 → a + 1 ≤ q → q < i → atK X q < atK X p := fun p q p1 p2 p3 p4 => by
    obtain rfl : p = a := by omega
    rcases hl with e | e
    · omega
    · exact Int.lt_of_le_of_lt (sb.le p3 (by omega) (by omega)) e
  have k1 : ∀ k, a ≤ k → k + 1 < i → atK Y k = atK X (k + 1) := fun k p1 p2 => by
    rw [hY.key (by omega)]; unfold rotI; rw [if_neg (by omega), if_pos (by omega)]; congr 1; omega
  have k2 : ∀ k, k + 1 = i → atK Y k = atK X a := fun k p1 => by
    rw [hY.key (by omega)]; unfold rotI; rw [if_neg (by omega), if_neg (by omega), if_pos (by omega)]; congr 1; omega
  have k3 : ∀ k, i ≤ k → k < b → atK Y k = atK X k := fun k p1 p2 => by
    rw [hY.key (by omega)]; unfold rotI; rw [if_neg (by omega), if_neg (by omega), if_neg (by omega)]
  refine ⟨(rot_mix hY (by omega) h1 (by omega) strict).wide (Nat.le_refl _) h2, fun p q p1 p2 p3 => ?_⟩
  by_cases e1 : q + 1 < i
  · rw [k1 p p1 (by omega), k1 q (by omega) e1]; exact sb _ _ (by omega) (by omega) (by omega)
  · by_cases e2 : q + 1 = i
    · rw [k1 p p1 (by omega), k2 q e2]
      exact Int.le_of_lt (strict a (p + 1) (Nat.le_refl _) (by omega) (by omega) (by omega))
    · rw [k3 q (by omega) p3]
      by_cases e3 : p + 1 < i
      · rw [k1 p p1 e3]; exact sb _ _ (by omega) (by omega) p3
      · by_cases e4 : p + 1 = i
        · rw [k2 p e4]
          rcases hr with e | e
          · omega
          · exact Int.le_trans e (sb.le (by omega) (by omega) p3)
        · rw [k3 p (by omega) (by omega)]; exact sb _ _ (by omega) p2 p3
/-- one put into its place among [a,m) -/
theorem one_dn {X Y : List StepD} {a i m : Nat} (h1 : a ≤ i) (h2 : i ≤ m) (hX : m + 1 ≤ X.length) (sa : SrtOn X a m) (hl : i = a ∨ atK X (i - 1) ≤ atK X m) (hr : i = m ∨ atK X m < atK X i) (hY : Via (rotI i m (m + 1)) X Y) : Mix a (m + 1) X Y ∧ SrtOn Y a (m + 1) := by
  have strict : ∀ p q, i ≤ p → p < m → m ≤ q → q < m + 1 → atK X q < atK X p := fun p q p1 p2 p3 p4 => by
    obtain rfl : q = m := by omega
    rcases hr with e | e
    · omega
    · exact Int.lt_of_lt_of_le e (sa.le h1 p1 p2)
  have k1 : ∀ k, k < i → atK Y k = atK X k := fun k p1 => by
    rw [hY.key (by omega)]; unfold rotI; rw [if_pos p1]
  have k2 : atK Y i = atK X m := by
    rw [hY.key (by omega)]; unfold rotI; rw [if_neg (by omega), if_pos (by omega)]; congr 1; omega
  have k3 : ∀ k, i < k → k < m + 1 → atK Y k = atK X (k - 1) := fun k p1 p2 => by
    rw [hY.key (by omega)]; unfold rotI; rw [if_neg (by omega), if_neg (by omega), if_pos (by omega)]; congr 1; omega
  refine ⟨(rot_mix hY h2 (by omega) (by omega) strict).wide h1 (Nat.le_refl _), fun p q p1 p2 p3 => ?_⟩
  by_cases e1 : q < i
  · rw [k1 p (by omega), k1 q e1]; exact sa _ _ p1 p2 (by omega)
  · by_cases e2 : q = i
    · subst e2
      rw [k1 p p2, k2]
      rcases hl with e | e
      · omega
      · exact Int.le_trans (sa.le p1 (by omega) (by omega)) e
    · rw [k3 q (by omega) p3]
      by_cases e3 : p < i
      · rw [k1 p e3]; exact sa.le p1 (by omega) (by omega)
      · by_cases e4 : p = i
        · subst e4
          rw [k2]
          exact Int.le_of_lt (strict (q - 1) m (by omega) (by omega) (Nat.le_refl _) (by omega))
        · rw [k3 p (by omega) (by omega)]; exact sa _ _ (by omega) (by omega) (by omega)
end Go.Proofs.Ytapojmniokdjfaa.Srt

