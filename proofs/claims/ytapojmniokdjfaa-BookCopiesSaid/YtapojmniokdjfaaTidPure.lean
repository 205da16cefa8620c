/- A stable sort in plain words, by positions: moves, keys, what stays. No program. -/
import Derived.Test.YtapojmniokdjfaaStpPure
namespace Go.Proofs.Ytapojmniokdjfaa.Srt
set_option linter.unusedVariables false

/-- the key at a place -/
def atK (X : List StepD) (i : Nat) : Int := ((X[i]?).map (·.at_)).getD 0
theorem atK_of {X : List StepD} {i : Nat} {s : StepD} (h : X[i]? = some s) : atK X i = s.at_ := by simp [atK, h]
theorem atK_eq {X Y : List StepD} {i j : Nat} (h : Y[i]? = X[j]?) : atK Y i = atK X j := by simp [atK, h]
def SrtOn (X : List StepD) (a b : Nat) : Prop := ∀ i j, a ≤ i → i < j → j < b → atK X i ≤ atK X j
def Fq (X Y : List StepD) : Prop := ∀ t : Int, Y.filter (fun s => decide (s.at_ = t)) = X.filter (fun s => decide (s.at_ = t))
/-- Y is X, its places moved by f -/
def Via (f : Nat → Nat) (X Y : List StepD) : Prop := Y.length = X.length ∧ ∀ k, k < X.length → Y[k]? = X[f k]?
/-- [a,m) and [m,b) exchanged -/
def rotI (a m b k : Nat) : Nat := if k < a then k else if k < a + (b - m) then m + (k - a) else if k < b then a + (k - (a + (b - m))) else k
/-- n places at a exchanged with n at b -/
def swI (a b n k : Nat) : Nat := if a ≤ k ∧ k < a + n then b + (k - a) else if b ≤ k ∧ k < b + n then a + (k - b) else k
theorem Via.refl (X : List StepD) : Via (fun k => k) X X := ⟨rfl, fun _ _ => rfl⟩
theorem Via.congr {f g : Nat → Nat} {X Y : List StepD} (h : Via f X Y) (e : ∀ k, k < X.length → f k = g k) : Via g X Y := ⟨h.1, fun k hk => by rw [h.2 k hk, e k hk]⟩
theorem Via.trans {f g : Nat → Nat} {X Y Z : List StepD} (h : Via f X Y) (k : Via g Y Z) (hb : ∀ i, i < X.length → g i < X.length) : Via (fun i => f (g i)) X Z :=
  ⟨k.1.trans h.1, fun i hi => by rw [k.2 i (by rw [h.1]; exact hi), h.2 _ (hb i hi)]⟩
theorem Via.key {f : Nat → Nat} {X Y : List StepD} (h : Via f X Y) {k : Nat} (hk : k < X.length) : atK Y k = atK X (f k) := atK_eq (h.2 k hk)

structure Mix (a b : Nat) (X Y : List StepD) : Prop where
  len : Y.length = X.length
  out : ∀ k, k < a ∨ b ≤ k → Y[k]? = X[k]?
  inn : ∀ k, a ≤ k → k < b → ∃ k', a ≤ k' ∧ k' < b ∧ Y[k]? = X[k']?
  fq : Fq X Y
theorem Mix.refl (a b : Nat) (X : List StepD) : Mix a b X X := ⟨rfl, fun _ _ => rfl, fun k h1 h2 => ⟨k, h1, h2, rfl⟩, fun _ => rfl⟩
theorem Mix.trans {a b : Nat} {X Y Z : List StepD} (h : Mix a b X Y) (k : Mix a b Y Z) : Mix a b X Z := by
  refine ⟨k.len.trans h.len, fun i hi => (k.out i hi).trans (h.out i hi), fun i h1 h2 => ?_, fun t => (k.fq t).trans (h.fq t)⟩
  obtain ⟨i1, p1, p2, e1⟩ := k.inn i h1 h2
  obtain ⟨i2, q1, q2, e2⟩ := h.inn i1 p1 p2
  exact ⟨i2, q1, q2, e1.trans e2⟩
theorem Mix.wide {a b a' b' : Nat} {X Y : List StepD} (h : Mix a b X Y) (ha : a' ≤ a) (hb : b ≤ b') : Mix a' b' X Y := by
  refine ⟨h.len, fun i hi => h.out i (by omega), fun i h1 h2 => ?_, h.fq⟩
  by_cases q : a ≤ i ∧ i < b
  · obtain ⟨i1, p1, p2, e⟩ := h.inn i q.1 q.2
    exact ⟨i1, by omega, by omega, e⟩
  · exact ⟨i, h1, h2, h.out i (by omega)⟩
theorem Mix.keyO {a b : Nat} {X Y : List StepD} (h : Mix a b X Y) {k : Nat} (hk : k < a ∨ b ≤ k) : atK Y k = atK X k := atK_eq (h.out k hk)
theorem Mix.keyI {a b : Nat} {X Y : List StepD} (h : Mix a b X Y) {k : Nat} (h1 : a ≤ k) (h2 : k < b) : ∃ k', a ≤ k' ∧ k' < b ∧ atK Y k = atK X k' := by
  obtain ⟨k', p1, p2, e⟩ := h.inn k h1 h2
  exact ⟨k', p1, p2, atK_eq e⟩

theorem split4 {α : Type} (X : List α) (a m b : Nat) (h1 : a ≤ m) (h2 : m ≤ b) : X = X.take a ++ ((X.drop a).take (m - a) ++ ((X.drop m).take (b - m) ++ X.drop b)) := by
  have e1 : (X.drop m).take (b - m) ++ X.drop b = X.drop m := by
    have := List.take_append_drop (b - m) (X.drop m)
    rwa [List.drop_drop, show m + (b - m) = b from by omega] at this
  have e2 : (X.drop a).take (m - a) ++ X.drop m = X.drop a := by
    have := List.take_append_drop (m - a) (X.drop a)
    rwa [List.drop_drop, show a + (m - a) = m from by omega] at this
  rw [e1, e2, List.take_append_drop]
theorem key_part {X : List StepD} {a n : Nat} {s : StepD} (h : s ∈ (X.drop a).take n) : ∃ i, a ≤ i ∧ i < a + n ∧ X[i]? = some s := by
  obtain ⟨j, hj⟩ := List.mem_iff_getElem?.1 h
  rw [List.getElem?_take] at hj
  split at hj
  · rw [List.getElem?_drop] at hj
    exact ⟨a + j, by omega, by omega, hj⟩
  · cases hj
/-- the exchange keeps the order of those of one key, if no key is on both sides -/
theorem rot_mix {X Y : List StepD} {a m b : Nat} (h : Via (rotI a m b) X Y) (h1 : a ≤ m) (h2 : m ≤ b) (h3 : b ≤ X.length)
    (hs : ∀ i j, a ≤ i → i < m → m ≤ j → j < b → atK X j < atK X i) : Mix a b X Y := by
  have hY : Y = X.take a ++ ((X.drop m).take (b - m) ++ ((X.drop a).take (m - a) ++ X.drop b)) := by
    apply List.ext_getElem?
    intro k
    by_cases hk : k < X.length
    · rw [h.2 k hk]
      unfold rotI
      by_cases q1 : k < a
      · rw [if_pos q1, List.getElem?_append_left (by rw [List.length_take]; omega), List.getElem?_take, if_pos q1]
      · rw [if_neg q1, List.getElem?_append_right (by rw [List.length_take]; omega), List.length_take, Nat.min_eq_left (by omega)]
        by_cases q2 : k < a + (b - m)
        · rw [if_pos q2, List.getElem?_append_left (by rw [List.length_take, List.length_drop]; omega), List.getElem?_take, if_pos (by omega), List.getElem?_drop]
        · rw [if_neg q2, List.getElem?_append_right (by rw [List.length_take, List.length_drop]; omega), List.length_take, List.length_drop, Nat.min_eq_left (by omega)]
          by_cases q3 : k < b
          · rw [if_pos q3, List.getElem?_append_left (by rw [List.length_take, List.length_drop]; omega), List.getElem?_take, if_pos (by omega), List.getElem?_drop]
            congr 1; omega
          · rw [if_neg q3, List.getElem?_append_right (by rw [List.length_take, List.length_drop]; omega), List.length_take, List.length_drop, Nat.min_eq_left (by omega), List.getElem?_drop]
            congr 1; omega
    · rw [List.getElem?_eq_none (by rw [h.1]; omega), List.getElem?_eq_none]
      simp only [List.length_append, List.length_take, List.length_drop]
      omega
  refine ⟨h.1, fun k hk => ?_, fun k k1 k2 => ?_, fun t => ?_⟩
  · by_cases hl : k < X.length
    · rw [h.2 k hl]; unfold rotI
      rcases hk with q | q
      · rw [if_pos q]
      · rw [if_neg (by omega), if_neg (by omega), if_neg (by omega)]
    · rw [List.getElem?_eq_none (by rw [h.1]; omega), List.getElem?_eq_none (by omega)]
  · refine ⟨rotI a m b k, ?_, ?_, h.2 k (by omega)⟩ <;>
    · unfold rotI
      repeat' split
      all_goals omega
  · have e := split4 X a m b h1 h2
    generalize hU : (X.drop a).take (m - a) = U at e hY
    generalize hV : (X.drop m).take (b - m) = V at e hY
    have hc : U.filter (fun s => decide (s.at_ = t)) = [] ∨ V.filter (fun s => decide (s.at_ = t)) = [] := by
      by_cases q : U.filter (fun s => decide (s.at_ = t)) = []
      · exact Or.inl q
      · right
        obtain ⟨s, hs1⟩ := List.exists_mem_of_ne_nil _ q
        rw [List.mem_filter, decide_eq_true_eq] at hs1
        rw [← hU] at hs1
        obtain ⟨i, i1, i2, ei⟩ := key_part hs1.1
        rw [List.filter_eq_nil_iff]
        intro u hu
        rw [← hV] at hu
        obtain ⟨j, j1, j2, ej⟩ := key_part hu
        have := hs i j i1 (by omega) j1 (by omega)
        rw [atK_of ei, atK_of ej, hs1.2] at this
        rw [decide_eq_true_eq]; omega
    rw [hY]
    conv => rhs; rw [e]
    simp only [List.filter_append]
    rcases hc with q | q <;> rw [q] <;> simp
/-! the steps of a rotation -/
theorem rot_low {a m i j k : Nat} (h : j < i) (hi : i ≤ m) : swI (m - i) m j (rotI (m - (i - j)) m (m + j) k) = rotI (m - i) m (m + j) k := by
  unfold rotI swI
  repeat' split
  all_goals omega
theorem rot_high {m i j k : Nat} (h : i < j) (hi : i ≤ m) : swI (m - i) (m + j - i) i (rotI (m - i) m (m + (j - i)) k) = rotI (m - i) m (m + j) k := by
  unfold rotI swI
  repeat' split
  all_goals omega
theorem rot_last {m i k : Nat} (hi : i ≤ m) : swI (m - i) m i k = rotI (m - i) m (m + i) k := by
  unfold rotI swI
  repeat' split
  all_goals omega
theorem rot_lt {a m b k n : Nat} (h1 : a ≤ m) (h2 : m ≤ b) (hb : b ≤ n) (hk : k < n) : rotI a m b k < n := by
  unfold rotI
  repeat' split
  all_goals omega
theorem sw_lt {a b c k n : Nat} (ha : a + c ≤ n) (hb : b + c ≤ n) (hk : k < n) : swI a b c k < n := by
  unfold swI
  repeat' split
  all_goals omega
/-- one place more of an exchange of two ranges -/
theorem sw_next {a b i k : Nat} (h : a + i < b ∨ b + i < a) : swI a b i (swI (a + i) (b + i) 1 k) = swI a b (i + 1) k := by
  unfold swI
  repeat' split
  all_goals omega
/-- one carried a place up -/
theorem up_next {a q k : Nat} (h : a ≤ q) : rotI a (a + 1) (q + 1) (swI q (q + 1) 1 k) = rotI a (a + 1) (q + 1 + 1) k := by
  unfold rotI swI
  repeat' split
  all_goals omega
/-- one carried a place down -/
theorem dn_next {m q k : Nat} (h : q + 1 ≤ m) : rotI (q + 1) m (m + 1) (swI (q + 1) q 1 k) = rotI q m (m + 1) k := by
  unfold rotI swI
  repeat' split
  all_goals omega
theorem sw_rot {q k : Nat} : swI (q + 1) q 1 k = rotI q (q + 1) (q + 2) k := by
  unfold rotI swI
  repeat' split
  all_goals omega
end Go.Proofs.Ytapojmniokdjfaa.Srt

