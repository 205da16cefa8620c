/- Plain numbers of layer 1 (clock): what a sum, a difference, a product and a clipped sum of times come to. No Go text here. -/
namespace Go.Proofs.Ytaabalffcpaojaa

def isT (t : Int) : Bool := decide (0 ≤ t) && decide (t ≤ 1099511627775)

theorem isT_yes {t : Int} (h0 : 0 ≤ t) (h1 : t ≤ 1099511627775) : isT t = true := by simp [isT, h0, h1]
theorem isT_bd {t : Int} (h : isT t = true) : 0 ≤ t ∧ t ≤ 1099511627775 := by simpa [isT] using h
theorem isT_low {t : Int} (h : t < 0) : isT t = false := by simp [isT]; omega
theorem isT_high {t : Int} (h : 1099511627775 < t) : isT t = false := by simp [isT]; omega
theorem isT_no {t : Int} (h : isT t = false) : t < 0 ∨ 1099511627775 < t := by
  simp [isT] at h
  rcases Int.lt_or_le t 0 with a | a
  · exact Or.inl a
  · exact Or.inr (h a)

def subV (t u : Int) : Int := if isT t = true ∧ isT u = true ∧ u ≤ t then t - u else 0
def subE (t u : Int) : Int := if isT t = true ∧ isT u = true then (if u ≤ t then 0 else 6) else 2
def mulV (t n : Int) : Int := if isT t = true ∧ 0 ≤ n ∧ t * n ≤ 1099511627775 then t * n else 0
def mulE (t n : Int) : Int := if isT t = true ∧ 0 ≤ n then (if t * n ≤ 1099511627775 then 0 else 6) else 2

theorem sub_arg1 {t u : Int} (h : isT t = false) : subV t u = 0 ∧ subE t u = 2 := by simp [subV, subE, h]
theorem sub_arg2 {t u : Int} (h : isT u = false) : subV t u = 0 ∧ subE t u = 2 := by simp [subV, subE, h]
theorem sub_over {t u : Int} (h1 : isT t = true) (h2 : isT u = true) (h : t < u) : subV t u = 0 ∧ subE t u = 6 := by
  have : ¬ u ≤ t := by omega
  simp [subV, subE, h1, h2, this]
theorem sub_yes {t u : Int} (h1 : isT t = true) (h2 : isT u = true) (h : u ≤ t) : subV t u = t - u ∧ subE t u = 0 := by simp [subV, subE, h1, h2, h]
theorem mul_arg1 {t n : Int} (h : isT t = false) : mulV t n = 0 ∧ mulE t n = 2 := by simp [mulV, mulE, h]
theorem mul_arg2 {t n : Int} (h : n < 0) : mulV t n = 0 ∧ mulE t n = 2 := by
  have : ¬ 0 ≤ n := by omega
  simp [mulV, mulE, this]
theorem mul_over {t n : Int} (h1 : isT t = true) (h2 : 0 ≤ n) (h : 1099511627775 < t * n) : mulV t n = 0 ∧ mulE t n = 6 := by
  have : ¬ t * n ≤ 1099511627775 := by omega
  simp [mulV, mulE, h1, h2, this]
theorem mul_yes {t n : Int} (h1 : isT t = true) (h2 : 0 ≤ n) (h : t * n ≤ 1099511627775) : mulV t n = t * n ∧ mulE t n = 0 := by simp [mulV, mulE, h1, h2, h]
/-- n is more than so often into the greatest time: just if the product is too great -/
theorem quo_over {t n : Int} (h : 0 < t) : 1099511627775 / t < n ↔ 1099511627775 < t * n := by
  rw [Int.ediv_lt_iff_lt_mul h, Int.mul_comm n t]

theorem prod_over1 {t n : Int} (h : 1 ≤ t) (hn : 1099511627775 < n) : 1099511627775 < t * n := by
  have : 1 * n ≤ t * n := Int.mul_le_mul_of_nonneg_right h (by omega)
  omega
theorem part_bd (t n : Int) (h0 : 0 ≤ t) (h1 : t ≤ 1099511627775) : 0 ≤ t * (n % 1048576) ∧ t * (n % 1048576) ≤ 1152921504606846976 := by
  have a : 0 ≤ n % 1048576 := Int.emod_nonneg _ (by omega)
  have b : n % 1048576 ≤ 1048576 := by omega
  refine ⟨Int.mul_nonneg h0 a, ?_⟩
  have : t * (n % 1048576) ≤ 1099511627775 * 1048576 := Int.mul_le_mul h1 b a (by omega)
  omega
theorem prod_over2 {t n : Int} (h : 0 ≤ t) (hn : 0 ≤ n) (ho : 1099511627775 < t * (n % 1048576)) : 1099511627775 < t * n := by
  have : t * (n % 1048576) ≤ t * n := Int.mul_le_mul_of_nonneg_left (by omega) h
  omega
theorem prod_small {t n : Int} (h0 : 0 ≤ n) (h1 : n < 1048576) (ho : ¬ 1099511627775 < t * (n % 1048576)) : t * n ≤ 1099511627775 := by
  rw [Int.emod_eq_of_lt h0 h1] at ho
  omega

def one (t : Int) : Int := if t < 0 then 0 else if 1099511627775 < t then 1099511627775 else t
theorem one_bd (t : Int) : 0 ≤ one t ∧ one t ≤ 1099511627775 := by unfold one; split <;> (try split) <;> omega

/-- the sum so far and what is left: the clipped sum, term by term -/
def clipL (s : Int) : List Int → Int
  | [] => s
  | x :: r => clipL (one (s + one x)) r
def clipA (l : List Int) : Int := clipL 0 l

theorem clipL_snoc (l : List Int) : ∀ (s x : Int), clipL s (l ++ [x]) = one (clipL s l + one x) := by
  induction l with
  | nil => intro s x; rfl
  | cons y r ih => intro s x; exact ih _ x
theorem clipL_bd (l : List Int) : ∀ s : Int, 0 ≤ s → s ≤ 1099511627775 → 0 ≤ clipL s l ∧ clipL s l ≤ 1099511627775 := by
  induction l with
  | nil => intro s h0 h1; exact ⟨h0, h1⟩
  | cons y r ih => intro s _ _; exact ih _ (one_bd _).1 (one_bd _).2
theorem clipL_full (l : List Int) : clipL 1099511627775 l = 1099511627775 := by
  induction l with
  | nil => rfl
  | cons y r ih =>
    have : one (1099511627775 + one y) = 1099511627775 := by unfold one; split <;> (try split) <;> (try split) <;> (try split) <;> omega
    show clipL (one (1099511627775 + one y)) r = _
    rw [this]; exact ih
theorem clipA_cons (t : Int) (l : List Int) : clipA (t :: l) = clipL (one t) l := by
  show clipL (one (0 + one t)) l = _
  have : one (0 + one t) = one t := by unfold one; split <;> (try split) <;> (try split) <;> omega
  rw [this]

theorem clipL_append (l : List Int) : ∀ (s : Int) (r : List Int), clipL s (l ++ r) = clipL (clipL s l) r := by
  induction l with
  | nil => intro s r; rfl
  | cons y t ih => intro s r; exact ih _ r
theorem one_low {s x : Int} (h0 : 0 ≤ s) (h1 : s ≤ 1099511627775) (hx : x ≤ 0) : one (s + one x) = s := by
  unfold one; split <;> (try split) <;> (try split) <;> (try split) <;> omega
theorem one_full {s x : Int} (h0 : 0 ≤ s) (hx : 1099511627775 - s ≤ x) (h1 : s ≤ 1099511627775) : one (s + one x) = 1099511627775 := by
  unfold one; split <;> (try split) <;> (try split) <;> (try split) <;> omega
theorem one_mid {s x : Int} (h0 : 0 ≤ s) (h1 : 0 < x) (hx : x < 1099511627775 - s) : one (s + one x) = s + x := by
  unfold one; split <;> (try split) <;> (try split) <;> (try split) <;> omega
theorem clipL_break {l : List Int} {k : Nat} {s : Int} (h : clipL s (l.take k) = 1099511627775) : clipL s l = 1099511627775 := by
  rw [← List.take_append_drop k l, clipL_append, h, clipL_full]

def allT (l : List Int) : Bool := l.all isT
def sumL : List Int → Int
  | [] => 0
  | x :: r => x + sumL r
theorem sumL_snoc (l : List Int) (x : Int) : sumL (l ++ [x]) = sumL l + x := by
  induction l with
  | nil => simp [sumL]
  | cons y r ih => simp only [List.cons_append, sumL, ih]; omega
theorem sumL_append (l r : List Int) : sumL (l ++ r) = sumL l + sumL r := by
  induction l with
  | nil => simp [sumL]
  | cons y t ih => simp only [List.cons_append, sumL, ih]; omega
theorem sumL_nonneg (l : List Int) (h : allT l = true) : 0 ≤ sumL l := by
  induction l with
  | nil => exact Int.le_refl _
  | cons y r ih =>
    simp only [allT, List.all_cons, Bool.and_eq_true] at h
    have := ih h.2
    have := isT_bd h.1
    simp only [sumL]; omega
theorem allT_take (l : List Int) (k : Nat) (h : allT l = true) : allT (l.take k) = true := by
  simp only [allT, List.all_eq_true] at h ⊢
  exact fun x hx => h x (List.mem_of_mem_take hx)
theorem allT_drop (l : List Int) (k : Nat) (h : allT l = true) : allT (l.drop k) = true := by
  simp only [allT, List.all_eq_true] at h ⊢
  exact fun x hx => h x (List.mem_of_mem_drop hx)
theorem sumL_take_le (l : List Int) (k : Nat) (h : allT l = true) : sumL (l.take k) ≤ sumL l := by
  have e : sumL l = sumL (l.take k) + sumL (l.drop k) := by rw [← sumL_append, List.take_append_drop]
  have := sumL_nonneg _ (allT_drop l k h)
  omega

def addE (l : List Int) : Int := if allT l = true then (if sumL l ≤ 1099511627775 then 0 else 6) else 2
def addV (l : List Int) : Int := if allT l = true ∧ sumL l ≤ 1099511627775 then sumL l else 0

end Go.Proofs.Ytaabalffcpaojaa
