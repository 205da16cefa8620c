/- The numbers that a word holds, in order; the lowest of them. -/
import Derived.Test.YtaokbjacfdipmaaDoorDagPure
import Derived.Lib.TrailingZeros
namespace Go.Proofs.YtaokbjacfdipmaaDoor
set_option linter.unusedVariables false

def bitsL (n wd : Nat) : List Nat := (List.range n).filter fun i => wd.testBit i
theorem bitsL_mem {n wd i : Nat} : i ∈ bitsL n wd ↔ i < n ∧ wd.testBit i = true := by simp [bitsL]
theorem bitsL_zero (n : Nat) : bitsL n 0 = [] := by simp [bitsL]
theorem bitsL_lt {n wd i : Nat} (h : i ∈ bitsL n wd) : i < n := (bitsL_mem.1 h).1
theorem bitsL_len (n wd : Nat) : (bitsL n wd).length ≤ n := by
  have := List.length_filter_le (fun i => wd.testBit i) (List.range n)
  simpa [bitsL] using this

theorem filter_least {n c : Nat} {p q : Nat → Bool} (hc : c < n) (hp : p c = true) (hl : ∀ i, i < c → p i = false) (hq : ∀ i, i < n → q i = (p i && decide (i ≠ c))) :
    (List.range n).filter p = c :: (List.range n).filter q := by
  obtain ⟨k, rfl⟩ : ∃ k, n = c + (k + 1) := ⟨n - c - 1, by omega⟩
  have e : List.range (c + (k + 1)) = List.range c ++ (c :: (List.range k).map fun x => c + (x + 1)) := by
    rw [List.range_add, List.range_succ_eq_map, List.map_cons, List.map_map]
    rfl
  rw [e, List.filter_append, List.filter_append]
  have e1 : (List.range c).filter p = [] := by
    rw [List.filter_eq_nil_iff]; intro i hi; rw [hl i (by simpa using hi)]; simp
  have e2 : (List.range c).filter q = [] := by
    rw [List.filter_eq_nil_iff]; intro i hi
    have hi' : i < c := by simpa using hi
    rw [hq i (by omega), hl i hi']; simp
  have e3 : q c = false := by rw [hq c hc]; simp
  rw [e1, e2, List.nil_append, List.nil_append, List.filter_cons_of_pos hp, List.filter_cons_of_neg (by simp [e3])]
  congr 1
  apply List.filter_congr
  intro i hi
  obtain ⟨x, hx, rfl⟩ := List.mem_map.1 hi
  have hx' : x < k := by simpa using hx
  rw [hq _ (by omega)]
  have : decide (c + (x + 1) ≠ c) = true := by simp
  rw [this, Bool.and_true]

theorem lowbit {wd : Nat} (h0 : wd ≠ 0) (h : wd < 2 ^ 64) :
    wd.testBit (Lib.ctz 64 wd) = true ∧ (∀ i, i < Lib.ctz 64 wd → wd.testBit i = false) ∧ (∀ i, (wd &&& (wd - 1)).testBit i = (wd.testBit i && decide (i ≠ Lib.ctz 64 wd))) := by
  obtain ⟨m, hm, hk⟩ := Lib.ctzFrom_spec 64 wd (by omega) h
  have e : Lib.ctz 64 wd = Lib.ctzFrom 64 wd := by simp [Lib.ctz, h0]
  rw [e]
  generalize Lib.ctzFrom 64 wd = c at hm hk
  have hb : ∀ i, wd.testBit i = (decide (c ≤ i) && (2 * m + 1).testBit (i - c)) := by
    intro i; rw [hm, Nat.mul_comm, Nat.testBit_mul_two_pow]
  have hpos : 0 < 2 ^ c := Nat.pow_pos (by decide)
  have e1 : wd - 1 = 2 ^ c * (2 * m) + (2 ^ c - 1) := by
    rw [hm, Nat.mul_add, Nat.mul_one]; omega
  have hb' : ∀ i, (wd - 1).testBit i = if i < c then (2 ^ c - 1).testBit i else (2 * m).testBit (i - c) := by
    intro i; rw [e1, Nat.testBit_two_pow_mul_add _ (by omega)]
  refine ⟨?_, ?_, ?_⟩
  · rw [hb]; simp [Nat.testBit_zero]
  · intro i hi; rw [hb]; simp; omega
  · intro i
    rw [Nat.testBit_and, hb']
    by_cases hic : i < c
    · rw [hb i]
      have : decide (c ≤ i) = false := by simp; omega
      rw [this]; simp
    · rw [if_neg hic]
      by_cases he : i = c
      · subst he
        simp [Nat.testBit_zero]
      · rw [hb i]
        obtain ⟨j, rfl⟩ : ∃ j, i = c + (j + 1) := ⟨i - c - 1, by omega⟩
        have e3 : c + (j + 1) - c = j + 1 := by omega
        rw [e3, Nat.testBit_succ, Nat.testBit_succ]
        have d1 : (2 * m + 1) / 2 = m := by omega
        have d2 : (2 * m) / 2 = m := by omega
        rw [d1, d2]
        have : decide (c ≤ c + (j + 1)) = true := by simp
        rw [this]
        simp

theorem bitsL_step {n wd : Nat} (h0 : wd ≠ 0) (h : wd < 2 ^ n) (hn : n ≤ 64) :
    bitsL n wd = Lib.ctz 64 wd :: bitsL n (wd &&& (wd - 1)) ∧ Lib.ctz 64 wd < n ∧ wd &&& (wd - 1) < wd := by
  have h64 : wd < 2 ^ 64 := Nat.lt_of_lt_of_le h (Nat.pow_le_pow_right (by decide) hn)
  obtain ⟨h1, h2, h3⟩ := lowbit h0 h64
  have hc : Lib.ctz 64 wd < n := by
    rcases Nat.lt_or_ge (Lib.ctz 64 wd) n with a | a
    · exact a
    · rw [Nat.testBit_lt_two_pow (Nat.lt_of_lt_of_le h (Nat.pow_le_pow_right (by decide) a))] at h1; cases h1
  refine ⟨?_, hc, ?_⟩
  · exact filter_least hc h1 h2 fun i _ => h3 i
  · have h4 := Nat.and_le_right (n := wd) (m := wd - 1)
    omega

/-- a word that holds just what p says -/
theorem bitsL_of {n wd : Nat} {p : Nat → Bool} (h : ∀ i, i < n → wd.testBit i = p i) : bitsL n wd = (List.range n).filter p := by
  apply List.filter_congr
  intro i hi
  exact h i (by simpa using hi)
theorem or_bit (wd u i : Nat) : (wd ||| 2 ^ u).testBit i = (wd.testBit i || decide (i = u)) := by
  rw [Nat.testBit_or, Nat.testBit_two_pow]
  congr 1
  rw [decide_eq_decide]; exact eq_comm
theorem or_lt {n wd u : Nat} (h : wd < 2 ^ n) (hu : u < n) : wd ||| 2 ^ u < 2 ^ n := Nat.or_lt_two_pow h (Nat.pow_lt_pow_right (by decide) hu)
theorem clear_bit (wd u i : Nat) (hwd : wd < 2 ^ 64) (hu : u < 64) : (wd &&& (18446744073709551615 - 2 ^ u)).testBit i = (wd.testBit i && decide (i ≠ u)) := by
  rw [Nat.testBit_and]
  have hp : 2 ^ u < 2 ^ 64 := Nat.pow_lt_pow_right (by decide) hu
  have e : 18446744073709551615 - 2 ^ u = 2 ^ 64 - (2 ^ u + 1) := by
    have : (2 : Nat) ^ 64 = 18446744073709551616 := by decide
    omega
  rw [e, Nat.testBit_two_pow_sub_succ hp, Nat.testBit_two_pow]
  by_cases hi : i < 64
  · by_cases he : u = i
    · subst he; simp
    · have : i ≠ u := fun e => he e.symm
      simp [hi, he, this]
  · rw [Nat.testBit_lt_two_pow (Nat.lt_of_lt_of_le hwd (Nat.pow_le_pow_right (by decide) (by omega)))]
    simp
theorem clear_lt {n wd u : Nat} (h : wd < 2 ^ n) : wd &&& (18446744073709551615 - 2 ^ u) < 2 ^ n := Nat.lt_of_le_of_lt Nat.and_le_left h
theorem word_zero {n wd : Nat} (h : wd < 2 ^ n) : wd = 0 ↔ bitsL n wd = [] := by
  constructor
  · rintro rfl; exact bitsL_zero n
  · intro hb
    apply Nat.eq_of_testBit_eq
    intro i
    rw [Nat.zero_testBit]
    rcases Nat.lt_or_ge i n with a | a
    · cases ht : wd.testBit i with
      | false => rfl
      | true =>
        have : i ∈ bitsL n wd := bitsL_mem.2 ⟨a, ht⟩
        rw [hb] at this; cases this
    · exact Nat.testBit_lt_two_pow (Nat.lt_of_lt_of_le h (Nat.pow_le_pow_right (by decide) a))

end Go.Proofs.YtaokbjacfdipmaaDoor
