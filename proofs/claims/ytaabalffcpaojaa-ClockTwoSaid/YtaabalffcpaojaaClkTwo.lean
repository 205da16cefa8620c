/- The calls of clock, and of the document's own answer, that take numbers alone: Is, Sub, Mul, one. -/
import Derived.Test.YtaabalffcpaojaaProg
import Derived.Test.YtaabalffcpaojaaClkNum
import Derived.WalkKit
import Derived.ProofKit
import Derived.Outline
namespace Go.Proofs.Ytaabalffcpaojaa
open Go.RowKit
set_option linter.unusedVariables false

theorem is_any (t : Int) (w : World) : Calls Try.prog 20 #[.int .i64 t] w fun e w' => e = .returned (.bool (isT t)) ∧ w = w' := by
  by_cases h0 : 0 ≤ t
  · by_cases h1 : t ≤ 1099511627775
    · rw [isT_yes h0 h1]
      go_enter Try.func20, Try.ntmps20
      go_wp2
      go_ret
      exact ⟨rfl, rfl⟩
    · rw [isT_high (t := t) (by omega)]
      go_enter Try.func20, Try.ntmps20
      go_wp2
      go_ret
      exact ⟨rfl, rfl⟩
  · rw [isT_low (t := t) (by omega)]
    go_enter Try.func20, Try.ntmps20
    go_wp2
    go_ret
    exact ⟨rfl, rfl⟩

theorem ris_any (t : Int) (w : World) : Calls Try.prog 21 #[.int .i64 t] w fun e w' => e = .returned (.bool (isT t)) ∧ w = w' := by
  by_cases h0 : 0 ≤ t
  · by_cases h1 : t ≤ 1099511627775
    · rw [isT_yes h0 h1]
      go_enter Try.func21, Try.ntmps21
      go_wp2
      go_ret
      exact ⟨rfl, rfl⟩
    · rw [isT_high (t := t) (by omega)]
      go_enter Try.func21, Try.ntmps21
      go_wp2
      go_ret
      exact ⟨rfl, rfl⟩
  · rw [isT_low (t := t) (by omega)]
    go_enter Try.func21, Try.ntmps21
    go_wp2
    go_ret
    exact ⟨rfl, rfl⟩

theorem sub_any (t u : Int) (w : World) : Calls Try.prog 16 #[.int .i64 t, .int .i64 u] w fun e w' => e = .returned (.tuple #[.int .i64 (subV t u), .int .i64 (subE t u)]) ∧ w = w' := by
  cases h1 : isT t
  · rw [(sub_arg1 (u := u) h1).1, (sub_arg1 (u := u) h1).2]
    go_enter Try.func16, Try.ntmps16
    go_wp2_with (go_at_call 20; refine (is_any _ _).mono ?_; rintro e w' ⟨rfl, rfl⟩)
    go_ret2
    exact ⟨rfl, rfl⟩
  · have b1 := isT_bd h1
    cases h2 : isT u
    · rw [(sub_arg2 (t := t) h2).1, (sub_arg2 (t := t) h2).2]
      go_enter Try.func16, Try.ntmps16
      go_wp2_with (go_at_call 20; refine (is_any _ _).mono ?_; rintro e w' ⟨rfl, rfl⟩)
      go_ret2
      exact ⟨rfl, rfl⟩
    · have b2 := isT_bd h2
      by_cases h : u ≤ t
      · rw [(sub_yes h1 h2 h).1, (sub_yes h1 h2 h).2]
        go_enter Try.func16, Try.ntmps16
        go_wp2_with (go_at_call 20; refine (is_any _ _).mono ?_; rintro e w' ⟨rfl, rfl⟩)
        go_ret2
        exact ⟨rfl, rfl⟩
      · rw [(sub_over h1 h2 (by omega)).1, (sub_over h1 h2 (by omega)).2]
        go_enter Try.func16, Try.ntmps16
        go_wp2_with (go_at_call 20; refine (is_any _ _).mono ?_; rintro e w' ⟨rfl, rfl⟩)
        go_ret2
        exact ⟨rfl, rfl⟩

theorem rsub_any (t u : Int) (w : World) : Calls Try.prog 17 #[.int .i64 t, .int .i64 u] w fun e w' => e = .returned (.tuple #[.int .i64 (subV t u), .int .i64 (subE t u)]) ∧ w = w' := by
  cases h1 : isT t
  · rw [(sub_arg1 (u := u) h1).1, (sub_arg1 (u := u) h1).2]
    go_enter Try.func17, Try.ntmps17
    go_wp2_with (go_at_call 21; refine (ris_any _ _).mono ?_; rintro e w' ⟨rfl, rfl⟩)
    go_ret2
    exact ⟨rfl, rfl⟩
  · have b1 := isT_bd h1
    cases h2 : isT u
    · rw [(sub_arg2 (t := t) h2).1, (sub_arg2 (t := t) h2).2]
      go_enter Try.func17, Try.ntmps17
      go_wp2_with (go_at_call 21; refine (ris_any _ _).mono ?_; rintro e w' ⟨rfl, rfl⟩)
      go_ret2
      exact ⟨rfl, rfl⟩
    · have b2 := isT_bd h2
      by_cases h : u ≤ t
      · rw [(sub_yes h1 h2 h).1, (sub_yes h1 h2 h).2]
        go_enter Try.func17, Try.ntmps17
        go_wp2_with (go_at_call 21; refine (ris_any _ _).mono ?_; rintro e w' ⟨rfl, rfl⟩)
        go_ret2
        exact ⟨rfl, rfl⟩
      · rw [(sub_over h1 h2 (by omega)).1, (sub_over h1 h2 (by omega)).2]
        go_enter Try.func17, Try.ntmps17
        go_wp2_with (go_at_call 21; refine (ris_any _ _).mono ?_; rintro e w' ⟨rfl, rfl⟩)
        go_ret2
        exact ⟨rfl, rfl⟩

theorem one_any (t : Int) (w : World) : Calls Try.prog 27 #[.int .i64 t] w fun e w' => e = .returned (.int .i64 (one t)) ∧ w = w' := by
  by_cases h0 : t < 0
  · rw [show one t = 0 from by simp [one, h0]]
    go_enter Try.func27, Try.ntmps27
    go_wp2
    go_ret
    exact ⟨rfl, rfl⟩
  · by_cases h1 : 1099511627775 < t
    · rw [show one t = 1099511627775 from by simp [one, h0, h1]]
      go_enter Try.func27, Try.ntmps27
      go_wp2
      go_ret
      exact ⟨rfl, rfl⟩
    · rw [show one t = t from by simp [one, h0, h1]]
      go_enter Try.func27, Try.ntmps27
      go_wp2
      go_ret
      exact ⟨rfl, rfl⟩

theorem mul_any (t n : Int) (w : World) (hn : n ≤ 9223372036854775807) : Calls Try.prog 18 #[.int .i64 t, .int .i64 n] w fun e w' => e = .returned (.tuple #[.int .i64 (mulV t n), .int .i64 (mulE t n)]) ∧ w = w' := by
  cases h1 : isT t
  · rw [(mul_arg1 (n := n) h1).1, (mul_arg1 (n := n) h1).2]
    go_enter Try.func18, Try.ntmps18
    go_wp2_with (go_at_call 20; refine (is_any _ _).mono ?_; rintro e w' ⟨rfl, rfl⟩)
    go_ret2
    exact ⟨rfl, rfl⟩
  · have b1 := isT_bd h1
    by_cases h2 : n < 0
    · rw [(mul_arg2 (t := t) h2).1, (mul_arg2 (t := t) h2).2]
      go_enter Try.func18, Try.ntmps18
      go_wp2_with (go_at_call 20; refine (is_any _ _).mono ?_; rintro e w' ⟨rfl, rfl⟩)
      go_ret2
      exact ⟨rfl, rfl⟩
    · by_cases h3 : t = 0
      · subst h3
        rw [(mul_yes (n := n) h1 (by omega) (by simp)).1, (mul_yes (n := n) h1 (by omega) (by simp)).2, Int.zero_mul]
        go_enter Try.func18, Try.ntmps18
        go_wp2_with (go_at_call 20; refine (is_any _ _).mono ?_; rintro e w' ⟨rfl, rfl⟩)
        go_ret2
        exact ⟨rfl, rfl⟩
      · by_cases h4 : 1099511627775 / t < n
        · have h5 := (quo_over (t := t) (n := n) (by omega)).1 h4
          rw [(mul_over h1 (by omega) h5).1, (mul_over h1 (by omega) h5).2]
          clear h5
          go_enter Try.func18, Try.ntmps18
          go_wp2_with (go_at_call 20; refine (is_any _ _).mono ?_; rintro e w' ⟨rfl, rfl⟩)
          go_ret2
          exact ⟨rfl, rfl⟩
        · have h5 : t * n ≤ 1099511627775 := Int.not_lt.1 fun h => h4 ((quo_over (t := t) (n := n) (by omega)).2 h)
          rw [(mul_yes h1 (by omega) h5).1, (mul_yes h1 (by omega) h5).2]
          have h6 : 0 ≤ n * t := Int.mul_nonneg (by omega) (by omega)
          rw [Int.mul_comm t n] at h5 ⊢
          go_enter Try.func18, Try.ntmps18
          go_wp2_with (go_at_call 20; refine (is_any _ _).mono ?_; rintro e w' ⟨rfl, rfl⟩)
          go_ret2
          exact ⟨rfl, rfl⟩

theorem rmul_any (t n : Int) (w : World) (hn : n ≤ 9223372036854775807) : Calls Try.prog 19 #[.int .i64 t, .int .i64 n] w fun e w' => e = .returned (.tuple #[.int .i64 (mulV t n), .int .i64 (mulE t n)]) ∧ w = w' := by
  cases h1 : isT t
  · rw [(mul_arg1 (n := n) h1).1, (mul_arg1 (n := n) h1).2]
    go_enter Try.func19, Try.ntmps19
    go_wp2_with (go_at_call 21; refine (ris_any _ _).mono ?_; rintro e w' ⟨rfl, rfl⟩)
    go_ret2
    exact ⟨rfl, rfl⟩
  · have b1 := isT_bd h1
    by_cases h2 : n < 0
    · rw [(mul_arg2 (t := t) h2).1, (mul_arg2 (t := t) h2).2]
      go_enter Try.func19, Try.ntmps19
      go_wp2_with (go_at_call 21; refine (ris_any _ _).mono ?_; rintro e w' ⟨rfl, rfl⟩)
      go_ret2
      exact ⟨rfl, rfl⟩
    · by_cases h3 : t = 0
      · subst h3
        rw [(mul_yes (n := n) h1 (by omega) (by simp)).1, (mul_yes (n := n) h1 (by omega) (by simp)).2, Int.zero_mul]
        go_enter Try.func19, Try.ntmps19
        go_wp2_with (go_at_call 21; refine (ris_any _ _).mono ?_; rintro e w' ⟨rfl, rfl⟩)
        go_ret2
        exact ⟨rfl, rfl⟩
      · by_cases h4 : n = 0
        · subst h4
          rw [(mul_yes (n := 0) h1 (by omega) (by simp)).1, (mul_yes (n := 0) h1 (by omega) (by simp)).2, Int.mul_zero]
          go_enter Try.func19, Try.ntmps19
          go_wp2_with (go_at_call 21; refine (ris_any _ _).mono ?_; rintro e w' ⟨rfl, rfl⟩)
          go_ret2
          exact ⟨rfl, rfl⟩
        · have h3b : (t == 0) = false := beq_eq_false_iff_ne.2 h3
          have h4b : (n == 0) = false := beq_eq_false_iff_ne.2 h4
          by_cases h5 : 1099511627775 < n
          · have ho : 1099511627775 < t * n := prod_over1 (by omega) h5
            rw [(mul_over h1 (by omega) ho).1, (mul_over h1 (by omega) ho).2]
            clear ho
            go_enter Try.func19, Try.ntmps19
            go_wp2_with (go_at_call 21; refine (ris_any _ _).mono ?_; rintro e w' ⟨rfl, rfl⟩)
            go_ret2
            exact ⟨rfl, rfl⟩
          · have r0 := part_bd t n (by omega) (by omega)
            by_cases h6 : 1099511627775 < t * (n % 1048576)
            · have ho : 1099511627775 < t * n := prod_over2 (by omega) (by omega) h6
              rw [(mul_over h1 (by omega) ho).1, (mul_over h1 (by omega) ho).2]
              clear ho
              go_enter Try.func19, Try.ntmps19
              go_wp2_with (go_at_call 21; refine (ris_any _ _).mono ?_; rintro e w' ⟨rfl, rfl⟩)
              go_ret2
              exact ⟨rfl, rfl⟩
            · by_cases h7 : 1048576 ≤ n
              · by_cases h8 : 1099511627775 / n < t
                · have ho : 1099511627775 < t * n := by rw [Int.mul_comm]; exact (quo_over (t := n) (n := t) (by omega)).1 h8
                  rw [(mul_over h1 (by omega) ho).1, (mul_over h1 (by omega) ho).2]
                  clear ho
                  go_enter Try.func19, Try.ntmps19
                  go_wp2_with (go_at_call 21; refine (ris_any _ _).mono ?_; rintro e w' ⟨rfl, rfl⟩)
                  go_ret2
                  exact ⟨rfl, rfl⟩
                · have ho : t * n ≤ 1099511627775 := by rw [Int.mul_comm]; exact Int.not_lt.1 fun h => h8 ((quo_over (t := n) (n := t) (by omega)).2 h)
                  rw [(mul_yes h1 (by omega) ho).1, (mul_yes h1 (by omega) ho).2]
                  have h9 : 0 ≤ t * n := Int.mul_nonneg (by omega) (by omega)
                  go_enter Try.func19, Try.ntmps19
                  go_wp2_with (go_at_call 21; refine (ris_any _ _).mono ?_; rintro e w' ⟨rfl, rfl⟩)
                  go_ret2
                  exact ⟨rfl, rfl⟩
              · have ho : t * n ≤ 1099511627775 := prod_small (by omega) (by omega) h6
                rw [(mul_yes h1 (by omega) ho).1, (mul_yes h1 (by omega) ho).2]
                have h9 : 0 ≤ t * n := Int.mul_nonneg (by omega) (by omega)
                go_enter Try.func19, Try.ntmps19
                go_wp2_with (go_at_call 21; refine (ris_any _ _).mono ?_; rintro e w' ⟨rfl, rfl⟩)
                go_ret2
                exact ⟨rfl, rfl⟩

end Go.Proofs.Ytaabalffcpaojaa
