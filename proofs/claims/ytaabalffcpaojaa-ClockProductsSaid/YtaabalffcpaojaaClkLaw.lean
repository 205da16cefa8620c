/- Plain facts on sums, products and clipped sums that the laws of layer 1 lean on. -/
import Derived.Test.YtaabalffcpaojaaClkKnown
namespace Go.Proofs.Ytaabalffcpaojaa
open Go.RowKit
set_option linter.unusedVariables false

theorem mul_step {t n : Int} (h : isT t = true) (hn : 0 ≤ n) (he : mulE t n = 0) :
    addV [mulV t n, t] = mulV t (n + 1) ∧ addE [mulV t n, t] = mulE t (n + 1) := by
  have b := isT_bd h
  have hle : t * n ≤ 1099511627775 := by
    rcases Int.lt_or_le 1099511627775 (t * n) with g | g
    · rw [(mul_over h hn g).2] at he; omega
    · exact g
  have h0 : 0 ≤ t * n := Int.mul_nonneg b.1 hn
  have hT := isT_yes h0 hle
  have hall : allT [t * n, t] = true := by simp [allT, h, hT]
  have hs : sumL [t * n, t] = t * (n + 1) := by rw [Int.mul_add]; simp only [sumL]; omega
  rw [(mul_yes h hn hle).1]
  by_cases ho : t * (n + 1) ≤ 1099511627775
  · rw [(add_yes hall (by rw [hs]; exact ho)).1, (add_yes hall (by rw [hs]; exact ho)).2, (mul_yes h (by omega) ho).1, (mul_yes h (by omega) ho).2, hs]
    exact ⟨rfl, rfl⟩
  · rw [(add_over hall (by rw [hs]; omega)).1, (add_over hall (by rw [hs]; omega)).2, (mul_over h (by omega) (by omega)).1, (mul_over h (by omega) (by omega)).2]
    exact ⟨rfl, rfl⟩

theorem add_at (t a : Int) (W : World) (g c : Nat) (T : TypeId) (hg : W.heap.size = g) (v e0 : Int) (hv : addV [t, a] = v) (he : addE [t, a] = e0) :
    Calls Try.prog 12 #[.int .i64 t, .slice (some ⟨g, 0, none⟩) 1 c] (W.alloc (.cells #[.int .i64 a] T))
      fun e w' => e = .returned (.tuple #[.int .i64 v, .int .i64 e0]) ∧ W.alloc (.cells #[.int .i64 a] T) = w' := by
  have h := add1 t a W g c T hg
  rw [hv, he] at h
  exact h
theorem mul_at (t n : Int) (W : World) (hn : n ≤ 9223372036854775807) (v e0 : Int) (hv : mulV t n = v) (he : mulE t n = e0) :
    Calls Try.prog 18 #[.int .i64 t, .int .i64 n] W fun e w' => e = .returned (.tuple #[.int .i64 v, .int .i64 e0]) ∧ W = w' := by
  have h := mul_any t n W hn
  rw [hv, he] at h
  exact h
theorem sub_at (t u : Int) (W : World) (v e0 : Int) (hv : subV t u = v) (he : subE t u = e0) :
    Calls Try.prog 16 #[.int .i64 t, .int .i64 u] W fun e w' => e = .returned (.tuple #[.int .i64 v, .int .i64 e0]) ∧ W = w' := by
  have h := sub_any t u W
  rw [hv, he] at h
  exact h
theorem clip_at1 (t a : Int) (W : World) (g c : Nat) (T : TypeId) (hg : W.heap.size = g) (v : Int) (hv : clipA [t, a] = v) :
    Calls Try.prog 14 #[.int .i64 t, .slice (some ⟨g, 0, none⟩) 1 c] (W.alloc (.cells #[.int .i64 a] T))
      fun e w' => e = .returned (.int .i64 v) ∧ W.alloc (.cells #[.int .i64 a] T) = w' := by
  have h := clip1 t a W g c T hg
  rw [hv] at h
  exact h
theorem is_clip (l : List Int) (W : World) : Calls Try.prog 20 #[.int .i64 (clipA l)] W fun e w' => e = .returned (.bool true) ∧ W = w' := by
  have h := is_any (clipA l) W
  have b := clipL_bd l 0 (by omega) (by omega)
  rw [isT_yes (t := clipA l) b.1 b.2] at h
  exact h

/-- a sum that is a time: its terms are, it is clipped to itself, and less one of both it is the other one -/
theorem sum_yes {t u : Int} (he : addE [t, u] = 0) : addV [t, u] = t + u ∧ subV (t + u) u = t ∧ subE (t + u) u = 0 ∧ clipA [t, u] = t + u := by
  have hall : allT [t, u] = true := by
    cases h : allT [t, u]
    · rw [(add_arg h).2] at he; omega
    · rfl
  have hle : sumL [t, u] ≤ 1099511627775 := by
    rcases Int.lt_or_le 1099511627775 (sumL [t, u]) with g | g
    · rw [(add_over hall g).2] at he; omega
    · exact g
  have hs : sumL [t, u] = t + u := by simp only [sumL]; omega
  have h2 : isT t = true ∧ isT u = true := by simpa [allT] using hall
  have bt := isT_bd h2.1
  have bu := isT_bd h2.2
  rw [hs] at hle
  have hT := isT_yes (t := t + u) (by omega) hle
  have hc : one (one (0 + one t) + one u) = t + u := by
    have e1 : one t = t := by unfold one; rw [if_neg (by omega), if_neg (by omega)]
    have e2 : one u = u := by unfold one; rw [if_neg (by omega), if_neg (by omega)]
    rw [e1, e2, Int.zero_add, e1]
    unfold one; rw [if_neg (by omega), if_neg (by omega)]
  refine ⟨by rw [(add_yes hall (by rw [hs]; exact hle)).1, hs], ?_, (sub_yes hT h2.2 (by omega)).2, hc⟩
  rw [(sub_yes hT h2.2 (by omega)).1]; omega

end Go.Proofs.Ytaabalffcpaojaa
