/- Layer 8: share: a part of a span, by a power of two. -/
import Derived.Test.YtkicanegjkemoaaDoorSplHoldP
import Derived.Test.YtkicanegjkemoaaDoorFlwTel
import Derived.WalkKit
namespace Go.Proofs.YtkicanegjkemoaaDoor
open Go.RowKit Go.Shelf
set_option linter.unusedVariables false
set_option maxRecDepth 100000

theorem mul_bd {a b x y : Int} (ha : 0 ≤ a) (hb : 0 ≤ b) (hx : a ≤ x) (hy : b ≤ y) : 0 ≤ a * b ∧ a * b ≤ x * y :=
  ⟨Int.mul_nonneg ha hb, Int.mul_le_mul hx hy hb (Int.le_trans ha hx)⟩
theorem share_any (n s L r : Int) (h0 : 0 ≤ n) (h1 : n ≤ L) (h2 : L ≤ 1099511627775) (h3 : 0 ≤ s) (h4 : s ≤ 1099511627775) (hr : n * s / L = r) (w : World) :
    Calls Tryd.prog 25 #[.int .i64 n, .int .i64 s, .int .i64 L] w fun e w' => e = .returned (.int .i64 r) ∧ Below w.heap.size w w' := by
  by_cases hL : L = 0
  · subst hL
    rw [Int.ediv_zero] at hr
    subst hr
    go_enter Tryd.func25, Tryd.ntmps25
    go_wp2
    go_ret
    exact ⟨rfl, Below.refl _ _⟩
  · have hLp : 0 < L := by omega
    have heq := share_eq (n := n) (s := s) (L := L) (u := 1048576) hLp (by decide)
    have hsh := shr_high (L := L) (G := s) (d := n)
    obtain ⟨p, hp⟩ : ∃ p, s / 1048576 = p := ⟨_, rfl⟩
    obtain ⟨q, hq⟩ : ∃ q, s % 1048576 = q := ⟨_, rfl⟩
    have hp0 : 0 ≤ p := by omega
    have hp1 : p ≤ 1048575 := by omega
    have hq0 : 0 ≤ q := by omega
    have hq1 : q ≤ 1048575 := by omega
    have b1 := mul_bd h0 hp0 (Int.le_trans h1 h2) hp1
    have b2 := mul_bd h0 hq0 (Int.le_trans h1 h2) hq1
    have b3 : n * p ≤ p * L := by rw [Int.mul_comm n p]; exact Int.mul_le_mul_of_nonneg_left h1 hp0
    rw [hp, hq] at heq
    obtain ⟨np, hnp⟩ : ∃ np, n * p = np := ⟨_, rfl⟩
    obtain ⟨nq, hnq⟩ : ∃ nq, n * q = nq := ⟨_, rfl⟩
    rw [hnp] at b1 b3 heq
    rw [hnq] at b2 heq
    have b4 : np / L ≤ p := by
      have := Int.ediv_le_ediv hLp b3
      rwa [Int.mul_ediv_cancel _ (by omega)] at this
    have b5 : 0 ≤ np / L := Int.ediv_nonneg b1.1 (by omega)
    have b6 : 0 ≤ np % L := Int.emod_nonneg _ (by omega)
    have b7 : np % L < L := Int.emod_lt_of_pos _ hLp
    obtain ⟨wh, hwh⟩ : ∃ wh, np / L = wh := ⟨_, rfl⟩
    obtain ⟨lf, hlf⟩ : ∃ lf, np % L = lf := ⟨_, rfl⟩
    rw [hwh] at b4 b5 heq
    rw [hlf] at b6 b7 heq
    obtain ⟨z, hz⟩ : ∃ z, (lf * 1048576 + nq) / L = z := ⟨_, rfl⟩
    have b8 : 0 ≤ z := by rw [← hz]; exact Int.ediv_nonneg (by omega) (by omega)
    have b9 : z ≤ lf * 1048576 + nq := by rw [← hz]; exact Int.ediv_le_self _ (by omega)
    rw [hz, hr] at heq
    have hLz : (L == 0) = false := by rw [beq_eq_false_iff_ne]; exact hL
    have HEQ := Lib.hid heq
    clear heq hr hsh b3
    go_enter Tryd.func25, Tryd.ntmps25
    go_wp2_with fail
    rw [hp, hq]
    clear hp hq
    go_quiet (fail)
    go_wp2
    go_ret
    exact ⟨by rw [← HEQ.out]; rfl, bdrew w nq⟩
end Go.Proofs.YtkicanegjkemoaaDoor

