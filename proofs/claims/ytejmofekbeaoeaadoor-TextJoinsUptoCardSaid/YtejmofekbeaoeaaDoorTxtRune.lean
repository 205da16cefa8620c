/- The document's Rune: one step of the decoder, as numbers. -/
import Derived.Test.YtejmofekbeaoeaaDoorTxtName
import Derived.Handy
namespace Go.Proofs.YtejmofekbeaoeaaDoor
open Go.RowKit Go.Shelf Go.Lib
set_option linter.unusedVariables false

def runeP (p : Nat × Nat) : Nat × Nat := if bad p then (0, 0) else p
def decB (s : ByteArray) (B : Nat → Nat) (i : Nat) : Nat × Nat := runeP (decodeN (s.size - i) (B i) (B (i + 1)) (B (i + 2)) (B (i + 3)))
theorem runeP_err {p : Nat × Nat} (h : p = (65533, 1)) : runeP p = (0, 0) := by rw [h]; rfl
theorem runeP_wide {p : Nat × Nat} {v k : Nat} (h : p = (v, k)) (hk : k ≠ 1) : runeP p = (v, k) := by rw [h]; simp [runeP, bad, hk]
theorem runeP_one {p : Nat × Nat} {v : Nat} (h : p = (v, 1)) (hv : v ≠ 65533) : runeP p = (v, 1) := by rw [h]; simp [runeP, bad, hv]
set_option maxHeartbeats 4000000 in
theorem dN_0 (n b0 b1 b2 b3 : Nat) (h : (128 ≤ b0 ∧ b0 < 192) ∨ 248 ≤ b0) : decodeN n b0 b1 b2 b3 = (65533, 1) := by
  unfold decodeN
  repeat' split
  all_goals first | rfl | (exfalso; omega)
set_option maxHeartbeats 4000000 in
theorem dN_2x (n b0 b1 b2 b3 : Nat) (h0 : 192 ≤ b0 ∧ b0 < 224) (h : n < 2 ∨ b1 < 128 ∨ 192 ≤ b1 ∨ b0 * 64 + b1 < 12544) : decodeN n b0 b1 b2 b3 = (65533, 1) := by
  unfold decodeN
  repeat' split
  all_goals first | rfl | (exfalso; omega)
set_option maxHeartbeats 4000000 in
theorem dN_2 (n b0 b1 b2 b3 v : Nat) (h0 : 192 ≤ b0 ∧ b0 < 224) (h : 2 ≤ n ∧ 128 ≤ b1 ∧ b1 < 192 ∧ 12544 ≤ b0 * 64 + b1) (hv : v + 12416 = b0 * 64 + b1) : decodeN n b0 b1 b2 b3 = (v, 2) := by
  unfold decodeN
  repeat' split
  all_goals first | (exfalso; omega) | (apply Prod.ext <;> simp only <;> omega)
set_option maxHeartbeats 4000000 in
theorem dN_3x (n b0 b1 b2 b3 : Nat) (h0 : 224 ≤ b0 ∧ b0 < 240) (h : n < 3 ∨ b1 < 128 ∨ 192 ≤ b1 ∨ b2 < 128 ∨ 192 ≤ b2 ∨ b0 * 4096 + b1 * 64 + b2 < 927872 ∨ (981120 ≤ b0 * 4096 + b1 * 64 + b2 ∧ b0 * 4096 + b1 * 64 + b2 < 983168)) : decodeN n b0 b1 b2 b3 = (65533, 1) := by
  unfold decodeN
  repeat' split
  all_goals first | rfl | (exfalso; omega)
set_option maxHeartbeats 4000000 in
theorem dN_3 (n b0 b1 b2 b3 v : Nat) (h0 : 224 ≤ b0 ∧ b0 < 240) (h : 3 ≤ n ∧ 128 ≤ b1 ∧ b1 < 192 ∧ 128 ≤ b2 ∧ b2 < 192) (hv : v + 925824 = b0 * 4096 + b1 * 64 + b2) (hr : (2048 ≤ v ∧ v < 55296) ∨ 57344 ≤ v) : decodeN n b0 b1 b2 b3 = (v, 3) := by
  unfold decodeN
  repeat' split
  all_goals first | (exfalso; omega) | (apply Prod.ext <;> simp only <;> omega)
set_option maxHeartbeats 4000000 in
theorem dN_4x (n b0 b1 b2 b3 : Nat) (h0 : 240 ≤ b0 ∧ b0 < 248) (h : n < 4 ∨ b1 < 128 ∨ 192 ≤ b1 ∨ b2 < 128 ∨ 192 ≤ b2 ∨ b3 < 128 ∨ 192 ≤ b3 ∨ b0 * 262144 + b1 * 4096 + b2 * 64 + b3 < 63512704 ∨ 64561279 < b0 * 262144 + b1 * 4096 + b2 * 64 + b3) : decodeN n b0 b1 b2 b3 = (65533, 1) := by
  unfold decodeN
  repeat' split
  all_goals first | rfl | (exfalso; omega)
set_option maxHeartbeats 4000000 in
theorem dN_4 (n b0 b1 b2 b3 v : Nat) (h0 : 240 ≤ b0 ∧ b0 < 248) (h : 4 ≤ n ∧ 128 ≤ b1 ∧ b1 < 192 ∧ 128 ≤ b2 ∧ b2 < 192 ∧ 128 ≤ b3 ∧ b3 < 192) (hv : v + 63447168 = b0 * 262144 + b1 * 4096 + b2 * 64 + b3) (hr : 65536 ≤ v ∧ v ≤ 1114111) : decodeN n b0 b1 b2 b3 = (v, 4) := by
  unfold decodeN
  repeat' split
  all_goals first | (exfalso; omega) | (apply Prod.ext <;> simp only <;> omega)
end Go.Proofs.YtejmofekbeaoeaaDoor
