/- Layer Txt over, for a seat that needs several layers: TxtRune, TxtRuneA, TxtRuneC, TxtRuneD, TxtAll. -/
import Derived.Test.YtkicanegjkemoaaDoorTxtB
import Derived.Handy
namespace Go.Proofs.YtkicanegjkemoaaDoor.Txt
set_option maxRecDepth 100000
/-! The document's Rune: one step of the decoder, as numbers. -/
open Go.RowKit Go.Shelf Go.Lib
set_option linter.unusedVariables false

def runeP (p : Nat × Nat) : Nat × Nat := if bad p then (0, 0) else p
def decB (s : ByteArray) (B : Nat → Nat) (i : Nat) : Nat × Nat := runeP (decodeN (s.size - i) (B i) (B (i + 1)) (B (i + 2)) (B (i + 3)))
theorem runeP_err {p : Nat × Nat} (h : p = (65533, 1)) : runeP p = (0, 0) := by rw [h]; rfl
theorem runeP_wide {p : Nat × Nat} {v k : Nat} (h : p = (v, k)) (hk : k ≠ 1) : runeP p = (v, k) := by rw [h]; simp [runeP, bad, hk]
theorem runeP_one {p : Nat × Nat} {v : Nat} (h : p = (v, 1)) (hv : v ≠ 65533) : runeP p = (v, 1) := by rw [h]; simp [runeP, bad, hv]
set_option maxHeartbeats 4000000 in
theorem dN_0 (n b0 b1 b2 b3 : Nat) (h : (128 ≤ b0 ∧ b0 < 192) ∨ 248 ≤ b0) : decodeN n b0 b1 b2 b3 = (65533, 1) := by
  unfold decodeN
  repeat' split
  all_goals first | rfl | (exfalso; omega)
set_option maxHeartbeats 4000000 in
theorem dN_2x (n b0 b1 b2 b3 : Nat) (h0 : 192 ≤ b0 ∧ b0 < 224) (h : n < 2 ∨ b1 < 128 ∨ 192 ≤ b1 ∨ b0 * 64 + b1 < 12544) : decodeN n b0 b1 b2 b3 = (65533, 1) := by
  unfold decodeN
  repeat' split
  all_goals first | rfl | (exfalso; omega)
set_option maxHeartbeats 4000000 in
theorem dN_2 (n b0 b1 b2 b3 v : Nat) (h0 : 192 ≤ b0 ∧ b0 < 224) (h : 2 ≤ n ∧ 128 ≤ b1 ∧ b1 < 192 ∧ 12544 ≤ b0 * 64 + b1) (hv : v + 12416 = b0 * 64 + b1) : decodeN n b0 b1 b2 b3 = (v, 2) := by
  unfold decodeN
  repeat' split
  all_goals first | (exfalso; omega) | (apply Prod.ext <;> simp only <;> omega)
set_option maxHeartbeats 4000000 in
theorem dN_3x (n b0 b1 b2 b3 : Nat) (h0 : 224 ≤ b0 ∧ b0 < 240) (h : n < 3 ∨ b1 < 128 ∨ 192 ≤ b1 ∨ b2 < 128 ∨ 192 ≤ b2 ∨ b0 * 4096 + b1 * 64 + b2 < 927872 ∨ (981120 ≤ b0 * 4096 + b1 * 64 + b2 ∧ b0 * 4096 + b1 * 64 + b2 < 983168)) : decodeN n b0 b1 b2 b3 = (65533, 1) := by
  unfold decodeN
  repeat' split
  all_goals first | rfl | (exfalso; omega)
set_option maxHeartbeats 4000000 in
theorem dN_3 (n b0 b1 b2 b3 v : Nat) (h0 : 224 ≤ b0 ∧ b0 < 240) (h : 3 ≤ n ∧ 128 ≤ b1 ∧ b1 < 192 ∧ 128 ≤ b2 ∧ b2 < 192) (hv : v + 925824 = b0 * 4096 + b1 * 64 + b2) (hr : (2048 ≤ v ∧ v < 55296) ∨ 57344 ≤ v) : decodeN n b0 b1 b2 b3 = (v, 3) := by
  unfold decodeN
  repeat' split
  all_goals first | (exfalso; omega) | (apply Prod.ext <;> simp only <;> omega)
set_option maxHeartbeats 4000000 in
theorem dN_4x (n b0 b1 b2 b3 : Nat) (h0 : 240 ≤ b0 ∧ b0 < 248) (h : n < 4 ∨ b1 < 128 ∨ 192 ≤ b1 ∨ b2 < 128 ∨ 192 ≤ b2 ∨ b3 < 128 ∨ 192 ≤ b3 ∨ b0 * 262144 + b1 * 4096 + b2 * 64 + b3 < 63512704 ∨ 64561279 < b0 * 262144 + b1 * 4096 + b2 * 64 + b3) : decodeN n b0 b1 b2 b3 = (65533, 1) := by
  unfold decodeN
  repeat' split
  all_goals first | rfl | (exfalso; omega)
set_option maxHeartbeats 4000000 in
theorem dN_4 (n b0 b1 b2 b3 v : Nat) (h0 : 240 ≤ b0 ∧ b0 < 248) (h : 4 ≤ n ∧ 128 ≤ b1 ∧ b1 < 192 ∧ 128 ≤ b2 ∧ b2 < 192 ∧ 128 ≤ b3 ∧ b3 < 192) (hv : v + 63447168 = b0 * 262144 + b1 * 4096 + b2 * 64 + b3) (hr : 65536 ≤ v ∧ v ≤ 1114111) : decodeN n b0 b1 b2 b3 = (v, 4) := by
  unfold decodeN
  repeat' split
  all_goals first | (exfalso; omega) | (apply Prod.ext <;> simp only <;> omega)
/-! The document's Rune: one byte, two bytes. -/
open Go.RowKit Go.Shelf Go.Lib
set_option linter.unusedVariables false

set_option maxHeartbeats 3200000 in
set_option maxRecDepth 100000 in
theorem rn_1 (s : ByteArray) (i : Nat) (w : World) (hs : s.size ≤ 1100000) (hi : i < s.size) (B : Nat → Nat) (hB : ∀ (n : Nat) (h : n < s.size), (s[n]'h).toNat = B n) (hu : ∀ n, B n < 256) (h0 : B i < 128) :
    Calls Tryd.prog 73 #[.string s, .int .i64 (i : Int)] w fun e w' => e = .returned (.tuple #[.int .i64 ((decB s B i).1 : Nat), .int .i64 ((decB s B i).2 : Nat)]) ∧ w = w' := by
  have HR := Lib.hid (show decB s B i = _ from runeP_one (decodeN_ascii _ _ _ _ _ h0) (by omega))
  have u0 := hu i
  have u1 := hu (i + 1)
  have u2 := hu (i + 2)
  have u3 := hu (i + 3)
  clear hu
  go_enter Tryd.func73, Tryd.ntmps73
  go_wp2
  go_rounds 1
  go_ret2
  exact ⟨by rw [HR.out]; rfl, rfl⟩

set_option maxHeartbeats 3200000 in
set_option maxRecDepth 100000 in
theorem rn_0a (s : ByteArray) (i : Nat) (w : World) (hs : s.size ≤ 1100000) (hi : i < s.size) (B : Nat → Nat) (hB : ∀ (n : Nat) (h : n < s.size), (s[n]'h).toNat = B n) (hu : ∀ n, B n < 256) (h0 : 128 ≤ B i) (h1 : B i < 192) :
    Calls Tryd.prog 73 #[.string s, .int .i64 (i : Int)] w fun e w' => e = .returned (.tuple #[.int .i64 ((decB s B i).1 : Nat), .int .i64 ((decB s B i).2 : Nat)]) ∧ w = w' := by
  have HR := Lib.hid (show decB s B i = _ from runeP_err (dN_0 _ _ _ _ _ (Or.inl ⟨h0, h1⟩)))
  have u0 := hu i
  have u1 := hu (i + 1)
  have u2 := hu (i + 2)
  have u3 := hu (i + 3)
  clear hu
  go_enter Tryd.func73, Tryd.ntmps73
  go_wp2
  go_ret2
  exact ⟨by rw [HR.out]; rfl, rfl⟩

set_option maxHeartbeats 3200000 in
set_option maxRecDepth 100000 in
theorem rn_0b (s : ByteArray) (i : Nat) (w : World) (hs : s.size ≤ 1100000) (hi : i < s.size) (B : Nat → Nat) (hB : ∀ (n : Nat) (h : n < s.size), (s[n]'h).toNat = B n) (hu : ∀ n, B n < 256) (h0 : 248 ≤ B i) :
    Calls Tryd.prog 73 #[.string s, .int .i64 (i : Int)] w fun e w' => e = .returned (.tuple #[.int .i64 ((decB s B i).1 : Nat), .int .i64 ((decB s B i).2 : Nat)]) ∧ w = w' := by
  have HR := Lib.hid (show decB s B i = _ from runeP_err (dN_0 _ _ _ _ _ (Or.inr h0)))
  have u0 := hu i
  have u1 := hu (i + 1)
  have u2 := hu (i + 2)
  have u3 := hu (i + 3)
  clear hu
  go_enter Tryd.func73, Tryd.ntmps73
  go_wp2
  go_ret2
  exact ⟨by rw [HR.out]; rfl, rfl⟩

set_option maxHeartbeats 3200000 in
set_option maxRecDepth 100000 in
theorem rn_2s (s : ByteArray) (i : Nat) (w : World) (hs : s.size ≤ 1100000) (hi : i < s.size) (B : Nat → Nat) (hB : ∀ (n : Nat) (h : n < s.size), (s[n]'h).toNat = B n) (hu : ∀ n, B n < 256) (h0 : 192 ≤ B i) (h0b : B i < 224) (hn : s.size < i + 2) :
    Calls Tryd.prog 73 #[.string s, .int .i64 (i : Int)] w fun e w' => e = .returned (.tuple #[.int .i64 ((decB s B i).1 : Nat), .int .i64 ((decB s B i).2 : Nat)]) ∧ w = w' := by
  have HR := Lib.hid (show decB s B i = _ from runeP_err (dN_2x _ _ _ _ _ ⟨h0, h0b⟩ (by omega)))
  have u0 := hu i
  have u1 := hu (i + 1)
  have u2 := hu (i + 2)
  have u3 := hu (i + 3)
  clear hu
  go_enter Tryd.func73, Tryd.ntmps73
  go_wp2
  go_ret2
  exact ⟨by rw [HR.out]; rfl, rfl⟩

set_option maxHeartbeats 3200000 in
set_option maxRecDepth 100000 in
theorem rn_2a (s : ByteArray) (i : Nat) (w : World) (hs : s.size ≤ 1100000) (hi : i < s.size) (B : Nat → Nat) (hB : ∀ (n : Nat) (h : n < s.size), (s[n]'h).toNat = B n) (hu : ∀ n, B n < 256) (h0 : 192 ≤ B i) (h0b : B i < 224) (hn : i + 2 ≤ s.size) (c1 : B (i + 1) < 128) :
    Calls Tryd.prog 73 #[.string s, .int .i64 (i : Int)] w fun e w' => e = .returned (.tuple #[.int .i64 ((decB s B i).1 : Nat), .int .i64 ((decB s B i).2 : Nat)]) ∧ w = w' := by
  have HR := Lib.hid (show decB s B i = _ from runeP_err (dN_2x _ _ _ _ _ ⟨h0, h0b⟩ (by omega)))
  have u0 := hu i
  have u1 := hu (i + 1)
  have u2 := hu (i + 2)
  have u3 := hu (i + 3)
  clear hu
  have t1 : ((i : Int) + 1).toNat = i + 1 := by omega
  have z1 : (0 : Int) ≤ (i : Int) + 1 := by omega
  have l1 : i + 1 < s.size := by omega
  go_enter Tryd.func73, Tryd.ntmps73
  go_wp2
  go_rounds 2
  go_ret2
  exact ⟨by rw [HR.out]; rfl, rfl⟩

set_option maxHeartbeats 3200000 in
set_option maxRecDepth 100000 in
theorem rn_2b (s : ByteArray) (i : Nat) (w : World) (hs : s.size ≤ 1100000) (hi : i < s.size) (B : Nat → Nat) (hB : ∀ (n : Nat) (h : n < s.size), (s[n]'h).toNat = B n) (hu : ∀ n, B n < 256) (h0 : 192 ≤ B i) (h0b : B i < 224) (hn : i + 2 ≤ s.size) (c1 : 192 ≤ B (i + 1)) :
    Calls Tryd.prog 73 #[.string s, .int .i64 (i : Int)] w fun e w' => e = .returned (.tuple #[.int .i64 ((decB s B i).1 : Nat), .int .i64 ((decB s B i).2 : Nat)]) ∧ w = w' := by
  have HR := Lib.hid (show decB s B i = _ from runeP_err (dN_2x _ _ _ _ _ ⟨h0, h0b⟩ (by omega)))
  have u0 := hu i
  have u1 := hu (i + 1)
  have u2 := hu (i + 2)
  have u3 := hu (i + 3)
  clear hu
  have t1 : ((i : Int) + 1).toNat = i + 1 := by omega
  have z1 : (0 : Int) ≤ (i : Int) + 1 := by omega
  have l1 : i + 1 < s.size := by omega
  go_enter Tryd.func73, Tryd.ntmps73
  go_wp2
  go_rounds 2
  go_ret2
  exact ⟨by rw [HR.out]; rfl, rfl⟩

set_option maxHeartbeats 3200000 in
set_option maxRecDepth 100000 in
theorem rn_2l (s : ByteArray) (i : Nat) (w : World) (hs : s.size ≤ 1100000) (hi : i < s.size) (B : Nat → Nat) (hB : ∀ (n : Nat) (h : n < s.size), (s[n]'h).toNat = B n) (hu : ∀ n, B n < 256) (h0 : 192 ≤ B i) (h0b : B i < 224) (hn : i + 2 ≤ s.size) (c1 : 128 ≤ B (i + 1)) (d1 : B (i + 1) < 192) (hv : B i * 64 + B (i + 1) < 12544) :
    Calls Tryd.prog 73 #[.string s, .int .i64 (i : Int)] w fun e w' => e = .returned (.tuple #[.int .i64 ((decB s B i).1 : Nat), .int .i64 ((decB s B i).2 : Nat)]) ∧ w = w' := by
  have HR := Lib.hid (show decB s B i = _ from runeP_err (dN_2x _ _ _ _ _ ⟨h0, h0b⟩ (by omega)))
  have u0 := hu i
  have u1 := hu (i + 1)
  have u2 := hu (i + 2)
  have u3 := hu (i + 3)
  clear hu
  have t1 : ((i : Int) + 1).toNat = i + 1 := by omega
  have z1 : (0 : Int) ≤ (i : Int) + 1 := by omega
  have l1 : i + 1 < s.size := by omega
  go_enter Tryd.func73, Tryd.ntmps73
  go_wp2
  go_rounds 3
  go_ret2
  exact ⟨by rw [HR.out]; rfl, rfl⟩

set_option maxHeartbeats 3200000 in
set_option maxRecDepth 100000 in
theorem rn_2 (s : ByteArray) (i : Nat) (w : World) (hs : s.size ≤ 1100000) (hi : i < s.size) (B : Nat → Nat) (hB : ∀ (n : Nat) (h : n < s.size), (s[n]'h).toNat = B n) (hu : ∀ n, B n < 256) (h0 : 192 ≤ B i) (h0b : B i < 224) (hn : i + 2 ≤ s.size) (c1 : 128 ≤ B (i + 1)) (d1 : B (i + 1) < 192) (hl : 12544 ≤ B i * 64 + B (i + 1)) (v : Nat) (hv : v + 12416 = B i * 64 + B (i + 1)) :
    Calls Tryd.prog 73 #[.string s, .int .i64 (i : Int)] w fun e w' => e = .returned (.tuple #[.int .i64 ((decB s B i).1 : Nat), .int .i64 ((decB s B i).2 : Nat)]) ∧ w = w' := by
  have HR := Lib.hid (show decB s B i = _ from runeP_wide (dN_2 _ _ _ _ _ v ⟨h0, h0b⟩ (by omega) hv) (by omega))
  have u0 := hu i
  have u1 := hu (i + 1)
  have u2 := hu (i + 2)
  have u3 := hu (i + 3)
  clear hu
  have HV := Lib.hid hv; clear hv
  have t1 : ((i : Int) + 1).toNat = i + 1 := by omega
  have z1 : (0 : Int) ≤ (i : Int) + 1 := by omega
  have l1 : i + 1 < s.size := by omega
  go_enter Tryd.func73, Tryd.ntmps73
  go_wp2
  go_rounds 3
  go_ret2
  refine ⟨?_, rfl⟩
  rw [HR.out]
  show Ending.returned (Value.tuple #[Value.int IntKind.i64 (((B i : Int) - 192) * 64 + (B (i + 1) : Int) - 128), _]) = _
  have hv := HV.out
  rw [show (((B i : Int) - 192) * 64 + (B (i + 1) : Int) - 128) = ((v : Nat) : Int) from by clear t1; omega]
  rfl

theorem rune_A (s : ByteArray) (i : Nat) (w : World) (hs : s.size ≤ 1100000) (hi : i < s.size) (B : Nat → Nat) (hB : ∀ (n : Nat) (h : n < s.size), (s[n]'h).toNat = B n) (hu : ∀ n, B n < 256) (h : B i < 224 ∨ 248 ≤ B i) :
    Calls Tryd.prog 73 #[.string s, .int .i64 (i : Int)] w fun e w' => e = .returned (.tuple #[.int .i64 ((decB s B i).1 : Nat), .int .i64 ((decB s B i).2 : Nat)]) ∧ w = w' := by
  by_cases h1 : B i < 128
  · exact rn_1 s i w hs hi B hB hu h1
  by_cases h2 : 248 ≤ B i
  · exact rn_0b s i w hs hi B hB hu h2
  by_cases h3 : B i < 192
  · exact rn_0a s i w hs hi B hB hu (by omega) h3
  by_cases h4 : s.size < i + 2
  · exact rn_2s s i w hs hi B hB hu (by omega) (by omega) h4
  by_cases h5 : B (i + 1) < 128
  · exact rn_2a s i w hs hi B hB hu (by omega) (by omega) (by omega) h5
  by_cases h6 : 192 ≤ B (i + 1)
  · exact rn_2b s i w hs hi B hB hu (by omega) (by omega) (by omega) h6
  by_cases h7 : B i * 64 + B (i + 1) < 12544
  · exact rn_2l s i w hs hi B hB hu (by omega) (by omega) (by omega) (by omega) (by omega) h7
  · exact rn_2 s i w hs hi B hB hu (by omega) (by omega) (by omega) (by omega) (by omega) (by omega) (B i * 64 + B (i + 1) - 12416) (by omega)
/-! The document's Rune: three bytes. -/
open Go.RowKit Go.Shelf Go.Lib
set_option linter.unusedVariables false

set_option maxHeartbeats 3200000 in
set_option maxRecDepth 100000 in
theorem rn_3s (s : ByteArray) (i : Nat) (w : World) (hs : s.size ≤ 1100000) (hi : i < s.size) (B : Nat → Nat) (hB : ∀ (n : Nat) (h : n < s.size), (s[n]'h).toNat = B n) (hu : ∀ n, B n < 256) (h0 : 224 ≤ B i) (h0b : B i < 240) (hn : s.size < i + 3) :
    Calls Tryd.prog 73 #[.string s, .int .i64 (i : Int)] w fun e w' => e = .returned (.tuple #[.int .i64 ((decB s B i).1 : Nat), .int .i64 ((decB s B i).2 : Nat)]) ∧ w = w' := by
  have HR := Lib.hid (show decB s B i = _ from runeP_err (dN_3x _ _ _ _ _ ⟨h0, h0b⟩ (by omega)))
  have u0 := hu i
  have u1 := hu (i + 1)
  have u2 := hu (i + 2)
  have u3 := hu (i + 3)
  clear hu
  go_enter Tryd.func73, Tryd.ntmps73
  go_wp2
  go_ret2
  exact ⟨by rw [HR.out]; rfl, rfl⟩

set_option maxHeartbeats 3200000 in
set_option maxRecDepth 100000 in
theorem rn_3a (s : ByteArray) (i : Nat) (w : World) (hs : s.size ≤ 1100000) (hi : i < s.size) (B : Nat → Nat) (hB : ∀ (n : Nat) (h : n < s.size), (s[n]'h).toNat = B n) (hu : ∀ n, B n < 256) (h0 : 224 ≤ B i) (h0b : B i < 240) (hn : i + 3 ≤ s.size) (c1 : B (i + 1) < 128) :
    Calls Tryd.prog 73 #[.string s, .int .i64 (i : Int)] w fun e w' => e = .returned (.tuple #[.int .i64 ((decB s B i).1 : Nat), .int .i64 ((decB s B i).2 : Nat)]) ∧ w = w' := by
  have HR := Lib.hid (show decB s B i = _ from runeP_err (dN_3x _ _ _ _ _ ⟨h0, h0b⟩ (by omega)))
  have u0 := hu i
  have u1 := hu (i + 1)
  have u2 := hu (i + 2)
  have u3 := hu (i + 3)
  clear hu
  have t1 : ((i : Int) + 1).toNat = i + 1 := by omega
  have z1 : (0 : Int) ≤ (i : Int) + 1 := by omega
  have l1 : i + 1 < s.size := by omega
  go_enter Tryd.func73, Tryd.ntmps73
  go_wp2
  go_rounds 2
  go_ret2
  exact ⟨by rw [HR.out]; rfl, rfl⟩

set_option maxHeartbeats 3200000 in
set_option maxRecDepth 100000 in
theorem rn_3b (s : ByteArray) (i : Nat) (w : World) (hs : s.size ≤ 1100000) (hi : i < s.size) (B : Nat → Nat) (hB : ∀ (n : Nat) (h : n < s.size), (s[n]'h).toNat = B n) (hu : ∀ n, B n < 256) (h0 : 224 ≤ B i) (h0b : B i < 240) (hn : i + 3 ≤ s.size) (c1 : 192 ≤ B (i + 1)) :
    Calls Tryd.prog 73 #[.string s, .int .i64 (i : Int)] w fun e w' => e = .returned (.tuple #[.int .i64 ((decB s B i).1 : Nat), .int .i64 ((decB s B i).2 : Nat)]) ∧ w = w' := by
  have HR := Lib.hid (show decB s B i = _ from runeP_err (dN_3x _ _ _ _ _ ⟨h0, h0b⟩ (by omega)))
  have u0 := hu i
  have u1 := hu (i + 1)
  have u2 := hu (i + 2)
  have u3 := hu (i + 3)
  clear hu
  have t1 : ((i : Int) + 1).toNat = i + 1 := by omega
  have z1 : (0 : Int) ≤ (i : Int) + 1 := by omega
  have l1 : i + 1 < s.size := by omega
  go_enter Tryd.func73, Tryd.ntmps73
  go_wp2
  go_rounds 2
  go_ret2
  exact ⟨by rw [HR.out]; rfl, rfl⟩

set_option maxHeartbeats 3200000 in
set_option maxRecDepth 100000 in
theorem rn_3c (s : ByteArray) (i : Nat) (w : World) (hs : s.size ≤ 1100000) (hi : i < s.size) (B : Nat → Nat) (hB : ∀ (n : Nat) (h : n < s.size), (s[n]'h).toNat = B n) (hu : ∀ n, B n < 256) (h0 : 224 ≤ B i) (h0b : B i < 240) (hn : i + 3 ≤ s.size) (c1 : 128 ≤ B (i + 1)) (d1 : B (i + 1) < 192) (c2 : B (i + 2) < 128) :
    Calls Tryd.prog 73 #[.string s, .int .i64 (i : Int)] w fun e w' => e = .returned (.tuple #[.int .i64 ((decB s B i).1 : Nat), .int .i64 ((decB s B i).2 : Nat)]) ∧ w = w' := by
  have HR := Lib.hid (show decB s B i = _ from runeP_err (dN_3x _ _ _ _ _ ⟨h0, h0b⟩ (by omega)))
  have u0 := hu i
  have u1 := hu (i + 1)
  have u2 := hu (i + 2)
  have u3 := hu (i + 3)
  clear hu
  have t1 : ((i : Int) + 1).toNat = i + 1 := by omega
  have z1 : (0 : Int) ≤ (i : Int) + 1 := by omega
  have l1 : i + 1 < s.size := by omega
  have t2 : ((i : Int) + 2).toNat = i + 2 := by omega
  have z2 : (0 : Int) ≤ (i : Int) + 2 := by omega
  have l2 : i + 2 < s.size := by omega
  go_enter Tryd.func73, Tryd.ntmps73
  go_wp2
  go_rounds 3
  go_ret2
  exact ⟨by rw [HR.out]; rfl, rfl⟩

set_option maxHeartbeats 3200000 in
set_option maxRecDepth 100000 in
theorem rn_3d (s : ByteArray) (i : Nat) (w : World) (hs : s.size ≤ 1100000) (hi : i < s.size) (B : Nat → Nat) (hB : ∀ (n : Nat) (h : n < s.size), (s[n]'h).toNat = B n) (hu : ∀ n, B n < 256) (h0 : 224 ≤ B i) (h0b : B i < 240) (hn : i + 3 ≤ s.size) (c1 : 128 ≤ B (i + 1)) (d1 : B (i + 1) < 192) (c2 : 192 ≤ B (i + 2)) :
    Calls Tryd.prog 73 #[.string s, .int .i64 (i : Int)] w fun e w' => e = .returned (.tuple #[.int .i64 ((decB s B i).1 : Nat), .int .i64 ((decB s B i).2 : Nat)]) ∧ w = w' := by
  have HR := Lib.hid (show decB s B i = _ from runeP_err (dN_3x _ _ _ _ _ ⟨h0, h0b⟩ (by omega)))
  have u0 := hu i
  have u1 := hu (i + 1)
  have u2 := hu (i + 2)
  have u3 := hu (i + 3)
  clear hu
  have t1 : ((i : Int) + 1).toNat = i + 1 := by omega
  have z1 : (0 : Int) ≤ (i : Int) + 1 := by omega
  have l1 : i + 1 < s.size := by omega
  have t2 : ((i : Int) + 2).toNat = i + 2 := by omega
  have z2 : (0 : Int) ≤ (i : Int) + 2 := by omega
  have l2 : i + 2 < s.size := by omega
  go_enter Tryd.func73, Tryd.ntmps73
  go_wp2
  go_rounds 3
  go_ret2
  exact ⟨by rw [HR.out]; rfl, rfl⟩

set_option maxHeartbeats 3200000 in
set_option maxRecDepth 100000 in
theorem rn_3l (s : ByteArray) (i : Nat) (w : World) (hs : s.size ≤ 1100000) (hi : i < s.size) (B : Nat → Nat) (hB : ∀ (n : Nat) (h : n < s.size), (s[n]'h).toNat = B n) (hu : ∀ n, B n < 256) (h0 : 224 ≤ B i) (h0b : B i < 240) (hn : i + 3 ≤ s.size) (c1 : 128 ≤ B (i + 1)) (d1 : B (i + 1) < 192) (c2 : 128 ≤ B (i + 2)) (d2 : B (i + 2) < 192) (hv : B i * 4096 + B (i + 1) * 64 + B (i + 2) < 927872) :
    Calls Tryd.prog 73 #[.string s, .int .i64 (i : Int)] w fun e w' => e = .returned (.tuple #[.int .i64 ((decB s B i).1 : Nat), .int .i64 ((decB s B i).2 : Nat)]) ∧ w = w' := by
  have HR := Lib.hid (show decB s B i = _ from runeP_err (dN_3x _ _ _ _ _ ⟨h0, h0b⟩ (by omega)))
  have u0 := hu i
  have u1 := hu (i + 1)
  have u2 := hu (i + 2)
  have u3 := hu (i + 3)
  clear hu
  have t1 : ((i : Int) + 1).toNat = i + 1 := by omega
  have z1 : (0 : Int) ≤ (i : Int) + 1 := by omega
  have l1 : i + 1 < s.size := by omega
  have t2 : ((i : Int) + 2).toNat = i + 2 := by omega
  have z2 : (0 : Int) ≤ (i : Int) + 2 := by omega
  have l2 : i + 2 < s.size := by omega
  go_enter Tryd.func73, Tryd.ntmps73
  go_wp2
  go_rounds 4
  go_ret2
  exact ⟨by rw [HR.out]; rfl, rfl⟩

set_option maxHeartbeats 3200000 in
set_option maxRecDepth 100000 in
theorem rn_3m (s : ByteArray) (i : Nat) (w : World) (hs : s.size ≤ 1100000) (hi : i < s.size) (B : Nat → Nat) (hB : ∀ (n : Nat) (h : n < s.size), (s[n]'h).toNat = B n) (hu : ∀ n, B n < 256) (h0 : 224 ≤ B i) (h0b : B i < 240) (hn : i + 3 ≤ s.size) (c1 : 128 ≤ B (i + 1)) (d1 : B (i + 1) < 192) (c2 : 128 ≤ B (i + 2)) (d2 : B (i + 2) < 192) (hv : 981120 ≤ B i * 4096 + B (i + 1) * 64 + B (i + 2)) (hv2 : B i * 4096 + B (i + 1) * 64 + B (i + 2) < 983168) :
    Calls Tryd.prog 73 #[.string s, .int .i64 (i : Int)] w fun e w' => e = .returned (.tuple #[.int .i64 ((decB s B i).1 : Nat), .int .i64 ((decB s B i).2 : Nat)]) ∧ w = w' := by
  have HR := Lib.hid (show decB s B i = _ from runeP_err (dN_3x _ _ _ _ _ ⟨h0, h0b⟩ (by omega)))
  have u0 := hu i
  have u1 := hu (i + 1)
  have u2 := hu (i + 2)
  have u3 := hu (i + 3)
  clear hu
  have t1 : ((i : Int) + 1).toNat = i + 1 := by omega
  have z1 : (0 : Int) ≤ (i : Int) + 1 := by omega
  have l1 : i + 1 < s.size := by omega
  have t2 : ((i : Int) + 2).toNat = i + 2 := by omega
  have z2 : (0 : Int) ≤ (i : Int) + 2 := by omega
  have l2 : i + 2 < s.size := by omega
  go_enter Tryd.func73, Tryd.ntmps73
  go_wp2
  go_rounds 4
  go_ret2
  exact ⟨by rw [HR.out]; rfl, rfl⟩

set_option maxHeartbeats 3200000 in
set_option maxRecDepth 100000 in
theorem rn_3x (s : ByteArray) (i : Nat) (w : World) (hs : s.size ≤ 1100000) (hi : i < s.size) (B : Nat → Nat) (hB : ∀ (n : Nat) (h : n < s.size), (s[n]'h).toNat = B n) (hu : ∀ n, B n < 256) (h0 : 224 ≤ B i) (h0b : B i < 240) (hn : i + 3 ≤ s.size) (c1 : 128 ≤ B (i + 1)) (d1 : B (i + 1) < 192) (c2 : 128 ≤ B (i + 2)) (d2 : B (i + 2) < 192) (l1 : 927872 ≤ B i * 4096 + B (i + 1) * 64 + B (i + 2)) (l2 : B i * 4096 + B (i + 1) * 64 + B (i + 2) < 981120) (v : Nat) (hv : v + 925824 = B i * 4096 + B (i + 1) * 64 + B (i + 2)) :
    Calls Tryd.prog 73 #[.string s, .int .i64 (i : Int)] w fun e w' => e = .returned (.tuple #[.int .i64 ((decB s B i).1 : Nat), .int .i64 ((decB s B i).2 : Nat)]) ∧ w = w' := by
  have HR := Lib.hid (show decB s B i = _ from runeP_wide (dN_3 _ _ _ _ _ v ⟨h0, h0b⟩ (by omega) hv (by omega)) (by omega))
  have u0 := hu i
  have u1 := hu (i + 1)
  have u2 := hu (i + 2)
  have u3 := hu (i + 3)
  clear hu
  have HV := Lib.hid hv; clear hv
  have t1 : ((i : Int) + 1).toNat = i + 1 := by omega
  have z1 : (0 : Int) ≤ (i : Int) + 1 := by omega
  have k1 : i + 1 < s.size := by omega
  have t2 : ((i : Int) + 2).toNat = i + 2 := by omega
  have z2 : (0 : Int) ≤ (i : Int) + 2 := by omega
  have k2 : i + 2 < s.size := by omega
  go_enter Tryd.func73, Tryd.ntmps73
  go_wp2
  go_rounds 4
  go_ret2
  refine ⟨?_, rfl⟩
  rw [HR.out]
  show Ending.returned (Value.tuple #[Value.int IntKind.i64 (((((B i : Int) - 224) * 64 + (B (i + 1) : Int) - 128)) * 64 + (B (i + 2) : Int) - 128), _]) = _
  have hv := HV.out
  rw [show (((((B i : Int) - 224) * 64 + (B (i + 1) : Int) - 128)) * 64 + (B (i + 2) : Int) - 128) = ((v : Nat) : Int) from by clear t1; omega]
  rfl

set_option maxHeartbeats 3200000 in
set_option maxRecDepth 100000 in
theorem rn_3y (s : ByteArray) (i : Nat) (w : World) (hs : s.size ≤ 1100000) (hi : i < s.size) (B : Nat → Nat) (hB : ∀ (n : Nat) (h : n < s.size), (s[n]'h).toNat = B n) (hu : ∀ n, B n < 256) (h0 : 224 ≤ B i) (h0b : B i < 240) (hn : i + 3 ≤ s.size) (c1 : 128 ≤ B (i + 1)) (d1 : B (i + 1) < 192) (c2 : 128 ≤ B (i + 2)) (d2 : B (i + 2) < 192) (l1 : 983168 ≤ B i * 4096 + B (i + 1) * 64 + B (i + 2)) (v : Nat) (hv : v + 925824 = B i * 4096 + B (i + 1) * 64 + B (i + 2)) :
    Calls Tryd.prog 73 #[.string s, .int .i64 (i : Int)] w fun e w' => e = .returned (.tuple #[.int .i64 ((decB s B i).1 : Nat), .int .i64 ((decB s B i).2 : Nat)]) ∧ w = w' := by
  have HR := Lib.hid (show decB s B i = _ from runeP_wide (dN_3 _ _ _ _ _ v ⟨h0, h0b⟩ (by omega) hv (by omega)) (by omega))
  have u0 := hu i
  have u1 := hu (i + 1)
  have u2 := hu (i + 2)
  have u3 := hu (i + 3)
  clear hu
  have HV := Lib.hid hv; clear hv
  have t1 : ((i : Int) + 1).toNat = i + 1 := by omega
  have z1 : (0 : Int) ≤ (i : Int) + 1 := by omega
  have k1 : i + 1 < s.size := by omega
  have t2 : ((i : Int) + 2).toNat = i + 2 := by omega
  have z2 : (0 : Int) ≤ (i : Int) + 2 := by omega
  have l2 : i + 2 < s.size := by omega
  go_enter Tryd.func73, Tryd.ntmps73
  go_wp2
  go_rounds 4
  go_ret2
  refine ⟨?_, rfl⟩
  rw [HR.out]
  show Ending.returned (Value.tuple #[Value.int IntKind.i64 (((((B i : Int) - 224) * 64 + (B (i + 1) : Int) - 128)) * 64 + (B (i + 2) : Int) - 128), _]) = _
  have hv := HV.out
  rw [show (((((B i : Int) - 224) * 64 + (B (i + 1) : Int) - 128)) * 64 + (B (i + 2) : Int) - 128) = ((v : Nat) : Int) from by clear t1; omega]
  rfl

theorem rune_C (s : ByteArray) (i : Nat) (w : World) (hs : s.size ≤ 1100000) (hi : i < s.size) (B : Nat → Nat) (hB : ∀ (n : Nat) (h : n < s.size), (s[n]'h).toNat = B n) (hu : ∀ n, B n < 256) (h0 : 224 ≤ B i) (h0b : B i < 240) :
    Calls Tryd.prog 73 #[.string s, .int .i64 (i : Int)] w fun e w' => e = .returned (.tuple #[.int .i64 ((decB s B i).1 : Nat), .int .i64 ((decB s B i).2 : Nat)]) ∧ w = w' := by
  by_cases h4 : s.size < i + 3
  · exact rn_3s s i w hs hi B hB hu h0 h0b h4
  by_cases h5 : B (i + 1) < 128
  · exact rn_3a s i w hs hi B hB hu h0 h0b (by omega) h5
  by_cases h6 : 192 ≤ B (i + 1)
  · exact rn_3b s i w hs hi B hB hu h0 h0b (by omega) h6
  by_cases h7 : B (i + 2) < 128
  · exact rn_3c s i w hs hi B hB hu h0 h0b (by omega) (by omega) (by omega) h7
  by_cases h8 : 192 ≤ B (i + 2)
  · exact rn_3d s i w hs hi B hB hu h0 h0b (by omega) (by omega) (by omega) h8
  by_cases h9 : B i * 4096 + B (i + 1) * 64 + B (i + 2) < 927872
  · exact rn_3l s i w hs hi B hB hu h0 h0b (by omega) (by omega) (by omega) (by omega) (by omega) h9
  by_cases h10 : B i * 4096 + B (i + 1) * 64 + B (i + 2) < 981120
  · exact rn_3x s i w hs hi B hB hu h0 h0b (by omega) (by omega) (by omega) (by omega) (by omega) (by omega) h10 (B i * 4096 + B (i + 1) * 64 + B (i + 2) - 925824) (by omega)
  by_cases h11 : B i * 4096 + B (i + 1) * 64 + B (i + 2) < 983168
  · exact rn_3m s i w hs hi B hB hu h0 h0b (by omega) (by omega) (by omega) (by omega) (by omega) (by omega) h11
  · exact rn_3y s i w hs hi B hB hu h0 h0b (by omega) (by omega) (by omega) (by omega) (by omega) (by omega) (B i * 4096 + B (i + 1) * 64 + B (i + 2) - 925824) (by omega)
/-! The document's Rune: four bytes. -/
open Go.RowKit Go.Shelf Go.Lib
set_option linter.unusedVariables false

set_option maxHeartbeats 3200000 in
set_option maxRecDepth 100000 in
theorem rn_4s (s : ByteArray) (i : Nat) (w : World) (hs : s.size ≤ 1100000) (hi : i < s.size) (B : Nat → Nat) (hB : ∀ (n : Nat) (h : n < s.size), (s[n]'h).toNat = B n) (hu : ∀ n, B n < 256) (h0 : 240 ≤ B i) (h0b : B i < 248) (hn : s.size < i + 4) :
    Calls Tryd.prog 73 #[.string s, .int .i64 (i : Int)] w fun e w' => e = .returned (.tuple #[.int .i64 ((decB s B i).1 : Nat), .int .i64 ((decB s B i).2 : Nat)]) ∧ w = w' := by
  have HR := Lib.hid (show decB s B i = _ from runeP_err (dN_4x _ _ _ _ _ ⟨h0, h0b⟩ (by omega)))
  have u0 := hu i
  have u1 := hu (i + 1)
  have u2 := hu (i + 2)
  have u3 := hu (i + 3)
  clear hu
  go_enter Tryd.func73, Tryd.ntmps73
  go_wp2
  go_ret2
  exact ⟨by rw [HR.out]; rfl, rfl⟩

set_option maxHeartbeats 3200000 in
set_option maxRecDepth 100000 in
theorem rn_4a (s : ByteArray) (i : Nat) (w : World) (hs : s.size ≤ 1100000) (hi : i < s.size) (B : Nat → Nat) (hB : ∀ (n : Nat) (h : n < s.size), (s[n]'h).toNat = B n) (hu : ∀ n, B n < 256) (h0 : 240 ≤ B i) (h0b : B i < 248) (hn : i + 4 ≤ s.size) (c1 : B (i + 1) < 128) :
    Calls Tryd.prog 73 #[.string s, .int .i64 (i : Int)] w fun e w' => e = .returned (.tuple #[.int .i64 ((decB s B i).1 : Nat), .int .i64 ((decB s B i).2 : Nat)]) ∧ w = w' := by
  have HR := Lib.hid (show decB s B i = _ from runeP_err (dN_4x _ _ _ _ _ ⟨h0, h0b⟩ (by omega)))
  have u0 := hu i
  have u1 := hu (i + 1)
  have u2 := hu (i + 2)
  have u3 := hu (i + 3)
  clear hu
  have t1 : ((i : Int) + 1).toNat = i + 1 := by omega
  have z1 : (0 : Int) ≤ (i : Int) + 1 := by omega
  have l1 : i + 1 < s.size := by omega
  go_enter Tryd.func73, Tryd.ntmps73
  go_wp2
  go_rounds 2
  go_ret2
  exact ⟨by rw [HR.out]; rfl, rfl⟩

set_option maxHeartbeats 3200000 in
set_option maxRecDepth 100000 in
theorem rn_4b (s : ByteArray) (i : Nat) (w : World) (hs : s.size ≤ 1100000) (hi : i < s.size) (B : Nat → Nat) (hB : ∀ (n : Nat) (h : n < s.size), (s[n]'h).toNat = B n) (hu : ∀ n, B n < 256) (h0 : 240 ≤ B i) (h0b : B i < 248) (hn : i + 4 ≤ s.size) (c1 : 192 ≤ B (i + 1)) :
    Calls Tryd.prog 73 #[.string s, .int .i64 (i : Int)] w fun e w' => e = .returned (.tuple #[.int .i64 ((decB s B i).1 : Nat), .int .i64 ((decB s B i).2 : Nat)]) ∧ w = w' := by
  have HR := Lib.hid (show decB s B i = _ from runeP_err (dN_4x _ _ _ _ _ ⟨h0, h0b⟩ (by omega)))
  have u0 := hu i
  have u1 := hu (i + 1)
  have u2 := hu (i + 2)
  have u3 := hu (i + 3)
  clear hu
  have t1 : ((i : Int) + 1).toNat = i + 1 := by omega
  have z1 : (0 : Int) ≤ (i : Int) + 1 := by omega
  have l1 : i + 1 < s.size := by omega
  go_enter Tryd.func73, Tryd.ntmps73
  go_wp2
  go_rounds 2
  go_ret2
  exact ⟨by rw [HR.out]; rfl, rfl⟩

set_option maxHeartbeats 3200000 in
set_option maxRecDepth 100000 in
theorem rn_4c (s : ByteArray) (i : Nat) (w : World) (hs : s.size ≤ 1100000) (hi : i < s.size) (B : Nat → Nat) (hB : ∀ (n : Nat) (h : n < s.size), (s[n]'h).toNat = B n) (hu : ∀ n, B n < 256) (h0 : 240 ≤ B i) (h0b : B i < 248) (hn : i + 4 ≤ s.size) (c1 : 128 ≤ B (i + 1)) (d1 : B (i + 1) < 192) (c2 : B (i + 2) < 128) :
    Calls Tryd.prog 73 #[.string s, .int .i64 (i : Int)] w fun e w' => e = .returned (.tuple #[.int .i64 ((decB s B i).1 : Nat), .int .i64 ((decB s B i).2 : Nat)]) ∧ w = w' := by
  have HR := Lib.hid (show decB s B i = _ from runeP_err (dN_4x _ _ _ _ _ ⟨h0, h0b⟩ (by omega)))
  have u0 := hu i
  have u1 := hu (i + 1)
  have u2 := hu (i + 2)
  have u3 := hu (i + 3)
  clear hu
  have t1 : ((i : Int) + 1).toNat = i + 1 := by omega
  have z1 : (0 : Int) ≤ (i : Int) + 1 := by omega
  have l1 : i + 1 < s.size := by omega
  have t2 : ((i : Int) + 2).toNat = i + 2 := by omega
  have z2 : (0 : Int) ≤ (i : Int) + 2 := by omega
  have l2 : i + 2 < s.size := by omega
  go_enter Tryd.func73, Tryd.ntmps73
  go_wp2
  go_rounds 3
  go_ret2
  exact ⟨by rw [HR.out]; rfl, rfl⟩

set_option maxHeartbeats 3200000 in
set_option maxRecDepth 100000 in
theorem rn_4d (s : ByteArray) (i : Nat) (w : World) (hs : s.size ≤ 1100000) (hi : i < s.size) (B : Nat → Nat) (hB : ∀ (n : Nat) (h : n < s.size), (s[n]'h).toNat = B n) (hu : ∀ n, B n < 256) (h0 : 240 ≤ B i) (h0b : B i < 248) (hn : i + 4 ≤ s.size) (c1 : 128 ≤ B (i + 1)) (d1 : B (i + 1) < 192) (c2 : 192 ≤ B (i + 2)) :
    Calls Tryd.prog 73 #[.string s, .int .i64 (i : Int)] w fun e w' => e = .returned (.tuple #[.int .i64 ((decB s B i).1 : Nat), .int .i64 ((decB s B i).2 : Nat)]) ∧ w = w' := by
  have HR := Lib.hid (show decB s B i = _ from runeP_err (dN_4x _ _ _ _ _ ⟨h0, h0b⟩ (by omega)))
  have u0 := hu i
  have u1 := hu (i + 1)
  have u2 := hu (i + 2)
  have u3 := hu (i + 3)
  clear hu
  have t1 : ((i : Int) + 1).toNat = i + 1 := by omega
  have z1 : (0 : Int) ≤ (i : Int) + 1 := by omega
  have l1 : i + 1 < s.size := by omega
  have t2 : ((i : Int) + 2).toNat = i + 2 := by omega
  have z2 : (0 : Int) ≤ (i : Int) + 2 := by omega
  have l2 : i + 2 < s.size := by omega
  go_enter Tryd.func73, Tryd.ntmps73
  go_wp2
  go_rounds 3
  go_ret2
  exact ⟨by rw [HR.out]; rfl, rfl⟩

set_option maxHeartbeats 3200000 in
set_option maxRecDepth 100000 in
theorem rn_4e (s : ByteArray) (i : Nat) (w : World) (hs : s.size ≤ 1100000) (hi : i < s.size) (B : Nat → Nat) (hB : ∀ (n : Nat) (h : n < s.size), (s[n]'h).toNat = B n) (hu : ∀ n, B n < 256) (h0 : 240 ≤ B i) (h0b : B i < 248) (hn : i + 4 ≤ s.size) (c1 : 128 ≤ B (i + 1)) (d1 : B (i + 1) < 192) (c2 : 128 ≤ B (i + 2)) (d2 : B (i + 2) < 192) (c3 : B (i + 3) < 128) :
    Calls Tryd.prog 73 #[.string s, .int .i64 (i : Int)] w fun e w' => e = .returned (.tuple #[.int .i64 ((decB s B i).1 : Nat), .int .i64 ((decB s B i).2 : Nat)]) ∧ w = w' := by
  have HR := Lib.hid (show decB s B i = _ from runeP_err (dN_4x _ _ _ _ _ ⟨h0, h0b⟩ (by omega)))
  have u0 := hu i
  have u1 := hu (i + 1)
  have u2 := hu (i + 2)
  have u3 := hu (i + 3)
  clear hu
  have t1 : ((i : Int) + 1).toNat = i + 1 := by omega
  have z1 : (0 : Int) ≤ (i : Int) + 1 := by omega
  have l1 : i + 1 < s.size := by omega
  have t2 : ((i : Int) + 2).toNat = i + 2 := by omega
  have z2 : (0 : Int) ≤ (i : Int) + 2 := by omega
  have l2 : i + 2 < s.size := by omega
  have t3 : ((i : Int) + 3).toNat = i + 3 := by omega
  have z3 : (0 : Int) ≤ (i : Int) + 3 := by omega
  have l3 : i + 3 < s.size := by omega
  go_enter Tryd.func73, Tryd.ntmps73
  go_wp2
  go_rounds 4
  go_ret2
  exact ⟨by rw [HR.out]; rfl, rfl⟩

set_option maxHeartbeats 3200000 in
set_option maxRecDepth 100000 in
theorem rn_4f (s : ByteArray) (i : Nat) (w : World) (hs : s.size ≤ 1100000) (hi : i < s.size) (B : Nat → Nat) (hB : ∀ (n : Nat) (h : n < s.size), (s[n]'h).toNat = B n) (hu : ∀ n, B n < 256) (h0 : 240 ≤ B i) (h0b : B i < 248) (hn : i + 4 ≤ s.size) (c1 : 128 ≤ B (i + 1)) (d1 : B (i + 1) < 192) (c2 : 128 ≤ B (i + 2)) (d2 : B (i + 2) < 192) (c3 : 192 ≤ B (i + 3)) :
    Calls Tryd.prog 73 #[.string s, .int .i64 (i : Int)] w fun e w' => e = .returned (.tuple #[.int .i64 ((decB s B i).1 : Nat), .int .i64 ((decB s B i).2 : Nat)]) ∧ w = w' := by
  have HR := Lib.hid (show decB s B i = _ from runeP_err (dN_4x _ _ _ _ _ ⟨h0, h0b⟩ (by omega)))
  have u0 := hu i
  have u1 := hu (i + 1)
  have u2 := hu (i + 2)
  have u3 := hu (i + 3)
  clear hu
  have t1 : ((i : Int) + 1).toNat = i + 1 := by omega
  have z1 : (0 : Int) ≤ (i : Int) + 1 := by omega
  have l1 : i + 1 < s.size := by omega
  have t2 : ((i : Int) + 2).toNat = i + 2 := by omega
  have z2 : (0 : Int) ≤ (i : Int) + 2 := by omega
  have l2 : i + 2 < s.size := by omega
  have t3 : ((i : Int) + 3).toNat = i + 3 := by omega
  have z3 : (0 : Int) ≤ (i : Int) + 3 := by omega
  have l3 : i + 3 < s.size := by omega
  go_enter Tryd.func73, Tryd.ntmps73
  go_wp2
  go_rounds 4
  go_ret2
  exact ⟨by rw [HR.out]; rfl, rfl⟩

set_option maxHeartbeats 3200000 in
set_option maxRecDepth 100000 in
theorem rn_4l (s : ByteArray) (i : Nat) (w : World) (hs : s.size ≤ 1100000) (hi : i < s.size) (B : Nat → Nat) (hB : ∀ (n : Nat) (h : n < s.size), (s[n]'h).toNat = B n) (hu : ∀ n, B n < 256) (h0 : 240 ≤ B i) (h0b : B i < 248) (hn : i + 4 ≤ s.size) (c1 : 128 ≤ B (i + 1)) (d1 : B (i + 1) < 192) (c2 : 128 ≤ B (i + 2)) (d2 : B (i + 2) < 192) (c3 : 128 ≤ B (i + 3)) (d3 : B (i + 3) < 192) (hv : B i * 262144 + B (i + 1) * 4096 + B (i + 2) * 64 + B (i + 3) < 63512704) :
    Calls Tryd.prog 73 #[.string s, .int .i64 (i : Int)] w fun e w' => e = .returned (.tuple #[.int .i64 ((decB s B i).1 : Nat), .int .i64 ((decB s B i).2 : Nat)]) ∧ w = w' := by
  have HR := Lib.hid (show decB s B i = _ from runeP_err (dN_4x _ _ _ _ _ ⟨h0, h0b⟩ (by omega)))
  have u0 := hu i
  have u1 := hu (i + 1)
  have u2 := hu (i + 2)
  have u3 := hu (i + 3)
  clear hu
  have t1 : ((i : Int) + 1).toNat = i + 1 := by omega
  have z1 : (0 : Int) ≤ (i : Int) + 1 := by omega
  have l1 : i + 1 < s.size := by omega
  have t2 : ((i : Int) + 2).toNat = i + 2 := by omega
  have z2 : (0 : Int) ≤ (i : Int) + 2 := by omega
  have l2 : i + 2 < s.size := by omega
  have t3 : ((i : Int) + 3).toNat = i + 3 := by omega
  have z3 : (0 : Int) ≤ (i : Int) + 3 := by omega
  have l3 : i + 3 < s.size := by omega
  go_enter Tryd.func73, Tryd.ntmps73
  go_wp2
  go_rounds 5
  go_ret2
  exact ⟨by rw [HR.out]; rfl, rfl⟩

set_option maxHeartbeats 3200000 in
set_option maxRecDepth 100000 in
theorem rn_4m (s : ByteArray) (i : Nat) (w : World) (hs : s.size ≤ 1100000) (hi : i < s.size) (B : Nat → Nat) (hB : ∀ (n : Nat) (h : n < s.size), (s[n]'h).toNat = B n) (hu : ∀ n, B n < 256) (h0 : 240 ≤ B i) (h0b : B i < 248) (hn : i + 4 ≤ s.size) (c1 : 128 ≤ B (i + 1)) (d1 : B (i + 1) < 192) (c2 : 128 ≤ B (i + 2)) (d2 : B (i + 2) < 192) (c3 : 128 ≤ B (i + 3)) (d3 : B (i + 3) < 192) (hv : 64561279 < B i * 262144 + B (i + 1) * 4096 + B (i + 2) * 64 + B (i + 3)) :
    Calls Tryd.prog 73 #[.string s, .int .i64 (i : Int)] w fun e w' => e = .returned (.tuple #[.int .i64 ((decB s B i).1 : Nat), .int .i64 ((decB s B i).2 : Nat)]) ∧ w = w' := by
  have HR := Lib.hid (show decB s B i = _ from runeP_err (dN_4x _ _ _ _ _ ⟨h0, h0b⟩ (by omega)))
  have u0 := hu i
  have u1 := hu (i + 1)
  have u2 := hu (i + 2)
  have u3 := hu (i + 3)
  clear hu
  have t1 : ((i : Int) + 1).toNat = i + 1 := by omega
  have z1 : (0 : Int) ≤ (i : Int) + 1 := by omega
  have l1 : i + 1 < s.size := by omega
  have t2 : ((i : Int) + 2).toNat = i + 2 := by omega
  have z2 : (0 : Int) ≤ (i : Int) + 2 := by omega
  have l2 : i + 2 < s.size := by omega
  have t3 : ((i : Int) + 3).toNat = i + 3 := by omega
  have z3 : (0 : Int) ≤ (i : Int) + 3 := by omega
  have l3 : i + 3 < s.size := by omega
  go_enter Tryd.func73, Tryd.ntmps73
  go_wp2
  go_rounds 5
  go_ret2
  exact ⟨by rw [HR.out]; rfl, rfl⟩

set_option maxHeartbeats 3200000 in
set_option maxRecDepth 100000 in
theorem rn_4 (s : ByteArray) (i : Nat) (w : World) (hs : s.size ≤ 1100000) (hi : i < s.size) (B : Nat → Nat) (hB : ∀ (n : Nat) (h : n < s.size), (s[n]'h).toNat = B n) (hu : ∀ n, B n < 256) (h0 : 240 ≤ B i) (h0b : B i < 248) (hn : i + 4 ≤ s.size) (c1 : 128 ≤ B (i + 1)) (d1 : B (i + 1) < 192) (c2 : 128 ≤ B (i + 2)) (d2 : B (i + 2) < 192) (c3 : 128 ≤ B (i + 3)) (d3 : B (i + 3) < 192) (m1 : 63512704 ≤ B i * 262144 + B (i + 1) * 4096 + B (i + 2) * 64 + B (i + 3)) (m2 : B i * 262144 + B (i + 1) * 4096 + B (i + 2) * 64 + B (i + 3) ≤ 64561279) (v : Nat) (hv : v + 63447168 = B i * 262144 + B (i + 1) * 4096 + B (i + 2) * 64 + B (i + 3)) :
    Calls Tryd.prog 73 #[.string s, .int .i64 (i : Int)] w fun e w' => e = .returned (.tuple #[.int .i64 ((decB s B i).1 : Nat), .int .i64 ((decB s B i).2 : Nat)]) ∧ w = w' := by
  have HR := Lib.hid (show decB s B i = _ from runeP_wide (dN_4 _ _ _ _ _ v ⟨h0, h0b⟩ (by omega) hv (by omega)) (by omega))
  have u0 := hu i
  have u1 := hu (i + 1)
  have u2 := hu (i + 2)
  have u3 := hu (i + 3)
  clear hu
  have HV := Lib.hid hv; clear hv
  have t1 : ((i : Int) + 1).toNat = i + 1 := by omega
  have z1 : (0 : Int) ≤ (i : Int) + 1 := by omega
  have l1 : i + 1 < s.size := by omega
  have t2 : ((i : Int) + 2).toNat = i + 2 := by omega
  have z2 : (0 : Int) ≤ (i : Int) + 2 := by omega
  have l2 : i + 2 < s.size := by omega
  have t3 : ((i : Int) + 3).toNat = i + 3 := by omega
  have z3 : (0 : Int) ≤ (i : Int) + 3 := by omega
  have l3 : i + 3 < s.size := by omega
  go_enter Tryd.func73, Tryd.ntmps73
  go_wp2
  go_rounds 5
  go_ret2
  refine ⟨?_, rfl⟩
  rw [HR.out]
  show Ending.returned (Value.tuple #[Value.int IntKind.i64 ((((((B i : Int) - 240) * 64 + (B (i + 1) : Int) - 128)) * 64 + (B (i + 2) : Int) - 128) * 64 + (B (i + 3) : Int) - 128), _]) = _
  have hv := HV.out
  rw [show ((((((B i : Int) - 240) * 64 + (B (i + 1) : Int) - 128)) * 64 + (B (i + 2) : Int) - 128) * 64 + (B (i + 3) : Int) - 128) = ((v : Nat) : Int) from by clear t1; omega]
  rfl

theorem rune_D (s : ByteArray) (i : Nat) (w : World) (hs : s.size ≤ 1100000) (hi : i < s.size) (B : Nat → Nat) (hB : ∀ (n : Nat) (h : n < s.size), (s[n]'h).toNat = B n) (hu : ∀ n, B n < 256) (h0 : 240 ≤ B i) (h0b : B i < 248) :
    Calls Tryd.prog 73 #[.string s, .int .i64 (i : Int)] w fun e w' => e = .returned (.tuple #[.int .i64 ((decB s B i).1 : Nat), .int .i64 ((decB s B i).2 : Nat)]) ∧ w = w' := by
  by_cases h4 : s.size < i + 4
  · exact rn_4s s i w hs hi B hB hu h0 h0b h4
  by_cases h5 : B (i + 1) < 128
  · exact rn_4a s i w hs hi B hB hu h0 h0b (by omega) h5
  by_cases h6 : 192 ≤ B (i + 1)
  · exact rn_4b s i w hs hi B hB hu h0 h0b (by omega) h6
  by_cases h7 : B (i + 2) < 128
  · exact rn_4c s i w hs hi B hB hu h0 h0b (by omega) (by omega) (by omega) h7
  by_cases h8 : 192 ≤ B (i + 2)
  · exact rn_4d s i w hs hi B hB hu h0 h0b (by omega) (by omega) (by omega) h8
  by_cases h9 : B (i + 3) < 128
  · exact rn_4e s i w hs hi B hB hu h0 h0b (by omega) (by omega) (by omega) (by omega) (by omega) h9
  by_cases h10 : 192 ≤ B (i + 3)
  · exact rn_4f s i w hs hi B hB hu h0 h0b (by omega) (by omega) (by omega) (by omega) (by omega) h10
  by_cases h11 : B i * 262144 + B (i + 1) * 4096 + B (i + 2) * 64 + B (i + 3) < 63512704
  · exact rn_4l s i w hs hi B hB hu h0 h0b (by omega) (by omega) (by omega) (by omega) (by omega) (by omega) (by omega) h11
  by_cases h12 : 64561279 < B i * 262144 + B (i + 1) * 4096 + B (i + 2) * 64 + B (i + 3)
  · exact rn_4m s i w hs hi B hB hu h0 h0b (by omega) (by omega) (by omega) (by omega) (by omega) (by omega) (by omega) h12
  · exact rn_4 s i w hs hi B hB hu h0 h0b (by omega) (by omega) (by omega) (by omega) (by omega) (by omega) (by omega) (by omega) (by omega) (B i * 262144 + B (i + 1) * 4096 + B (i + 2) * 64 + B (i + 3) - 63447168) (by omega)
/-! The document's Rune at every place, and All: the runes of a text, and whether all are right. -/
open Go.RowKit Go.Shelf Go.Lib
set_option linter.unusedVariables false

theorem rune_any (s : ByteArray) (i : Nat) (w : World) (hs : s.size ≤ 1100000) (hi : i < s.size) :
    Calls Tryd.prog 73 #[.string s, .int .i64 (i : Int)] w fun e w' => e = .returned (.tuple #[.int .i64 ((runeP (Utf8.decode s i)).1 : Nat), .int .i64 ((runeP (Utf8.decode s i)).2 : Nat)]) ∧ w = w' := by
  obtain ⟨B, hB⟩ : ∃ B : Nat → Nat, B = fun n => (s.get! n).toNat := ⟨_, rfl⟩
  have e : decB s B i = runeP (Utf8.decode s i) := by rw [decode_at]; subst hB; rfl
  have h1 : ∀ (n : Nat) (h : n < s.size), (s[n]'h).toNat = B n := fun n h => by subst hB; rw [← Utf8W.get!_of_lt s n h]
  have h2 : ∀ n, B n < 256 := fun n => by subst hB; exact UInt8.toNat_lt _
  rw [← e]
  clear hB e
  by_cases a : B i < 224 ∨ 248 ≤ B i
  · exact rune_A s i w hs hi B h1 h2 a
  by_cases b : B i < 240
  · exact rune_C s i w hs hi B h1 h2 (by omega) b
  · exact rune_D s i w hs hi B h1 h2 (by omega) (by omega)

def runeV (p : Nat × Nat) : Int := ((runeP p).1 : Nat)
def allI (l : List UInt8) : List Int := (dec l).map runeV
theorem bad_width {p : Nat × Nat} (h : bad p = true) : p.2 = 1 := by simp [bad] at h; exact h.2
theorem runeP_yes {p : Nat × Nat} (h : bad p = true) : runeP p = (0, 0) := by simp [runeP, h]
theorem runeP_no {p : Nat × Nat} (h : bad p = false) : runeP p = p := by simp [runeP, h]
theorem valid_at {s : ByteArray} {pos : Nat} (h : pos < s.size) : validD ((lst s).drop pos) = (!bad (Utf8.decode s pos) && validD ((lst s).drop (pos + (Utf8.decode s pos).2))) := by
  rw [valid_dec _ _ (Nat.le_refl _), valid_dec _ _ (Nat.le_refl _), dec_at h, List.all_cons]
theorem cell_new (w : World) (v : Value) (t : TypeId) : (w.alloc (.cells #[v] t)).cell? ⟨w.heap.size, 0, none⟩ = some v := by
  rw [cell_of_row (w.alloc (.cells #[v] t)) w.heap.size 0 #[v] t (0, 0) (by show (w.heap.push (Obj.cells #[v] t))[w.heap.size]? = _; simp)]
  rfl

set_option maxHeartbeats 3200000 in
theorem all_any (s : ByteArray) (w : World) (hs : s.size ≤ 1100000) :
    Calls Tryd.prog 56 #[.string s] w fun e w' => (∃ A c, e = .returned (.tuple #[.slice A (dec (lst s)).length c, .bool (validD (lst s))]) ∧ Ints w' A (allI (lst s))) ∧ Below w.heap.size w w' := by
  go_enter Tryd.func56, Tryd.ntmps56
  go_wp2
  go_loopw [4, 5, 6] (fun v o i wr => ∃ (xs : List Int) (ok : Bool) (k : Nat), Hid (OwnInts wr w.heap.size v xs) ∧ o = .bool ok ∧ i = .int .i64 (k : Int) ∧ k ≤ s.size ∧ xs.length ≤ k ∧ Below w.heap.size w wr ∧ Hid (xs ++ allI ((lst s).drop k) = allI (lst s)) ∧ Hid ((ok && validD ((lst s).drop k)) = validD (lst s))) (fun _ _ i _ => s.size - (intOf i).toNat)
  case atStart => exact ⟨[], true, 0, Lib.hid (OwnInts.nil _ _), rfl, rfl, by omega, by simp, Below.refl _ _, Lib.hid rfl, Lib.hid (by simp)⟩
  case round =>
    obtain ⟨xs, ok, k, hown, rfl, rfl, hk, hx, hbw, hi, hv⟩ := hrel
    by_cases hlt : k < s.size
    · have cR := rune_any s k wr hs hlt
      have hd := dec_width hlt
      have hi2 := hi.out
      have hv2 := hv.out
      rw [allI, dec_at hlt, List.map_cons] at hi2
      rw [valid_at hlt] at hv2
      have hsz := hbw.size
      cases hb : bad (Utf8.decode s k)
      · rw [runeP_no hb] at cR
        have hn0 : ((((Utf8.decode s k).2 : Nat) : Int) == 0) = false := by rw [beq_eq_false_iff_ne]; omega
        rw [hb] at hv2
        have HI := Lib.hid (show (xs ++ [((Utf8.decode s k).1 : Int)]) ++ allI ((lst s).drop (k + (Utf8.decode s k).2)) = allI (lst s) from by rw [← hi2, runeV, runeP_no hb]; simp [allI])
        have HV := Lib.hid (show (ok && validD ((lst s).drop (k + (Utf8.decode s k).2))) = validD (lst s) from by simpa using hv2)
        clear hi2 hv2 hb
        generalize Utf8.decode s k = dd at cR hd HI HV hn0
        obtain ⟨r, wd⟩ := dd
        simp only at cR hd HI HV hn0
        go_wp2_with (first | (go_at_call 73; refine cR.mono ?_; rintro e w' ⟨rfl, rfl⟩) | (at_builtin; refine wpList_appi rfl (.tmp 21) (.tmp 23) rfl w.heap.size _ xs rfl (hown.out.alloc _) wr.heap.size (r : Int) rfl (cell_new _ _ _) (by omega) (by simp; omega) ?_; intro v' w2 hown2 hb2))
        go_roundw
        case rel => exact ⟨xs ++ [(r : Int)], ok, k + wd, Lib.hid hown2, rfl, by go_num, by omega, by simp; omega, (hbw.alloc hsz _).trans hb2, HI, HV⟩
        case measure => simp [intOf]; omega
      · rw [runeP_yes hb] at cR
        rw [hb] at hv2
        have hw1 := bad_width hb
        rw [hw1] at hi2 hv2
        have HI := Lib.hid (show (xs ++ [(0 : Int)]) ++ allI ((lst s).drop (k + 1)) = allI (lst s) from by rw [← hi2, runeV, runeP_yes hb]; simp [allI])
        have HV := Lib.hid (show (false && validD ((lst s).drop (k + 1))) = validD (lst s) from by simpa using hv2)
        clear hi2 hv2 hb hw1 hd
        go_wp2_with (first | (go_at_call 73; refine cR.mono ?_; rintro e w' ⟨rfl, rfl⟩) | (at_builtin; refine wpList_appi rfl (.tmp 21) (.tmp 23) rfl w.heap.size _ xs rfl (hown.out.alloc _) wr.heap.size (0 : Int) rfl (cell_new _ _ _) (by omega) (by simp; omega) ?_; intro v' w2 hown2 hb2))
        go_roundw
        case rel => exact ⟨xs ++ [(0 : Int)], false, k + 1, Lib.hid hown2, rfl, by go_num, by omega, by simp; omega, (hbw.alloc hsz _).trans hb2, HI, HV⟩
        case measure => simp [intOf]; omega
    · have hi2 := hi.out
      have hv2 := hv.out
      rw [drop_end hlt] at hi2 hv2
      have hx2 : xs = allI (lst s) := by rw [← hi2]; simp [allI, dec_nil]
      have ho2 : ok = validD (lst s) := by rw [← hv2]; simp [validD_nil]
      have hl2 : xs.length = (dec (lst s)).length := by rw [hx2, allI, List.length_map]
      obtain ⟨A, c, hv3, hI3⟩ := hown.out.ints
      have HX := Lib.hid hx2; have HO := Lib.hid ho2; have HL := Lib.hid hl2; have HV := Lib.hid hv3
      clear hx2 ho2 hl2 hi2 hv2 hv3
      go_wp2
      go_ret2
      refine ⟨⟨A, c, ?_, by rw [← HX.out]; exact hI3⟩, hbw⟩
      rw [← HO.out, ← HL.out, ← HV.out]
      rfl

end Go.Proofs.YtkicanegjkemoaaDoor.Txt

