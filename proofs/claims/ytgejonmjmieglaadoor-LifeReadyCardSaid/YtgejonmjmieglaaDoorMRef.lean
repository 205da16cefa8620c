/- Layer Txt over, for a seat that needs several layers: TxtRune, TxtRuneA, TxtRuneC, TxtRuneD, TxtAll.
   Layer Txt over, for a seat that needs several layers: TxtRName, TxtLines, TxtWords.
   Layer Txt over, for a seat that needs several layers: TxtRLines, TxtRWords, TxtJoin. -/
import Derived.Test.YtgejonmjmieglaaDoorMTxt
import Derived.Handy
import Derived.WalkMore
namespace Go.Proofs.YtgejonmjmieglaaDoor.Txt
set_option maxRecDepth 100000
/-! The document's Rune: one step of the decoder, as numbers. -/
open Go.RowKit Go.Shelf Go.Lib
set_option linter.unusedVariables false

def runeP (p : Nat × Nat) : Nat × Nat := if bad p then (0, 0) else p
def decB (s : ByteArray) (B : Nat → Nat) (i : Nat) : Nat × Nat := runeP (decodeN (s.size - i) (B i) (B (i + 1)) (B (i + 2)) (B (i + 3)))
theorem runeP_err {p : Nat × Nat} (h : p = (65533, 1)) : runeP p = (0, 0) := by rw [h]; rfl
theorem runeP_wide {p : Nat × Nat} {v k : Nat} (h : p = (v, k)) (hk : k ≠ 1) : runeP p = (v, k) := by rw [h]; simp [runeP, bad, hk]
theorem runeP_one {p : Nat × Nat} {v : Nat} (h : p = (v, 1)) (hv : v ≠ 65533) : runeP p = (v, 1) := by rw [h]; simp [runeP, bad, hv]
set_option maxHeartbeats 4000000 in
theorem dN_0 (n b0 b1 b2 b3 : Nat) (h : (128 ≤ b0 ∧ b0 < 192) ∨ 248 ≤ b0) : decodeN n b0 b1 b2 b3 = (65533, 1) := by
  unfold decodeN
  repeat' split
  all_goals first | rfl | (exfalso; omega)
set_option maxHeartbeats 4000000 in
theorem dN_2x (n b0 b1 b2 b3 : Nat) (h0 : 192 ≤ b0 ∧ b0 < 224) (h : n < 2 ∨ b1 < 128 ∨ 192 ≤ b1 ∨ b0 * 64 + b1 < 12544) : decodeN n b0 b1 b2 b3 = (65533, 1) := by
  unfold decodeN
  repeat' split
  all_goals first | rfl | (exfalso; omega)
set_option maxHeartbeats 4000000 in
theorem dN_2 (n b0 b1 b2 b3 v : Nat) (h0 : 192 ≤ b0 ∧ b0 < 224) (h : 2 ≤ n ∧ 128 ≤ b1 ∧ b1 < 192 ∧ 12544 ≤ b0 * 64 + b1) (hv : v + 12416 = b0 * 64 + b1) : decodeN n b0 b1 b2 b3 = (v, 2) := by
  unfold decodeN
  repeat' split
  all_goals first | (exfalso; omega) | (apply Prod.ext <;> simp only <;> omega)
set_option maxHeartbeats 4000000 in
theorem dN_3x (n b0 b1 b2 b3 : Nat) (h0 : 224 ≤ b0 ∧ b0 < 240) (h : n < 3 ∨ b1 < 128 ∨ 192 ≤ b1 ∨ b2 < 128 ∨ 192 ≤ b2 ∨ b0 * 4096 + b1 * 64 + b2 < 927872 ∨ (981120 ≤ b0 * 4096 + b1 * 64 + b2 ∧ b0 * 4096 + b1 * 64 + b2 < 983168)) : decodeN n b0 b1 b2 b3 = (65533, 1) := by
  unfold decodeN
  repeat' split
  all_goals first | rfl | (exfalso; omega)
set_option maxHeartbeats 4000000 in
theorem dN_3 (n b0 b1 b2 b3 v : Nat) (h0 : 224 ≤ b0 ∧ b0 < 240) (h : 3 ≤ n ∧ 128 ≤ b1 ∧ b1 < 192 ∧ 128 ≤ b2 ∧ b2 < 192) (hv : v + 925824 = b0 * 4096 + b1 * 64 + b2) (hr : (2048 ≤ v ∧ v < 55296) ∨ 57344 ≤ v) : decodeN n b0 b1 b2 b3 = (v, 3) := by
  unfold decodeN
  repeat' split
  all_goals first | (exfalso; omega) | (apply Prod.ext <;> simp only <;> omega)
set_option maxHeartbeats 4000000 in
theorem dN_4x (n b0 b1 b2 b3 : Nat) (h0 : 240 ≤ b0 ∧ b0 < 248) (h : n < 4 ∨ b1 < 128 ∨ 192 ≤ b1 ∨ b2 < 128 ∨ 192 ≤ b2 ∨ b3 < 128 ∨ 192 ≤ b3 ∨ b0 * 262144 + b1 * 4096 + b2 * 64 + b3 < 63512704 ∨ 64561279 < b0 * 262144 + b1 * 4096 + b2 * 64 + b3) : decodeN n b0 b1 b2 b3 = (65533, 1) := by
  unfold decodeN
  repeat' split
  all_goals first | rfl | (exfalso; omega)
set_option maxHeartbeats 4000000 in
theorem dN_4 (n b0 b1 b2 b3 v : Nat) (h0 : 240 ≤ b0 ∧ b0 < 248) (h : 4 ≤ n ∧ 128 ≤ b1 ∧ b1 < 192 ∧ 128 ≤ b2 ∧ b2 < 192 ∧ 128 ≤ b3 ∧ b3 < 192) (hv : v + 63447168 = b0 * 262144 + b1 * 4096 + b2 * 64 + b3) (hr : 65536 ≤ v ∧ v ≤ 1114111) : decodeN n b0 b1 b2 b3 = (v, 4) := by
  unfold decodeN
  repeat' split
  all_goals first | (exfalso; omega) | (apply Prod.ext <;> simp only <;> omega)
/-! The document's Rune: one byte, two bytes. -/
open Go.RowKit Go.Shelf Go.Lib
set_option linter.unusedVariables false

set_option maxHeartbeats 3200000 in
set_option maxRecDepth 100000 in
theorem rn_1 (s : ByteArray) (i : Nat) (w : World) (hs : s.size ≤ 1100000) (hi : i < s.size) (B : Nat → Nat) (hB : ∀ (n : Nat) (h : n < s.size), (s[n]'h).toNat = B n) (hu : ∀ n, B n < 256) (h0 : B i < 128) :
    Calls Tryd.prog 93 #[.string s, .int .i64 (i : Int)] w fun e w' => e = .returned (.tuple #[.int .i64 ((decB s B i).1 : Nat), .int .i64 ((decB s B i).2 : Nat)]) ∧ w = w' := by
  have HR := Lib.hid (show decB s B i = _ from runeP_one (decodeN_ascii _ _ _ _ _ h0) (by omega))
  have u0 := hu i
  have u1 := hu (i + 1)
  have u2 := hu (i + 2)
  have u3 := hu (i + 3)
  clear hu
  go_enter Tryd.func93, Tryd.ntmps93
  go_wp2
  go_rounds 1
  go_ret2
  exact ⟨by rw [HR.out]; rfl, rfl⟩

set_option maxHeartbeats 3200000 in
set_option maxRecDepth 100000 in
theorem rn_0a (s : ByteArray) (i : Nat) (w : World) (hs : s.size ≤ 1100000) (hi : i < s.size) (B : Nat → Nat) (hB : ∀ (n : Nat) (h : n < s.size), (s[n]'h).toNat = B n) (hu : ∀ n, B n < 256) (h0 : 128 ≤ B i) (h1 : B i < 192) :
    Calls Tryd.prog 93 #[.string s, .int .i64 (i : Int)] w fun e w' => e = .returned (.tuple #[.int .i64 ((decB s B i).1 : Nat), .int .i64 ((decB s B i).2 : Nat)]) ∧ w = w' := by
  have HR := Lib.hid (show decB s B i = _ from runeP_err (dN_0 _ _ _ _ _ (Or.inl ⟨h0, h1⟩)))
  have u0 := hu i
  have u1 := hu (i + 1)
  have u2 := hu (i + 2)
  have u3 := hu (i + 3)
  clear hu
  go_enter Tryd.func93, Tryd.ntmps93
  go_wp2
  go_ret2
  exact ⟨by rw [HR.out]; rfl, rfl⟩

set_option maxHeartbeats 3200000 in
set_option maxRecDepth 100000 in
theorem rn_0b (s : ByteArray) (i : Nat) (w : World) (hs : s.size ≤ 1100000) (hi : i < s.size) (B : Nat → Nat) (hB : ∀ (n : Nat) (h : n < s.size), (s[n]'h).toNat = B n) (hu : ∀ n, B n < 256) (h0 : 248 ≤ B i) :
    Calls Tryd.prog 93 #[.string s, .int .i64 (i : Int)] w fun e w' => e = .returned (.tuple #[.int .i64 ((decB s B i).1 : Nat), .int .i64 ((decB s B i).2 : Nat)]) ∧ w = w' := by
  have HR := Lib.hid (show decB s B i = _ from runeP_err (dN_0 _ _ _ _ _ (Or.inr h0)))
  have u0 := hu i
  have u1 := hu (i + 1)
  have u2 := hu (i + 2)
  have u3 := hu (i + 3)
  clear hu
  go_enter Tryd.func93, Tryd.ntmps93
  go_wp2
  go_ret2
  exact ⟨by rw [HR.out]; rfl, rfl⟩

set_option maxHeartbeats 3200000 in
set_option maxRecDepth 100000 in
theorem rn_2s (s : ByteArray) (i : Nat) (w : World) (hs : s.size ≤ 1100000) (hi : i < s.size) (B : Nat → Nat) (hB : ∀ (n : Nat) (h : n < s.size), (s[n]'h).toNat = B n) (hu : ∀ n, B n < 256) (h0 : 192 ≤ B i) (h0b : B i < 224) (hn : s.size < i + 2) :
    Calls Tryd.prog 93 #[.string s, .int .i64 (i : Int)] w fun e w' => e = .returned (.tuple #[.int .i64 ((decB s B i).1 : Nat), .int .i64 ((decB s B i).2 : Nat)]) ∧ w = w' := by
  have HR := Lib.hid (show decB s B i = _ from runeP_err (dN_2x _ _ _ _ _ ⟨h0, h0b⟩ (by omega)))
  have u0 := hu i
  have u1 := hu (i + 1)
  have u2 := hu (i + 2)
  have u3 := hu (i + 3)
  clear hu
  go_enter Tryd.func93, Tryd.ntmps93
  go_wp2
  go_ret2
  exact ⟨by rw [HR.out]; rfl, rfl⟩

set_option maxHeartbeats 3200000 in
set_option maxRecDepth 100000 in
theorem rn_2a (s : ByteArray) (i : Nat) (w : World) (hs : s.size ≤ 1100000) (hi : i < s.size) (B : Nat → Nat) (hB : ∀ (n : Nat) (h : n < s.size), (s[n]'h).toNat = B n) (hu : ∀ n, B n < 256) (h0 : 192 ≤ B i) (h0b : B i < 224) (hn : i + 2 ≤ s.size) (c1 : B (i + 1) < 128) :
    Calls Tryd.prog 93 #[.string s, .int .i64 (i : Int)] w fun e w' => e = .returned (.tuple #[.int .i64 ((decB s B i).1 : Nat), .int .i64 ((decB s B i).2 : Nat)]) ∧ w = w' := by
  have HR := Lib.hid (show decB s B i = _ from runeP_err (dN_2x _ _ _ _ _ ⟨h0, h0b⟩ (by omega)))
  have u0 := hu i
  have u1 := hu (i + 1)
  have u2 := hu (i + 2)
  have u3 := hu (i + 3)
  clear hu
  have t1 : ((i : Int) + 1).toNat = i + 1 := by omega
  have z1 : (0 : Int) ≤ (i : Int) + 1 := by omega
  have l1 : i + 1 < s.size := by omega
  go_enter Tryd.func93, Tryd.ntmps93
  go_wp2
  go_rounds 2
  go_ret2
  exact ⟨by rw [HR.out]; rfl, rfl⟩

set_option maxHeartbeats 3200000 in
set_option maxRecDepth 100000 in
theorem rn_2b (s : ByteArray) (i : Nat) (w : World) (hs : s.size ≤ 1100000) (hi : i < s.size) (B : Nat → Nat) (hB : ∀ (n : Nat) (h : n < s.size), (s[n]'h).toNat = B n) (hu : ∀ n, B n < 256) (h0 : 192 ≤ B i) (h0b : B i < 224) (hn : i + 2 ≤ s.size) (c1 : 192 ≤ B (i + 1)) :
    Calls Tryd.prog 93 #[.string s, .int .i64 (i : Int)] w fun e w' => e = .returned (.tuple #[.int .i64 ((decB s B i).1 : Nat), .int .i64 ((decB s B i).2 : Nat)]) ∧ w = w' := by
  have HR := Lib.hid (show decB s B i = _ from runeP_err (dN_2x _ _ _ _ _ ⟨h0, h0b⟩ (by omega)))
  have u0 := hu i
  have u1 := hu (i + 1)
  have u2 := hu (i + 2)
  have u3 := hu (i + 3)
  clear hu
  have t1 : ((i : Int) + 1).toNat = i + 1 := by omega
  have z1 : (0 : Int) ≤ (i : Int) + 1 := by omega
  have l1 : i + 1 < s.size := by omega
  go_enter Tryd.func93, Tryd.ntmps93
  go_wp2
  go_rounds 2
  go_ret2
  exact ⟨by rw [HR.out]; rfl, rfl⟩

set_option maxHeartbeats 3200000 in
set_option maxRecDepth 100000 in
theorem rn_2l (s : ByteArray) (i : Nat) (w : World) (hs : s.size ≤ 1100000) (hi : i < s.size) (B : Nat → Nat) (hB : ∀ (n : Nat) (h : n < s.size), (s[n]'h).toNat = B n) (hu : ∀ n, B n < 256) (h0 : 192 ≤ B i) (h0b : B i < 224) (hn : i + 2 ≤ s.size) (c1 : 128 ≤ B (i + 1)) (d1 : B (i + 1) < 192) (hv : B i * 64 + B (i + 1) < 12544) :
    Calls Tryd.prog 93 #[.string s, .int .i64 (i : Int)] w fun e w' => e = .returned (.tuple #[.int .i64 ((decB s B i).1 : Nat), .int .i64 ((decB s B i).2 : Nat)]) ∧ w = w' := by
  have HR := Lib.hid (show decB s B i = _ from runeP_err (dN_2x _ _ _ _ _ ⟨h0, h0b⟩ (by omega)))
  have u0 := hu i
  have u1 := hu (i + 1)
  have u2 := hu (i + 2)
  have u3 := hu (i + 3)
  clear hu
  have t1 : ((i : Int) + 1).toNat = i + 1 := by omega
  have z1 : (0 : Int) ≤ (i : Int) + 1 := by omega
  have l1 : i + 1 < s.size := by omega
  go_enter Tryd.func93, Tryd.ntmps93
  go_wp2
  go_rounds 3
  go_ret2
  exact ⟨by rw [HR.out]; rfl, rfl⟩

set_option maxHeartbeats 3200000 in
set_option maxRecDepth 100000 in
theorem rn_2 (s : ByteArray) (i : Nat) (w : World) (hs : s.size ≤ 1100000) (hi : i < s.size) (B : Nat → Nat) (hB : ∀ (n : Nat) (h : n < s.size), (s[n]'h).toNat = B n) (hu : ∀ n, B n < 256) (h0 : 192 ≤ B i) (h0b : B i < 224) (hn : i + 2 ≤ s.size) (c1 : 128 ≤ B (i + 1)) (d1 : B (i + 1) < 192) (hl : 12544 ≤ B i * 64 + B (i + 1)) (v : Nat) (hv : v + 12416 = B i * 64 + B (i + 1)) :
    Calls Tryd.prog 93 #[.string s, .int .i64 (i : Int)] w fun e w' => e = .returned (.tuple #[.int .i64 ((decB s B i).1 : Nat), .int .i64 ((decB s B i).2 : Nat)]) ∧ w = w' := by
  have HR := Lib.hid (show decB s B i = _ from runeP_wide (dN_2 _ _ _ _ _ v ⟨h0, h0b⟩ (by omega) hv) (by omega))
  have u0 := hu i
  have u1 := hu (i + 1)
  have u2 := hu (i + 2)
  have u3 := hu (i + 3)
  clear hu
  have HV := Lib.hid hv; clear hv
  have t1 : ((i : Int) + 1).toNat = i + 1 := by omega
  have z1 : (0 : Int) ≤ (i : Int) + 1 := by omega
  have l1 : i + 1 < s.size := by omega
  go_enter Tryd.func93, Tryd.ntmps93
  go_wp2
  go_rounds 3
  go_ret2
  refine ⟨?_, rfl⟩
  rw [HR.out]
  show Ending.returned (Value.tuple #[Value.int IntKind.i64 (((B i : Int) - 192) * 64 + (B (i + 1) : Int) - 128), _]) = _
  have hv := HV.out
  rw [show (((B i : Int) - 192) * 64 + (B (i + 1) : Int) - 128) = ((v : Nat) : Int) from by clear t1; omega]
  rfl

theorem rune_A (s : ByteArray) (i : Nat) (w : World) (hs : s.size ≤ 1100000) (hi : i < s.size) (B : Nat → Nat) (hB : ∀ (n : Nat) (h : n < s.size), (s[n]'h).toNat = B n) (hu : ∀ n, B n < 256) (h : B i < 224 ∨ 248 ≤ B i) :
    Calls Tryd.prog 93 #[.string s, .int .i64 (i : Int)] w fun e w' => e = .returned (.tuple #[.int .i64 ((decB s B i).1 : Nat), .int .i64 ((decB s B i).2 : Nat)]) ∧ w = w' := by
  by_cases h1 : B i < 128
  · exact rn_1 s i w hs hi B hB hu h1
  by_cases h2 : 248 ≤ B i
  · exact rn_0b s i w hs hi B hB hu h2
  by_cases h3 : B i < 192
  · exact rn_0a s i w hs hi B hB hu (by omega) h3
  by_cases h4 : s.size < i + 2
  · exact rn_2s s i w hs hi B hB hu (by omega) (by omega) h4
  by_cases h5 : B (i + 1) < 128
  · exact rn_2a s i w hs hi B hB hu (by omega) (by omega) (by omega) h5
  by_cases h6 : 192 ≤ B (i + 1)
  · exact rn_2b s i w hs hi B hB hu (by omega) (by omega) (by omega) h6
  by_cases h7 : B i * 64 + B (i + 1) < 12544
  · exact rn_2l s i w hs hi B hB hu (by omega) (by omega) (by omega) (by omega) (by omega) h7
  · exact rn_2 s i w hs hi B hB hu (by omega) (by omega) (by omega) (by omega) (by omega) (by omega) (B i * 64 + B (i + 1) - 12416) (by omega)
/-! The document's Rune: three bytes. -/
open Go.RowKit Go.Shelf Go.Lib
set_option linter.unusedVariables false

set_option maxHeartbeats 3200000 in
set_option maxRecDepth 100000 in
theorem rn_3s (s : ByteArray) (i : Nat) (w : World) (hs : s.size ≤ 1100000) (hi : i < s.size) (B : Nat → Nat) (hB : ∀ (n : Nat) (h : n < s.size), (s[n]'h).toNat = B n) (hu : ∀ n, B n < 256) (h0 : 224 ≤ B i) (h0b : B i < 240) (hn : s.size < i + 3) :
    Calls Tryd.prog 93 #[.string s, .int .i64 (i : Int)] w fun e w' => e = .returned (.tuple #[.int .i64 ((decB s B i).1 : Nat), .int .i64 ((decB s B i).2 : Nat)]) ∧ w = w' := by
  have HR := Lib.hid (show decB s B i = _ from runeP_err (dN_3x _ _ _ _ _ ⟨h0, h0b⟩ (by omega)))
  have u0 := hu i
  have u1 := hu (i + 1)
  have u2 := hu (i + 2)
  have u3 := hu (i + 3)
  clear hu
  go_enter Tryd.func93, Tryd.ntmps93
  go_wp2
  go_ret2
  exact ⟨by rw [HR.out]; rfl, rfl⟩

set_option maxHeartbeats 3200000 in
set_option maxRecDepth 100000 in
theorem rn_3a (s : ByteArray) (i : Nat) (w : World) (hs : s.size ≤ 1100000) (hi : i < s.size) (B : Nat → Nat) (hB : ∀ (n : Nat) (h : n < s.size), (s[n]'h).toNat = B n) (hu : ∀ n, B n < 256) (h0 : 224 ≤ B i) (h0b : B i < 240) (hn : i + 3 ≤ s.size) (c1 : B (i + 1) < 128) :
    Calls Tryd.prog 93 #[.string s, .int .i64 (i : Int)] w fun e w' => e = .returned (.tuple #[.int .i64 ((decB s B i).1 : Nat), .int .i64 ((decB s B i).2 : Nat)]) ∧ w = w' := by
  have HR := Lib.hid (show decB s B i = _ from runeP_err (dN_3x _ _ _ _ _ ⟨h0, h0b⟩ (by omega)))
  have u0 := hu i
  have u1 := hu (i + 1)
  have u2 := hu (i + 2)
  have u3 := hu (i + 3)
  clear hu
  have t1 : ((i : Int) + 1).toNat = i + 1 := by omega
  have z1 : (0 : Int) ≤ (i : Int) + 1 := by omega
  have l1 : i + 1 < s.size := by omega
  go_enter Tryd.func93, Tryd.ntmps93
  go_wp2
  go_rounds 2
  go_ret2
  exact ⟨by rw [HR.out]; rfl, rfl⟩

set_option maxHeartbeats 3200000 in
set_option maxRecDepth 100000 in
theorem rn_3b (s : ByteArray) (i : Nat) (w : World) (hs : s.size ≤ 1100000) (hi : i < s.size) (B : Nat → Nat) (hB : ∀ (n : Nat) (h : n < s.size), (s[n]'h).toNat = B n) (hu : ∀ n, B n < 256) (h0 : 224 ≤ B i) (h0b : B i < 240) (hn : i + 3 ≤ s.size) (c1 : 192 ≤ B (i + 1)) :
    Calls Tryd.prog 93 #[.string s, .int .i64 (i : Int)] w fun e w' => e = .returned (.tuple #[.int .i64 ((decB s B i).1 : Nat), .int .i64 ((decB s B i).2 : Nat)]) ∧ w = w' := by
  have HR := Lib.hid (show decB s B i = _ from runeP_err (dN_3x _ _ _ _ _ ⟨h0, h0b⟩ (by omega)))
  have u0 := hu i
  have u1 := hu (i + 1)
  have u2 := hu (i + 2)
  have u3 := hu (i + 3)
  clear hu
  have t1 : ((i : Int) + 1).toNat = i + 1 := by omega
  have z1 : (0 : Int) ≤ (i : Int) + 1 := by omega
  have l1 : i + 1 < s.size := by omega
  go_enter Tryd.func93, Tryd.ntmps93
  go_wp2
  go_rounds 2
  go_ret2
  exact ⟨by rw [HR.out]; rfl, rfl⟩

set_option maxHeartbeats 3200000 in
set_option maxRecDepth 100000 in
theorem rn_3c (s : ByteArray) (i : Nat) (w : World) (hs : s.size ≤ 1100000) (hi : i < s.size) (B : Nat → Nat) (hB : ∀ (n : Nat) (h : n < s.size), (s[n]'h).toNat = B n) (hu : ∀ n, B n < 256) (h0 : 224 ≤ B i) (h0b : B i < 240) (hn : i + 3 ≤ s.size) (c1 : 128 ≤ B (i + 1)) (d1 : B (i + 1) < 192) (c2 : B (i + 2) < 128) :
    Calls Tryd.prog 93 #[.string s, .int .i64 (i : Int)] w fun e w' => e = .returned (.tuple #[.int .i64 ((decB s B i).1 : Nat), .int .i64 ((decB s B i).2 : Nat)]) ∧ w = w' := by
  have HR := Lib.hid (show decB s B i = _ from runeP_err (dN_3x _ _ _ _ _ ⟨h0, h0b⟩ (by omega)))
  have u0 := hu i
  have u1 := hu (i + 1)
  have u2 := hu (i + 2)
  have u3 := hu (i + 3)
  clear hu
  have t1 : ((i : Int) + 1).toNat = i + 1 := by omega
  have z1 : (0 : Int) ≤ (i : Int) + 1 := by omega
  have l1 : i + 1 < s.size := by omega
  have t2 : ((i : Int) + 2).toNat = i + 2 := by omega
  have z2 : (0 : Int) ≤ (i : Int) + 2 := by omega
  have l2 : i + 2 < s.size := by omega
  go_enter Tryd.func93, Tryd.ntmps93
  go_wp2
  go_rounds 3
  go_ret2
  exact ⟨by rw [HR.out]; rfl, rfl⟩

set_option maxHeartbeats 3200000 in
set_option maxRecDepth 100000 in
theorem rn_3d (s : ByteArray) (i : Nat) (w : World) (hs : s.size ≤ 1100000) (hi : i < s.size) (B : Nat → Nat) (hB : ∀ (n : Nat) (h : n < s.size), (s[n]'h).toNat = B n) (hu : ∀ n, B n < 256) (h0 : 224 ≤ B i) (h0b : B i < 240) (hn : i + 3 ≤ s.size) (c1 : 128 ≤ B (i + 1)) (d1 : B (i + 1) < 192) (c2 : 192 ≤ B (i + 2)) :
    Calls Tryd.prog 93 #[.string s, .int .i64 (i : Int)] w fun e w' => e = .returned (.tuple #[.int .i64 ((decB s B i).1 : Nat), .int .i64 ((decB s B i).2 : Nat)]) ∧ w = w' := by
  have HR := Lib.hid (show decB s B i = _ from runeP_err (dN_3x _ _ _ _ _ ⟨h0, h0b⟩ (by omega)))
  have u0 := hu i
  have u1 := hu (i + 1)
  have u2 := hu (i + 2)
  have u3 := hu (i + 3)
  clear hu
  have t1 : ((i : Int) + 1).toNat = i + 1 := by omega
  have z1 : (0 : Int) ≤ (i : Int) + 1 := by omega
  have l1 : i + 1 < s.size := by omega
  have t2 : ((i : Int) + 2).toNat = i + 2 := by omega
  have z2 : (0 : Int) ≤ (i : Int) + 2 := by omega
  have l2 : i + 2 < s.size := by omega
  go_enter Tryd.func93, Tryd.ntmps93
  go_wp2
  go_rounds 3
  go_ret2
  exact ⟨by rw [HR.out]; rfl, rfl⟩

set_option maxHeartbeats 3200000 in
set_option maxRecDepth 100000 in
theorem rn_3l (s : ByteArray) (i : Nat) (w : World) (hs : s.size ≤ 1100000) (hi : i < s.size) (B : Nat → Nat) (hB : ∀ (n : Nat) (h : n < s.size), (s[n]'h).toNat = B n) (hu : ∀ n, B n < 256) (h0 : 224 ≤ B i) (h0b : B i < 240) (hn : i + 3 ≤ s.size) (c1 : 128 ≤ B (i + 1)) (d1 : B (i + 1) < 192) (c2 : 128 ≤ B (i + 2)) (d2 : B (i + 2) < 192) (hv : B i * 4096 + B (i + 1) * 64 + B (i + 2) < 927872) :
    Calls Tryd.prog 93 #[.string s, .int .i64 (i : Int)] w fun e w' => e = .returned (.tuple #[.int .i64 ((decB s B i).1 : Nat), .int .i64 ((decB s B i).2 : Nat)]) ∧ w = w' := by
  have HR := Lib.hid (show decB s B i = _ from runeP_err (dN_3x _ _ _ _ _ ⟨h0, h0b⟩ (by omega)))
  have u0 := hu i
  have u1 := hu (i + 1)
  have u2 := hu (i + 2)
  have u3 := hu (i + 3)
  clear hu
  have t1 : ((i : Int) + 1).toNat = i + 1 := by omega
  have z1 : (0 : Int) ≤ (i : Int) + 1 := by omega
  have l1 : i + 1 < s.size := by omega
  have t2 : ((i : Int) + 2).toNat = i + 2 := by omega
  have z2 : (0 : Int) ≤ (i : Int) + 2 := by omega
  have l2 : i + 2 < s.size := by omega
  go_enter Tryd.func93, Tryd.ntmps93
  go_wp2
  go_rounds 4
  go_ret2
  exact ⟨by rw [HR.out]; rfl, rfl⟩

set_option maxHeartbeats 3200000 in
set_option maxRecDepth 100000 in
theorem rn_3m (s : ByteArray) (i : Nat) (w : World) (hs : s.size ≤ 1100000) (hi : i < s.size) (B : Nat → Nat) (hB : ∀ (n : Nat) (h : n < s.size), (s[n]'h).toNat = B n) (hu : ∀ n, B n < 256) (h0 : 224 ≤ B i) (h0b : B i < 240) (hn : i + 3 ≤ s.size) (c1 : 128 ≤ B (i + 1)) (d1 : B (i + 1) < 192) (c2 : 128 ≤ B (i + 2)) (d2 : B (i + 2) < 192) (hv : 981120 ≤ B i * 4096 + B (i + 1) * 64 + B (i + 2)) (hv2 : B i * 4096 + B (i + 1) * 64 + B (i + 2) < 983168) :
    Calls Tryd.prog 93 #[.string s, .int .i64 (i : Int)] w fun e w' => e = .returned (.tuple #[.int .i64 ((decB s B i).1 : Nat), .int .i64 ((decB s B i).2 : Nat)]) ∧ w = w' := by
  have HR := Lib.hid (show decB s B i = _ from runeP_err (dN_3x _ _ _ _ _ ⟨h0, h0b⟩ (by omega)))
  have u0 := hu i
  have u1 := hu (i + 1)
  have u2 := hu (i + 2)
  have u3 := hu (i + 3)
  clear hu
  have t1 : ((i : Int) + 1).toNat = i + 1 := by omega
  have z1 : (0 : Int) ≤ (i : Int) + 1 := by omega
  have l1 : i + 1 < s.size := by omega
  have t2 : ((i : Int) + 2).toNat = i + 2 := by omega
  have z2 : (0 : Int) ≤ (i : Int) + 2 := by omega
  have l2 : i + 2 < s.size := by omega
  go_enter Tryd.func93, Tryd.ntmps93
  go_wp2
  go_rounds 4
  go_ret2
  exact ⟨by rw [HR.out]; rfl, rfl⟩

set_option maxHeartbeats 3200000 in
set_option maxRecDepth 100000 in
theorem rn_3x (s : ByteArray) (i : Nat) (w : World) (hs : s.size ≤ 1100000) (hi : i < s.size) (B : Nat → Nat) (hB : ∀ (n : Nat) (h : n < s.size), (s[n]'h).toNat = B n) (hu : ∀ n, B n < 256) (h0 : 224 ≤ B i) (h0b : B i < 240) (hn : i + 3 ≤ s.size) (c1 : 128 ≤ B (i + 1)) (d1 : B (i + 1) < 192) (c2 : 128 ≤ B (i + 2)) (d2 : B (i + 2) < 192) (l1 : 927872 ≤ B i * 4096 + B (i + 1) * 64 + B (i + 2)) (l2 : B i * 4096 + B (i + 1) * 64 + B (i + 2) < 981120) (v : Nat) (hv : v + 925824 = B i * 4096 + B (i + 1) * 64 + B (i + 2)) :
    Calls Tryd.prog 93 #[.string s, .int .i64 (i : Int)] w fun e w' => e = .returned (.tuple #[.int .i64 ((decB s B i).1 : Nat), .int .i64 ((decB s B i).2 : Nat)]) ∧ w = w' := by
  have HR := Lib.hid (show decB s B i = _ from runeP_wide (dN_3 _ _ _ _ _ v ⟨h0, h0b⟩ (by omega) hv (by omega)) (by omega))
  have u0 := hu i
  have u1 := hu (i + 1)
  have u2 := hu (i + 2)
  have u3 := hu (i + 3)
  clear hu
  have HV := Lib.hid hv; clear hv
  have t1 : ((i : Int) + 1).toNat = i + 1 := by omega
  have z1 : (0 : Int) ≤ (i : Int) + 1 := by omega
  have k1 : i + 1 < s.size := by omega
  have t2 : ((i : Int) + 2).toNat = i + 2 := by omega
  have z2 : (0 : Int) ≤ (i : Int) + 2 := by omega
  have k2 : i + 2 < s.size := by omega
  go_enter Tryd.func93, Tryd.ntmps93
  go_wp2
  go_rounds 4
  go_ret2
  refine ⟨?_, rfl⟩
  rw [HR.out]
  show Ending.returned (Value.tuple #[Value.int IntKind.i64 (((((B i : Int) - 224) * 64 + (B (i + 1) : Int) - 128)) * 64 + (B (i + 2) : Int) - 128), _]) = _
  have hv := HV.out
  rw [show (((((B i : Int) - 224) * 64 + (B (i + 1) : Int) - 128)) * 64 + (B (i + 2) : Int) - 128) = ((v : Nat) : Int) from by clear t1; omega]
  rfl

set_option maxHeartbeats 3200000 in
set_option maxRecDepth 100000 in
theorem rn_3y (s : ByteArray) (i : Nat) (w : World) (hs : s.size ≤ 1100000) (hi : i < s.size) (B : Nat → Nat) (hB : ∀ (n : Nat) (h : n < s.size), (s[n]'h).toNat = B n) (hu : ∀ n, B n < 256) (h0 : 224 ≤ B i) (h0b : B i < 240) (hn : i + 3 ≤ s.size) (c1 : 128 ≤ B (i + 1)) (d1 : B (i + 1) < 192) (c2 : 128 ≤ B (i + 2)) (d2 : B (i + 2) < 192) (l1 : 983168 ≤ B i * 4096 + B (i + 1) * 64 + B (i + 2)) (v : Nat) (hv : v + 925824 = B i * 4096 + B (i + 1) * 64 + B (i + 2)) :
    Calls Tryd.prog 93 #[.string s, .int .i64 (i : Int)] w fun e w' => e = .returned (.tuple #[.int .i64 ((decB s B i).1 : Nat), .int .i64 ((decB s B i).2 : Nat)]) ∧ w = w' := by
  have HR := Lib.hid (show decB s B i = _ from runeP_wide (dN_3 _ _ _ _ _ v ⟨h0, h0b⟩ (by omega) hv (by omega)) (by omega))
  have u0 := hu i
  have u1 := hu (i + 1)
  have u2 := hu (i + 2)
  have u3 := hu (i + 3)
  clear hu
  have HV := Lib.hid hv; clear hv
  have t1 : ((i : Int) + 1).toNat = i + 1 := by omega
  have z1 : (0 : Int) ≤ (i : Int) + 1 := by omega
  have k1 : i + 1 < s.size := by omega
  have t2 : ((i : Int) + 2).toNat = i + 2 := by omega
  have z2 : (0 : Int) ≤ (i : Int) + 2 := by omega
  have l2 : i + 2 < s.size := by omega
  go_enter Tryd.func93, Tryd.ntmps93
  go_wp2
  go_rounds 4
  go_ret2
  refine ⟨?_, rfl⟩
  rw [HR.out]
  show Ending.returned (Value.tuple #[Value.int IntKind.i64 (((((B i : Int) - 224) * 64 + (B (i + 1) : Int) - 128)) * 64 + (B (i + 2) : Int) - 128), _]) = _
  have hv := HV.out
  rw [show (((((B i : Int) - 224) * 64 + (B (i + 1) : Int) - 128)) * 64 + (B (i + 2) : Int) - 128) = ((v : Nat) : Int) from by clear t1; omega]
  rfl

theorem rune_C (s : ByteArray) (i : Nat) (w : World) (hs : s.size ≤ 1100000) (hi : i < s.size) (B : Nat → Nat) (hB : ∀ (n : Nat) (h : n < s.size), (s[n]'h).toNat = B n) (hu : ∀ n, B n < 256) (h0 : 224 ≤ B i) (h0b : B i < 240) :
    Calls Tryd.prog 93 #[.string s, .int .i64 (i : Int)] w fun e w' => e = .returned (.tuple #[.int .i64 ((decB s B i).1 : Nat), .int .i64 ((decB s B i).2 : Nat)]) ∧ w = w' := by
  by_cases h4 : s.size < i + 3
  · exact rn_3s s i w hs hi B hB hu h0 h0b h4
  by_cases h5 : B (i + 1) < 128
  · exact rn_3a s i w hs hi B hB hu h0 h0b (by omega) h5
  by_cases h6 : 192 ≤ B (i + 1)
  · exact rn_3b s i w hs hi B hB hu h0 h0b (by omega) h6
  by_cases h7 : B (i + 2) < 128
  · exact rn_3c s i w hs hi B hB hu h0 h0b (by omega) (by omega) (by omega) h7
  by_cases h8 : 192 ≤ B (i + 2)
  · exact rn_3d s i w hs hi B hB hu h0 h0b (by omega) (by omega) (by omega) h8
  by_cases h9 : B i * 4096 + B (i + 1) * 64 + B (i + 2) < 927872
  · exact rn_3l s i w hs hi B hB hu h0 h0b (by omega) (by omega) (by omega) (by omega) (by omega) h9
  by_cases h10 : B i * 4096 + B (i + 1) * 64 + B (i + 2) < 981120
  · exact rn_3x s i w hs hi B hB hu h0 h0b (by omega) (by omega) (by omega) (by omega) (by omega) (by omega) h10 (B i * 4096 + B (i + 1) * 64 + B (i + 2) - 925824) (by omega)
  by_cases h11 : B i * 4096 + B (i + 1) * 64 + B (i + 2) < 983168
  · exact rn_3m s i w hs hi B hB hu h0 h0b (by omega) (by omega) (by omega) (by omega) (by omega) (by omega) h11
  · exact rn_3y s i w hs hi B hB hu h0 h0b (by omega) (by omega) (by omega) (by omega) (by omega) (by omega) (B i * 4096 + B (i + 1) * 64 + B (i + 2) - 925824) (by omega)
/-! The document's Rune: four bytes. -/
open Go.RowKit Go.Shelf Go.Lib
set_option linter.unusedVariables false

set_option maxHeartbeats 3200000 in
set_option maxRecDepth 100000 in
theorem rn_4s (s : ByteArray) (i : Nat) (w : World) (hs : s.size ≤ 1100000) (hi : i < s.size) (B : Nat → Nat) (hB : ∀ (n : Nat) (h : n < s.size), (s[n]'h).toNat = B n) (hu : ∀ n, B n < 256) (h0 : 240 ≤ B i) (h0b : B i < 248) (hn : s.size < i + 4) :
    Calls Tryd.prog 93 #[.string s, .int .i64 (i : Int)] w fun e w' => e = .returned (.tuple #[.int .i64 ((decB s B i).1 : Nat), .int .i64 ((decB s B i).2 : Nat)]) ∧ w = w' := by
  have HR := Lib.hid (show decB s B i = _ from runeP_err (dN_4x _ _ _ _ _ ⟨h0, h0b⟩ (by omega)))
  have u0 := hu i
  have u1 := hu (i + 1)
  have u2 := hu (i + 2)
  have u3 := hu (i + 3)
  clear hu
  go_enter Tryd.func93, Tryd.ntmps93
  go_wp2
  go_ret2
  exact ⟨by rw [HR.out]; rfl, rfl⟩

set_option maxHeartbeats 3200000 in
set_option maxRecDepth 100000 in
theorem rn_4a (s : ByteArray) (i : Nat) (w : World) (hs : s.size ≤ 1100000) (hi : i < s.size) (B : Nat → Nat) (hB : ∀ (n : Nat) (h : n < s.size), (s[n]'h).toNat = B n) (hu : ∀ n, B n < 256) (h0 : 240 ≤ B i) (h0b : B i < 248) (hn : i + 4 ≤ s.size) (c1 : B (i + 1) < 128) :
    Calls Tryd.prog 93 #[.string s, .int .i64 (i : Int)] w fun e w' => e = .returned (.tuple #[.int .i64 ((decB s B i).1 : Nat), .int .i64 ((decB s B i).2 : Nat)]) ∧ w = w' := by
  have HR := Lib.hid (show decB s B i = _ from runeP_err (dN_4x _ _ _ _ _ ⟨h0, h0b⟩ (by omega)))
  have u0 := hu i
  have u1 := hu (i + 1)
  have u2 := hu (i + 2)
  have u3 := hu (i + 3)
  clear hu
  have t1 : ((i : Int) + 1).toNat = i + 1 := by omega
  have z1 : (0 : Int) ≤ (i : Int) + 1 := by omega
  have l1 : i + 1 < s.size := by omega
  go_enter Tryd.func93, Tryd.ntmps93
  go_wp2
  go_rounds 2
  go_ret2
  exact ⟨by rw [HR.out]; rfl, rfl⟩

set_option maxHeartbeats 3200000 in
set_option maxRecDepth 100000 in
theorem rn_4b (s : ByteArray) (i : Nat) (w : World) (hs : s.size ≤ 1100000) (hi : i < s.size) (B : Nat → Nat) (hB : ∀ (n : Nat) (h : n < s.size), (s[n]'h).toNat = B n) (hu : ∀ n, B n < 256) (h0 : 240 ≤ B i) (h0b : B i < 248) (hn : i + 4 ≤ s.size) (c1 : 192 ≤ B (i + 1)) :
    Calls Tryd.prog 93 #[.string s, .int .i64 (i : Int)] w fun e w' => e = .returned (.tuple #[.int .i64 ((decB s B i).1 : Nat), .int .i64 ((decB s B i).2 : Nat)]) ∧ w = w' := by
  have HR := Lib.hid (show decB s B i = _ from runeP_err (dN_4x _ _ _ _ _ ⟨h0, h0b⟩ (by omega)))
  have u0 := hu i
  have u1 := hu (i + 1)
  have u2 := hu (i + 2)
  have u3 := hu (i + 3)
  clear hu
  have t1 : ((i : Int) + 1).toNat = i + 1 := by omega
  have z1 : (0 : Int) ≤ (i : Int) + 1 := by omega
  have l1 : i + 1 < s.size := by omega
  go_enter Tryd.func93, Tryd.ntmps93
  go_wp2
  go_rounds 2
  go_ret2
  exact ⟨by rw [HR.out]; rfl, rfl⟩

set_option maxHeartbeats 3200000 in
set_option maxRecDepth 100000 in
theorem rn_4c (s : ByteArray) (i : Nat) (w : World) (hs : s.size ≤ 1100000) (hi : i < s.size) (B : Nat → Nat) (hB : ∀ (n : Nat) (h : n < s.size), (s[n]'h).toNat = B n) (hu : ∀ n, B n < 256) (h0 : 240 ≤ B i) (h0b : B i < 248) (hn : i + 4 ≤ s.size) (c1 : 128 ≤ B (i + 1)) (d1 : B (i + 1) < 192) (c2 : B (i + 2) < 128) :
    Calls Tryd.prog 93 #[.string s, .int .i64 (i : Int)] w fun e w' => e = .returned (.tuple #[.int .i64 ((decB s B i).1 : Nat), .int .i64 ((decB s B i).2 : Nat)]) ∧ w = w' := by
  have HR := Lib.hid (show decB s B i = _ from runeP_err (dN_4x _ _ _ _ _ ⟨h0, h0b⟩ (by omega)))
  have u0 := hu i
  have u1 := hu (i + 1)
  have u2 := hu (i + 2)
  have u3 := hu (i + 3)
  clear hu
  have t1 : ((i : Int) + 1).toNat = i + 1 := by omega
  have z1 : (0 : Int) ≤ (i : Int) + 1 := by omega
  have l1 : i + 1 < s.size := by omega
  have t2 : ((i : Int) + 2).toNat = i + 2 := by omega
  have z2 : (0 : Int) ≤ (i : Int) + 2 := by omega
  have l2 : i + 2 < s.size := by omega
  go_enter Tryd.func93, Tryd.ntmps93
  go_wp2
  go_rounds 3
  go_ret2
  exact ⟨by rw [HR.out]; rfl, rfl⟩

set_option maxHeartbeats 3200000 in
set_option maxRecDepth 100000 in
theorem rn_4d (s : ByteArray) (i : Nat) (w : World) (hs : s.size ≤ 1100000) (hi : i < s.size) (B : Nat → Nat) (hB : ∀ (n : Nat) (h : n < s.size), (s[n]'h).toNat = B n) (hu : ∀ n, B n < 256) (h0 : 240 ≤ B i) (h0b : B i < 248) (hn : i + 4 ≤ s.size) (c1 : 128 ≤ B (i + 1)) (d1 : B (i + 1) < 192) (c2 : 192 ≤ B (i + 2)) :
    Calls Tryd.prog 93 #[.string s, .int .i64 (i : Int)] w fun e w' => e = .returned (.tuple #[.int .i64 ((decB s B i).1 : Nat), .int .i64 ((decB s B i).2 : Nat)]) ∧ w = w' := by
  have HR := Lib.hid (show decB s B i = _ from runeP_err (dN_4x _ _ _ _ _ ⟨h0, h0b⟩ (by omega)))
  have u0 := hu i
  have u1 := hu (i + 1)
  have u2 := hu (i + 2)
  have u3 := hu (i + 3)
  clear hu
  have t1 : ((i : Int) + 1).toNat = i + 1 := by omega
  have z1 : (0 : Int) ≤ (i : Int) + 1 := by omega
  have l1 : i + 1 < s.size := by omega
  have t2 : ((i : Int) + 2).toNat = i + 2 := by omega
  have z2 : (0 : Int) ≤ (i : Int) + 2 := by omega
  have l2 : i + 2 < s.size := by omega
  go_enter Tryd.func93, Tryd.ntmps93
  go_wp2
  go_rounds 3
  go_ret2
  exact ⟨by rw [HR.out]; rfl, rfl⟩

set_option maxHeartbeats 3200000 in
set_option maxRecDepth 100000 in
theorem rn_4e (s : ByteArray) (i : Nat) (w : World) (hs : s.size ≤ 1100000) (hi : i < s.size) (B : Nat → Nat) (hB : ∀ (n : Nat) (h : n < s.size), (s[n]'h).toNat = B n) (hu : ∀ n, B n < 256) (h0 : 240 ≤ B i) (h0b : B i < 248) (hn : i + 4 ≤ s.size) (c1 : 128 ≤ B (i + 1)) (d1 : B (i + 1) < 192) (c2 : 128 ≤ B (i + 2)) (d2 : B (i + 2) < 192) (c3 : B (i + 3) < 128) :
    Calls Tryd.prog 93 #[.string s, .int .i64 (i : Int)] w fun e w' => e = .returned (.tuple #[.int .i64 ((decB s B i).1 : Nat), .int .i64 ((decB s B i).2 : Nat)]) ∧ w = w' := by
  have HR := Lib.hid (show decB s B i = _ from runeP_err (dN_4x _ _ _ _ _ ⟨h0, h0b⟩ (by omega)))
  have u0 := hu i
  have u1 := hu (i + 1)
  have u2 := hu (i + 2)
  have u3 := hu (i + 3)
  clear hu
  have t1 : ((i : Int) + 1).toNat = i + 1 := by omega
  have z1 : (0 : Int) ≤ (i : Int) + 1 := by omega
  have l1 : i + 1 < s.size := by omega
  have t2 : ((i : Int) + 2).toNat = i + 2 := by omega
  have z2 : (0 : Int) ≤ (i : Int) + 2 := by omega
  have l2 : i + 2 < s.size := by omega
  have t3 : ((i : Int) + 3).toNat = i + 3 := by omega
  have z3 : (0 : Int) ≤ (i : Int) + 3 := by omega
  have l3 : i + 3 < s.size := by omega
  go_enter Tryd.func93, Tryd.ntmps93
  go_wp2
  go_rounds 4
  go_ret2
  exact ⟨by rw [HR.out]; rfl, rfl⟩

set_option maxHeartbeats 3200000 in
set_option maxRecDepth 100000 in
theorem rn_4f (s : ByteArray) (i : Nat) (w : World) (hs : s.size ≤ 1100000) (hi : i < s.size) (B : Nat → Nat) (hB : ∀ (n : Nat) (h : n < s.size), (s[n]'h).toNat = B n) (hu : ∀ n, B n < 256) (h0 : 240 ≤ B i) (h0b : B i < 248) (hn : i + 4 ≤ s.size) (c1 : 128 ≤ B (i + 1)) (d1 : B (i + 1) < 192) (c2 : 128 ≤ B (i + 2)) (d2 : B (i + 2) < 192) (c3 : 192 ≤ B (i + 3)) :
    Calls Tryd.prog 93 #[.string s, .int .i64 (i : Int)] w fun e w' => e = .returned (.tuple #[.int .i64 ((decB s B i).1 : Nat), .int .i64 ((decB s B i).2 : Nat)]) ∧ w = w' := by
  have HR := Lib.hid (show decB s B i = _ from runeP_err (dN_4x _ _ _ _ _ ⟨h0, h0b⟩ (by omega)))
  have u0 := hu i
  have u1 := hu (i + 1)
  have u2 := hu (i + 2)
  have u3 := hu (i + 3)
  clear hu
  have t1 : ((i : Int) + 1).toNat = i + 1 := by omega
  have z1 : (0 : Int) ≤ (i : Int) + 1 := by omega
  have l1 : i + 1 < s.size := by omega
  have t2 : ((i : Int) + 2).toNat = i + 2 := by omega
  have z2 : (0 : Int) ≤ (i : Int) + 2 := by omega
  have l2 : i + 2 < s.size := by omega
  have t3 : ((i : Int) + 3).toNat = i + 3 := by omega
  have z3 : (0 : Int) ≤ (i : Int) + 3 := by omega
  have l3 : i + 3 < s.size := by omega
  go_enter Tryd.func93, Tryd.ntmps93
  go_wp2
  go_rounds 4
  go_ret2
  exact ⟨by rw [HR.out]; rfl, rfl⟩

set_option maxHeartbeats 3200000 in
set_option maxRecDepth 100000 in
theorem rn_4l (s : ByteArray) (i : Nat) (w : World) (hs : s.size ≤ 1100000) (hi : i < s.size) (B : Nat → Nat) (hB : ∀ (n : Nat) (h : n < s.size), (s[n]'h).toNat = B n) (hu : ∀ n, B n < 256) (h0 : 240 ≤ B i) (h0b : B i < 248) (hn : i + 4 ≤ s.size) (c1 : 128 ≤ B (i + 1)) (d1 : B (i + 1) < 192) (c2 : 128 ≤ B (i + 2)) (d2 : B (i + 2) < 192) (c3 : 128 ≤ B (i + 3)) (d3 : B (i + 3) < 192) (hv : B i * 262144 + B (i + 1) * 4096 + B (i + 2) * 64 + B (i + 3) < 63512704) :
    Calls Tryd.prog 93 #[.string s, .int .i64 (i : Int)] w fun e w' => e = .returned (.tuple #[.int .i64 ((decB s B i).1 : Nat), .int .i64 ((decB s B i).2 : Nat)]) ∧ w = w' := by
  have HR := Lib.hid (show decB s B i = _ from runeP_err (dN_4x _ _ _ _ _ ⟨h0, h0b⟩ (by omega)))
  have u0 := hu i
  have u1 := hu (i + 1)
  have u2 := hu (i + 2)
  have u3 := hu (i + 3)
  clear hu
  have t1 : ((i : Int) + 1).toNat = i + 1 := by omega
  have z1 : (0 : Int) ≤ (i : Int) + 1 := by omega
  have l1 : i + 1 < s.size := by omega
  have t2 : ((i : Int) + 2).toNat = i + 2 := by omega
  have z2 : (0 : Int) ≤ (i : Int) + 2 := by omega
  have l2 : i + 2 < s.size := by omega
  have t3 : ((i : Int) + 3).toNat = i + 3 := by omega
  have z3 : (0 : Int) ≤ (i : Int) + 3 := by omega
  have l3 : i + 3 < s.size := by omega
  go_enter Tryd.func93, Tryd.ntmps93
  go_wp2
  go_rounds 5
  go_ret2
  exact ⟨by rw [HR.out]; rfl, rfl⟩

set_option maxHeartbeats 3200000 in
set_option maxRecDepth 100000 in
theorem rn_4m (s : ByteArray) (i : Nat) (w : World) (hs : s.size ≤ 1100000) (hi : i < s.size) (B : Nat → Nat) (hB : ∀ (n : Nat) (h : n < s.size), (s[n]'h).toNat = B n) (hu : ∀ n, B n < 256) (h0 : 240 ≤ B i) (h0b : B i < 248) (hn : i + 4 ≤ s.size) (c1 : 128 ≤ B (i + 1)) (d1 : B (i + 1) < 192) (c2 : 128 ≤ B (i + 2)) (d2 : B (i + 2) < 192) (c3 : 128 ≤ B (i + 3)) (d3 : B (i + 3) < 192) (hv : 64561279 < B i * 262144 + B (i + 1) * 4096 + B (i + 2) * 64 + B (i + 3)) :
    Calls Tryd.prog 93 #[.string s, .int .i64 (i : Int)] w fun e w' => e = .returned (.tuple #[.int .i64 ((decB s B i).1 : Nat), .int .i64 ((decB s B i).2 : Nat)]) ∧ w = w' := by
  have HR := Lib.hid (show decB s B i = _ from runeP_err (dN_4x _ _ _ _ _ ⟨h0, h0b⟩ (by omega)))
  have u0 := hu i
  have u1 := hu (i + 1)
  have u2 := hu (i + 2)
  have u3 := hu (i + 3)
  clear hu
  have t1 : ((i : Int) + 1).toNat = i + 1 := by omega
  have z1 : (0 : Int) ≤ (i : Int) + 1 := by omega
  have l1 : i + 1 < s.size := by omega
  have t2 : ((i : Int) + 2).toNat = i + 2 := by omega
  have z2 : (0 : Int) ≤ (i : Int) + 2 := by omega
  have l2 : i + 2 < s.size := by omega
  have t3 : ((i : Int) + 3).toNat = i + 3 := by omega
  have z3 : (0 : Int) ≤ (i : Int) + 3 := by omega
  have l3 : i + 3 < s.size := by omega
  go_enter Tryd.func93, Tryd.ntmps93
  go_wp2
  go_rounds 5
  go_ret2
  exact ⟨by rw [HR.out]; rfl, rfl⟩

set_option maxHeartbeats 3200000 in
set_option maxRecDepth 100000 in
theorem rn_4 (s : ByteArray) (i : Nat) (w : World) (hs : s.size ≤ 1100000) (hi : i < s.size) (B : Nat → Nat) (hB : ∀ (n : Nat) (h : n < s.size), (s[n]'h).toNat = B n) (hu : ∀ n, B n < 256) (h0 : 240 ≤ B i) (h0b : B i < 248) (hn : i + 4 ≤ s.size) (c1 : 128 ≤ B (i + 1)) (d1 : B (i + 1) < 192) (c2 : 128 ≤ B (i + 2)) (d2 : B (i + 2) < 192) (c3 : 128 ≤ B (i + 3)) (d3 : B (i + 3) < 192) (m1 : 63512704 ≤ B i * 262144 + B (i + 1) * 4096 + B (i + 2) * 64 + B (i + 3)) (m2 : B i * 262144 + B (i + 1) * 4096 + B (i + 2) * 64 + B (i + 3) ≤ 64561279) (v : Nat) (hv : v + 63447168 = B i * 262144 + B (i + 1) * 4096 + B (i + 2) * 64 + B (i + 3)) :
    Calls Tryd.prog 93 #[.string s, .int .i64 (i : Int)] w fun e w' => e = .returned (.tuple #[.int .i64 ((decB s B i).1 : Nat), .int .i64 ((decB s B i).2 : Nat)]) ∧ w = w' := by
  have HR := Lib.hid (show decB s B i = _ from runeP_wide (dN_4 _ _ _ _ _ v ⟨h0, h0b⟩ (by omega) hv (by omega)) (by omega))
  have u0 := hu i
  have u1 := hu (i + 1)
  have u2 := hu (i + 2)
  have u3 := hu (i + 3)
  clear hu
  have HV := Lib.hid hv; clear hv
  have t1 : ((i : Int) + 1).toNat = i + 1 := by omega
  have z1 : (0 : Int) ≤ (i : Int) + 1 := by omega
  have l1 : i + 1 < s.size := by omega
  have t2 : ((i : Int) + 2).toNat = i + 2 := by omega
  have z2 : (0 : Int) ≤ (i : Int) + 2 := by omega
  have l2 : i + 2 < s.size := by omega
  have t3 : ((i : Int) + 3).toNat = i + 3 := by omega
  have z3 : (0 : Int) ≤ (i : Int) + 3 := by omega
  have l3 : i + 3 < s.size := by omega
  go_enter Tryd.func93, Tryd.ntmps93
  go_wp2
  go_rounds 5
  go_ret2
  refine ⟨?_, rfl⟩
  rw [HR.out]
  show Ending.returned (Value.tuple #[Value.int IntKind.i64 ((((((B i : Int) - 240) * 64 + (B (i + 1) : Int) - 128)) * 64 + (B (i + 2) : Int) - 128) * 64 + (B (i + 3) : Int) - 128), _]) = _
  have hv := HV.out
  rw [show ((((((B i : Int) - 240) * 64 + (B (i + 1) : Int) - 128)) * 64 + (B (i + 2) : Int) - 128) * 64 + (B (i + 3) : Int) - 128) = ((v : Nat) : Int) from by clear t1; omega]
  rfl

theorem rune_D (s : ByteArray) (i : Nat) (w : World) (hs : s.size ≤ 1100000) (hi : i < s.size) (B : Nat → Nat) (hB : ∀ (n : Nat) (h : n < s.size), (s[n]'h).toNat = B n) (hu : ∀ n, B n < 256) (h0 : 240 ≤ B i) (h0b : B i < 248) :
    Calls Tryd.prog 93 #[.string s, .int .i64 (i : Int)] w fun e w' => e = .returned (.tuple #[.int .i64 ((decB s B i).1 : Nat), .int .i64 ((decB s B i).2 : Nat)]) ∧ w = w' := by
  by_cases h4 : s.size < i + 4
  · exact rn_4s s i w hs hi B hB hu h0 h0b h4
  by_cases h5 : B (i + 1) < 128
  · exact rn_4a s i w hs hi B hB hu h0 h0b (by omega) h5
  by_cases h6 : 192 ≤ B (i + 1)
  · exact rn_4b s i w hs hi B hB hu h0 h0b (by omega) h6
  by_cases h7 : B (i + 2) < 128
  · exact rn_4c s i w hs hi B hB hu h0 h0b (by omega) (by omega) (by omega) h7
  by_cases h8 : 192 ≤ B (i + 2)
  · exact rn_4d s i w hs hi B hB hu h0 h0b (by omega) (by omega) (by omega) h8
  by_cases h9 : B (i + 3) < 128
  · exact rn_4e s i w hs hi B hB hu h0 h0b (by omega) (by omega) (by omega) (by omega) (by omega) h9
  by_cases h10 : 192 ≤ B (i + 3)
  · exact rn_4f s i w hs hi B hB hu h0 h0b (by omega) (by omega) (by omega) (by omega) (by omega) h10
  by_cases h11 : B i * 262144 + B (i + 1) * 4096 + B (i + 2) * 64 + B (i + 3) < 63512704
  · exact rn_4l s i w hs hi B hB hu h0 h0b (by omega) (by omega) (by omega) (by omega) (by omega) (by omega) (by omega) h11
  by_cases h12 : 64561279 < B i * 262144 + B (i + 1) * 4096 + B (i + 2) * 64 + B (i + 3)
  · exact rn_4m s i w hs hi B hB hu h0 h0b (by omega) (by omega) (by omega) (by omega) (by omega) (by omega) (by omega) h12
  · exact rn_4 s i w hs hi B hB hu h0 h0b (by omega) (by omega) (by omega) (by omega) (by omega) (by omega) (by omega) (by omega) (by omega) (B i * 262144 + B (i + 1) * 4096 + B (i + 2) * 64 + B (i + 3) - 63447168) (by omega)
/-! The document's Rune at every place, and All: the runes of a text, and whether all are right. -/
open Go.RowKit Go.Shelf Go.Lib
set_option linter.unusedVariables false

theorem rune_any (s : ByteArray) (i : Nat) (w : World) (hs : s.size ≤ 1100000) (hi : i < s.size) :
    Calls Tryd.prog 93 #[.string s, .int .i64 (i : Int)] w fun e w' => e = .returned (.tuple #[.int .i64 ((runeP (Utf8.decode s i)).1 : Nat), .int .i64 ((runeP (Utf8.decode s i)).2 : Nat)]) ∧ w = w' := by
  obtain ⟨B, hB⟩ : ∃ B : Nat → Nat, B = fun n => (s.get! n).toNat := ⟨_, rfl⟩
  have e : decB s B i = runeP (Utf8.decode s i) := by rw [decode_at]; subst hB; rfl
  have h1 : ∀ (n : Nat) (h : n < s.size), (s[n]'h).toNat = B n := fun n h => by subst hB; rw [← Utf8W.get!_of_lt s n h]
  have h2 : ∀ n, B n < 256 := fun n => by subst hB; exact UInt8.toNat_lt _
  rw [← e]
  clear hB e
  by_cases a : B i < 224 ∨ 248 ≤ B i
  · exact rune_A s i w hs hi B h1 h2 a
  by_cases b : B i < 240
  · exact rune_C s i w hs hi B h1 h2 (by omega) b
  · exact rune_D s i w hs hi B h1 h2 (by omega) (by omega)

def runeV (p : Nat × Nat) : Int := ((runeP p).1 : Nat)
def allI (l : List UInt8) : List Int := (dec l).map runeV
theorem bad_width {p : Nat × Nat} (h : bad p = true) : p.2 = 1 := by simp [bad] at h; exact h.2
theorem runeP_yes {p : Nat × Nat} (h : bad p = true) : runeP p = (0, 0) := by simp [runeP, h]
theorem runeP_no {p : Nat × Nat} (h : bad p = false) : runeP p = p := by simp [runeP, h]
theorem valid_at {s : ByteArray} {pos : Nat} (h : pos < s.size) : validD ((lst s).drop pos) = (!bad (Utf8.decode s pos) && validD ((lst s).drop (pos + (Utf8.decode s pos).2))) := by
  rw [valid_dec _ _ (Nat.le_refl _), valid_dec _ _ (Nat.le_refl _), dec_at h, List.all_cons]
theorem cell_new (w : World) (v : Value) (t : TypeId) : (w.alloc (.cells #[v] t)).cell? ⟨w.heap.size, 0, none⟩ = some v := by
  rw [cell_of_row (w.alloc (.cells #[v] t)) w.heap.size 0 #[v] t (0, 0) (by show (w.heap.push (Obj.cells #[v] t))[w.heap.size]? = _; simp)]
  rfl

set_option maxHeartbeats 3200000 in
theorem all_any (s : ByteArray) (w : World) (hs : s.size ≤ 1100000) :
    Calls Tryd.prog 81 #[.string s] w fun e w' => (∃ A c, e = .returned (.tuple #[.slice A (dec (lst s)).length c, .bool (validD (lst s))]) ∧ Ints w' A (allI (lst s))) ∧ Below w.heap.size w w' := by
  go_enter Tryd.func81, Tryd.ntmps81
  go_wp2
  go_loopw [4, 5, 6] (fun v o i wr => ∃ (xs : List Int) (ok : Bool) (k : Nat), Hid (OwnInts wr w.heap.size v xs) ∧ o = .bool ok ∧ i = .int .i64 (k : Int) ∧ k ≤ s.size ∧ xs.length ≤ k ∧ Below w.heap.size w wr ∧ Hid (xs ++ allI ((lst s).drop k) = allI (lst s)) ∧ Hid ((ok && validD ((lst s).drop k)) = validD (lst s))) (fun _ _ i _ => s.size - (intOf i).toNat)
  case atStart => exact ⟨[], true, 0, Lib.hid (OwnInts.nil _ _), rfl, rfl, by omega, by simp, Below.refl _ _, Lib.hid rfl, Lib.hid (by simp)⟩
  case round =>
    obtain ⟨xs, ok, k, hown, rfl, rfl, hk, hx, hbw, hi, hv⟩ := hrel
    by_cases hlt : k < s.size
    · have cR := rune_any s k wr hs hlt
      have hd := dec_width hlt
      have hi2 := hi.out
      have hv2 := hv.out
      rw [allI, dec_at hlt, List.map_cons] at hi2
      rw [valid_at hlt] at hv2
      have hsz := hbw.size
      cases hb : bad (Utf8.decode s k)
      · rw [runeP_no hb] at cR
        have hn0 : ((((Utf8.decode s k).2 : Nat) : Int) == 0) = false := by rw [beq_eq_false_iff_ne]; omega
        rw [hb] at hv2
        have HI := Lib.hid (show (xs ++ [((Utf8.decode s k).1 : Int)]) ++ allI ((lst s).drop (k + (Utf8.decode s k).2)) = allI (lst s) from by rw [← hi2, runeV, runeP_no hb]; simp [allI])
        have HV := Lib.hid (show (ok && validD ((lst s).drop (k + (Utf8.decode s k).2))) = validD (lst s) from by simpa using hv2)
        clear hi2 hv2 hb
        generalize Utf8.decode s k = dd at cR hd HI HV hn0
        obtain ⟨r, wd⟩ := dd
        simp only at cR hd HI HV hn0
        go_wp2_with (first | (go_at_call 93; refine cR.mono ?_; rintro e w' ⟨rfl, rfl⟩) | (at_builtin; refine wpList_appi rfl (.tmp 21) (.tmp 23) rfl w.heap.size _ xs rfl (hown.out.alloc _) wr.heap.size (r : Int) rfl (cell_new _ _ _) (by omega) (by simp; omega) ?_; intro v' w2 hown2 hb2))
        go_roundw
        case rel => exact ⟨xs ++ [(r : Int)], ok, k + wd, Lib.hid hown2, rfl, by go_num, by omega, by simp; omega, (hbw.alloc hsz _).trans hb2, HI, HV⟩
        case measure => simp [intOf]; omega
      · rw [runeP_yes hb] at cR
        rw [hb] at hv2
        have hw1 := bad_width hb
        rw [hw1] at hi2 hv2
        have HI := Lib.hid (show (xs ++ [(0 : Int)]) ++ allI ((lst s).drop (k + 1)) = allI (lst s) from by rw [← hi2, runeV, runeP_yes hb]; simp [allI])
        have HV := Lib.hid (show (false && validD ((lst s).drop (k + 1))) = validD (lst s) from by simpa using hv2)
        clear hi2 hv2 hb hw1 hd
        go_wp2_with (first | (go_at_call 93; refine cR.mono ?_; rintro e w' ⟨rfl, rfl⟩) | (at_builtin; refine wpList_appi rfl (.tmp 21) (.tmp 23) rfl w.heap.size _ xs rfl (hown.out.alloc _) wr.heap.size (0 : Int) rfl (cell_new _ _ _) (by omega) (by simp; omega) ?_; intro v' w2 hown2 hb2))
        go_roundw
        case rel => exact ⟨xs ++ [(0 : Int)], false, k + 1, Lib.hid hown2, rfl, by go_num, by omega, by simp; omega, (hbw.alloc hsz _).trans hb2, HI, HV⟩
        case measure => simp [intOf]; omega
    · have hi2 := hi.out
      have hv2 := hv.out
      rw [drop_end hlt] at hi2 hv2
      have hx2 : xs = allI (lst s) := by rw [← hi2]; simp [allI, dec_nil]
      have ho2 : ok = validD (lst s) := by rw [← hv2]; simp [validD_nil]
      have hl2 : xs.length = (dec (lst s)).length := by rw [hx2, allI, List.length_map]
      obtain ⟨A, c, hv3, hI3⟩ := hown.out.ints
      have HX := Lib.hid hx2; have HO := Lib.hid ho2; have HL := Lib.hid hl2; have HV := Lib.hid hv3
      clear hx2 ho2 hl2 hi2 hv2 hv3
      go_wp2
      go_ret2
      refine ⟨⟨A, c, ?_, by rw [← HX.out]; exact hI3⟩, hbw⟩
      rw [← HO.out, ← HL.out, ← HV.out]
      rfl

end Go.Proofs.YtgejonmjmieglaaDoor.Txt
namespace Go.Proofs.YtgejonmjmieglaaDoor.Txt
set_option maxRecDepth 100000
/-! The document's Name. -/
open Go.RowKit Go.Shelf Go.Lib
set_option linter.unusedVariables false

theorem runeP_le (p : Nat × Nat) (h : p.1 ≤ 1114111) : (runeP p).1 ≤ 1114111 := by unfold runeP; split; simp; exact h
theorem dec_le : ∀ (n : Nat) (l : List UInt8), l.length ≤ n → ∀ p ∈ dec l, p.1 ≤ 1114111
  | 0, l, h, p, hp => by
    have : l = [] := List.eq_nil_of_length_eq_zero (by omega)
    subst this; simp [dec_nil] at hp
  | n + 1, l, h, p, hp => by
    by_cases hne : l = []
    · subst hne; simp [dec_nil] at hp
    · have hw := decodeL_width l
      have hl : 0 < l.length := List.length_pos_iff.2 hne
      rw [dec_step l hne] at hp
      rcases List.mem_cons.1 hp with rfl | hp
      · exact decodeL_rune l
      · exact dec_le n _ (by rw [List.length_drop]; omega) p hp
theorem good_step {D : List (Nat × Nat)} {k : Nat} {p : Nat × Nat} (h : D[k]? = some p) : goodFrom k (D.drop k) = (okAt k p.1 && goodFrom (k + 1) (D.drop (k + 1))) := by
  obtain ⟨hk, hp⟩ := List.getElem?_eq_some_iff.1 h
  rw [List.drop_eq_getElem_cons hk, hp, goodFrom]
theorem rname_elem {l : List UInt8} {k : Nat} {x : Int} (hv : validD l = true) (h : (allI l)[k]? = some x) : ∃ p : Nat × Nat, (dec l)[k]? = some p ∧ x = (p.1 : Int) ∧ p.1 ≤ 1114111 := by
  unfold allI at h
  rw [List.getElem?_map] at h
  cases hd : (dec l)[k]? with
  | none => rw [hd] at h; cases h
  | some p =>
    rw [hd] at h
    have hm := List.mem_of_getElem? hd
    rw [valid_dec _ _ (Nat.le_refl _), List.all_eq_true] at hv
    have hb := hv p hm
    simp only [Bool.not_eq_true'] at hb
    refine ⟨p, rfl, ?_, dec_le _ l (Nat.le_refl _) p hm⟩
    have := Option.some.inj h
    rw [← this, runeV, runeP_no hb]

set_option maxHeartbeats 6400000 in
theorem rname_any (s : ByteArray) (w : World) (hs : s.size ≤ 1100000) (hT : Tabs w) :
    Calls Tryd.prog 61 #[.string s] w fun e w' => e = .returned (.bool (nameD (lst s))) ∧ Below w.heap.size w w' := by
  have HT := Lib.hid hT; clear hT
  have cA := all_any s w hs
  have HE := Lib.hid (nameD_eq (lst s))
  have hlen : (dec (lst s)).length ≤ 1100000 := Nat.le_trans (dec_len _ _ (Nat.le_refl _)) hs
  cases hv : validD (lst s) <;> rw [hv] at cA
  · have HN := Lib.hid (show nameD (lst s) = false from by rw [HE.out, hv]; rfl)
    clear hv
    go_enter Tryd.func61, Tryd.ntmps61
    go_wp2_with (go_at_call 81; refine cA.mono ?_; rintro e w1 ⟨⟨A, c, rfl, hI⟩, hb1⟩)
    go_ret
    exact ⟨by rw [HN.out]; rfl, hb1⟩
  · have HV := Lib.hid hv
    by_cases hz : (dec (lst s)).length = 0
    · have HN := Lib.hid (show nameD (lst s) = false from by rw [HE.out, hz]; simp)
      rw [hz] at cA
      clear hv hz
      go_enter Tryd.func61, Tryd.ntmps61
      go_wp2_with (go_at_call 81; refine cA.mono ?_; rintro e w1 ⟨⟨A, c, rfl, hI⟩, hb1⟩)
      go_ret
      exact ⟨by rw [HN.out]; rfl, hb1⟩
    · have hz0 : (((dec (lst s)).length : Int) == 0) = false := by rw [beq_eq_false_iff_ne]; omega
      by_cases h40 : 40 < (dec (lst s)).length
      · have HN := Lib.hid (show nameD (lst s) = false from by rw [HE.out]; simp; intros; omega)
        clear hv hz
        generalize hL : (dec (lst s)).length = L at cA hz0 h40 hlen
        clear hL
        go_enter Tryd.func61, Tryd.ntmps61
        go_wp2_with (go_at_call 81; refine cA.mono ?_; rintro e w1 ⟨⟨A, c, rfl, hI⟩, hb1⟩)
        go_ret
        exact ⟨by rw [HN.out]; rfl, hb1⟩
      · have HN := Lib.hid (show nameD (lst s) = goodFrom 0 (dec (lst s)) from by rw [HE.out, hv]; simp [hz]; intros; omega)
        have HL := Lib.hid (show (allI (lst s)).length = (dec (lst s)).length from by rw [allI, List.length_map])
        clear hv hz HE
        generalize hL : (dec (lst s)).length = L at cA hz0 h40 hlen HL
        have HL2 := Lib.hid hL; clear hL
        go_enter Tryd.func61, Tryd.ntmps61
        go_wp2_with (go_at_call 81; refine cA.mono ?_; rintro e w1 ⟨⟨A, c, rfl, hI⟩, hb1⟩)
        have HI := Lib.hid hI; clear hI cA
        go_loopw [5] (fun i wr => ∃ k : Nat, i = .int .i64 (k : Int) ∧ k ≤ L ∧ Below w1.heap.size w1 wr ∧ Hid (nameD (lst s) = goodFrom k ((dec (lst s)).drop k))) (fun i _ => L - (intOf i).toNat)
        case atStart => exact ⟨0, rfl, by omega, Below.refl _ _, Lib.hid (by rw [HN.out]; rfl)⟩
        case round =>
          obtain ⟨k, rfl, hk, hbw, hg⟩ := hrel
          by_cases hlt : k < L
          · obtain ⟨b, off, x, rfl, ex, cx⟩ := (HI.out.below hbw).at_ (k := k) (by rw [HL.out]; exact hlt)
            obtain ⟨p, ep, hxp, hple⟩ := rname_elem HV.out ex
            have hg2 := hg.out
            rw [good_step ep] at hg2
            clear ex ep
            generalize p.1 = r at hxp hple hg2
            subst hxp
            have HG := Lib.hid hg2; clear hg2
            have hTw := (HT.out.below hb1).below hbw
            have cL := letter_c (r : Int) wr (by omega) (by omega) hTw
            have cD : ∀ w2, Below wr.heap.size wr w2 → Calls Tryd.prog 83 #[.int .i32 (r : Int)] w2 _ := fun w2 h => digit_c (r : Int) w2 (by omega) (by omega) (hTw.below h)
            have cX : ∀ w2, Below wr.heap.size wr w2 → w2.cell? ⟨b, off + k, none⟩ = some (.int .i64 (r : Int)) := fun w2 h => (h.cell (p := ⟨b, off + k, none⟩) (World.block_lt_of_cell? wr _ cx)).trans cx
            have HX := Lib.hid cX; clear cX
            cases hl : isLetterU (r : Int) <;> rw [hl] at cL
            · by_cases hz : k = 0
              · subst hz
                have HF := Lib.hid (show nameD (lst s) = false from by rw [HG.out]; simp [okAt, hl])
                simp only [Nat.add_zero] at cx
                go_wp2_with (go_at_call 82; refine cL.mono ?_; rintro e w2 ⟨rfl, hb2⟩)
                go_ret
                exact ⟨by rw [HF.out]; rfl, blw (blw hb1 hbw) hb2⟩
              · have hk0 : ((k : Int) == 0) = false := by rw [beq_eq_false_iff_ne]; omega
                cases hd : isDigitU (r : Int) <;> simp only [hd] at cD
                · by_cases e95 : r = 95
                  · subst e95
                    have HF := Lib.hid (show nameD (lst s) = goodFrom (k + 1) ((dec (lst s)).drop (k + 1)) from by rw [HG.out]; simp [okAt, innerR, hz])
                    clear hl hd
                    go_wp2_with (first | (go_at_call 82; refine cL.mono ?_; rintro e w2 ⟨rfl, hb2⟩) | (go_at_call 83; refine (cD _ hb2).mono ?_; rintro e w3 ⟨rfl, hb3⟩; have c3 := HX.out _ (blw hb2 hb3)))
                    go_roundw
                    case rel => exact ⟨k + 1, by go_num, by omega, blw (blw hbw hb2) hb3, HF⟩
                    case measure => simp [intOf]; omega
                  · have f95 : ((r : Int) == 95) = false := by rw [beq_eq_false_iff_ne]; omega
                    by_cases e45 : r = 45
                    · subst e45
                      have HF := Lib.hid (show nameD (lst s) = goodFrom (k + 1) ((dec (lst s)).drop (k + 1)) from by rw [HG.out]; simp [okAt, innerR, hz])
                      clear hl hd e95 f95
                      go_wp2_with (first | (go_at_call 82; refine cL.mono ?_; rintro e w2 ⟨rfl, hb2⟩) | (go_at_call 83; refine (cD _ hb2).mono ?_; rintro e w3 ⟨rfl, hb3⟩; have c3 := HX.out _ (blw hb2 hb3)))
                      go_roundw
                      case rel => exact ⟨k + 1, by go_num, by omega, blw (blw hbw hb2) hb3, HF⟩
                      case measure => simp [intOf]; omega
                    · have f45 : ((r : Int) == 45) = false := by rw [beq_eq_false_iff_ne]; omega
                      by_cases e46 : r = 46
                      · subst e46
                        have HF := Lib.hid (show nameD (lst s) = goodFrom (k + 1) ((dec (lst s)).drop (k + 1)) from by rw [HG.out]; simp [okAt, innerR, hz])
                        clear hl hd e95 f95 e45 f45
                        go_wp2_with (first | (go_at_call 82; refine cL.mono ?_; rintro e w2 ⟨rfl, hb2⟩) | (go_at_call 83; refine (cD _ hb2).mono ?_; rintro e w3 ⟨rfl, hb3⟩; have c3 := HX.out _ (blw hb2 hb3)))
                        go_roundw
                        case rel => exact ⟨k + 1, by go_num, by omega, blw (blw hbw hb2) hb3, HF⟩
                        case measure => simp [intOf]; omega
                      · have f46 : ((r : Int) == 46) = false := by rw [beq_eq_false_iff_ne]; omega
                        have HF := Lib.hid (show nameD (lst s) = false from by rw [HG.out]; simp [okAt, innerR, hl, hd, f95, f45, f46])
                        have g95 : ((r : Int) != 95) = true := by rw [bne, f95]; rfl
                        have g45 : ((r : Int) != 45) = true := by rw [bne, f45]; rfl
                        have g46 : ((r : Int) != 46) = true := by rw [bne, f46]; rfl
                        clear hl hd
                        go_wp2_with (first | (go_at_call 82; refine cL.mono ?_; rintro e w2 ⟨rfl, hb2⟩) | (go_at_call 83; refine (cD _ hb2).mono ?_; rintro e w3 ⟨rfl, hb3⟩; have c3 := HX.out _ (blw hb2 hb3)))
                        go_ret
                        exact ⟨by rw [HF.out]; rfl, blw (blw (blw hb1 hbw) hb2) hb3⟩
                · have HF := Lib.hid (show nameD (lst s) = goodFrom (k + 1) ((dec (lst s)).drop (k + 1)) from by rw [HG.out]; simp [okAt, innerR, hd, hz])
                  clear hl hd
                  go_wp2_with (first | (go_at_call 82; refine cL.mono ?_; rintro e w2 ⟨rfl, hb2⟩) | (go_at_call 83; refine (cD _ hb2).mono ?_; rintro e w3 ⟨rfl, hb3⟩))
                  go_roundw
                  case rel => exact ⟨k + 1, by go_num, by omega, blw (blw hbw hb2) hb3, HF⟩
                  case measure => simp [intOf]; omega
            · have HF := Lib.hid (show nameD (lst s) = goodFrom (k + 1) ((dec (lst s)).drop (k + 1)) from by rw [HG.out]; simp [okAt, hl])
              clear hl
              go_wp2_with (go_at_call 82; refine cL.mono ?_; rintro e w2 ⟨rfl, hb2⟩)
              go_roundw
              case rel => exact ⟨k + 1, by go_num, by omega, blw hbw hb2, HF⟩
              case measure => simp [intOf]; omega
          · have HF := Lib.hid (show nameD (lst s) = true from by rw [hg.out, List.drop_eq_nil_of_le (by rw [HL2.out]; omega)]; rfl)
            go_wp2
            go_ret
            exact ⟨by rw [HF.out]; rfl, blw hb1 hbw⟩

/-! Lines: the program's, and the document's. -/
open Go.RowKit Go.Shelf Go.Lib
set_option linter.unusedVariables false

theorem lst_extract (s : ByteArray) (a b : Nat) : lst (s.extract a b) = ((lst s).take b).drop a := by
  rw [show lst (s.extract a b) = ((lst s).drop a).take (b - a) from extract_data s a b, List.drop_take]
theorem drop_split (l : List UInt8) (pos wd : Nat) : l.drop pos = (l.drop pos).take wd ++ l.drop (pos + wd) := by
  rw [← List.drop_drop, List.take_append_drop]
theorem take_drop_step (l : List UInt8) (pos wd bg : Nat) (hb : bg ≤ pos) (hp : pos ≤ l.length) : (l.take (pos + wd)).drop bg = (l.take pos).drop bg ++ (l.drop pos).take wd := by
  rw [take_step, List.drop_append_of_le_length (by rw [List.length_take]; omega)]
theorem take_drop_nil (l : List UInt8) (k : Nat) : (l.take k).drop k = [] := List.drop_eq_nil_of_le (by rw [List.length_take]; omega)
theorem lines_skip (l : List UInt8) (pos wd bg : Nat) (hb : bg ≤ pos) (hp : pos ≤ l.length) (h : ∀ b ∈ (l.drop pos).take wd, b ≠ 10) :
    linesA (l.drop pos) ((l.take pos).drop bg) = linesA (l.drop (pos + wd)) ((l.take (pos + wd)).drop bg) := by
  rw [take_drop_step l pos wd bg hb hp, ← linesA_run _ _ _ h, ← drop_split]
theorem drop_byte (s : ByteArray) (k : Nat) (h : k < s.size) : (lst s).drop k = s[k] :: (lst s).drop (k + 1) := by
  rw [List.drop_eq_getElem_cons (show k < (lst s).length from h)]; rfl
theorem lines_hit {s : ByteArray} {pos : Nat} (h : pos < s.size) (h10 : s[pos].toNat = 10) (cur : List UInt8) : linesA ((lst s).drop pos) cur = cur :: linesA ((lst s).drop (pos + 1)) [] := by
  rw [drop_byte s pos h, linesA, if_pos (UInt8.toNat_inj.1 (by rw [h10]; rfl))]
theorem one_byte {s : ByteArray} {pos : Nat} (h : pos < s.size) : ((lst s).drop pos).take 1 = [s[pos]] := by
  rw [drop_byte s pos h]; rfl
theorem keep_app {W w2 : World} {k : Nat} {o o2 : Obj} (h : W.heap[k]? = some o) (hb : Below (k + 1) (W.alloc o2) w2) : w2.heap[k]? = some o := by
  have hk := (Array.getElem?_eq_some_iff.1 h).1
  rw [hb.block k (by omega), Below.heap_alloc W o2 k hk, h]
theorem iter_pos {w : World} {k : Nat} {s : ByteArray} {p : Nat} (h : w.heap[k]? = some (.stringIter s p)) : w.iterPos k = p := by simp [World.iterPos, h]
theorem linesV_yes {l : List UInt8} (h : ¬ 60000 < l.length) (hv : validD l = true) : linesV l = linesA l [] ∧ linesE l = 0 := by
  constructor
  · rw [linesV, if_neg h, if_pos hv]
  · rw [linesE, if_neg h, if_pos hv]
theorem linesV_bad {l : List UInt8} (h : ¬ 60000 < l.length) (hv : validD l = false) : linesV l = [] ∧ linesE l = 5 := by
  constructor
  · rw [linesV, if_neg h, if_neg (by rw [hv]; simp)]
  · rw [linesE, if_neg h, if_neg (by rw [hv]; simp)]
theorem linesV_long {l : List UInt8} (h : 60000 < l.length) : linesV l = [] ∧ linesE l = 3 := by
  constructor
  · rw [linesV, if_pos h]
  · rw [linesE, if_pos h]

/-! Words: the program's. -/
open Go.RowKit Go.Shelf Go.Lib
set_option linter.unusedVariables false

theorem gap_of (b : UInt8) : gap b = gapI (b.toNat : Int) := by
  have e : ∀ k : UInt8, (b == k) = (((b.toNat : Nat) : Int) == ((k.toNat : Nat) : Int)) := fun k => by
    by_cases h : b = k
    · subst h; simp
    · rw [beq_eq_false_iff_ne.2 h]
      symm; rw [beq_eq_false_iff_ne]; intro e; exact h (UInt8.toNat_inj.1 (by omega))
  unfold gap gapI
  rw [e, e]; rfl
theorem gapI_high {r : Int} (h : 128 ≤ r) : gapI r = false := by
  unfold gapI
  rw [beq_eq_false_iff_ne.2 (show r ≠ 32 by omega), beq_eq_false_iff_ne.2 (show r ≠ 9 by omega)]; rfl
theorem gap_high {b : UInt8} (h : 128 ≤ b.toNat) : gap b = false := by rw [gap_of]; exact gapI_high (by omega)
theorem words_skip (l : List UInt8) (pos wd bg : Nat) (hb : bg < pos) (hp : pos ≤ l.length) (h : ∀ b ∈ (l.drop pos).take wd, gap b = false) :
    wordsA (l.drop pos) ((l.take pos).drop bg) = wordsA (l.drop (pos + wd)) ((l.take (pos + wd)).drop bg) := by
  rw [take_drop_step l pos wd bg (by omega) hp, ← wordsA_run _ _ _ (by intro e; have := congrArg List.length e; rw [List.length_drop, List.length_take] at this; simp at this; omega) h, ← drop_split]
theorem words_hit {s : ByteArray} {pos : Nat} (h : pos < s.size) (hg : gap s[pos] = true) {cur : List UInt8} (hc : cur ≠ []) : wordsA ((lst s).drop pos) cur = cur :: wordsA ((lst s).drop (pos + 1)) [] := by
  rw [drop_byte s pos h, wordsA, if_pos hg, if_neg hc]
theorem words_blank {s : ByteArray} {pos : Nat} (h : pos < s.size) (hg : gap s[pos] = true) : wordsA ((lst s).drop pos) [] = wordsA ((lst s).drop (pos + 1)) [] := by
  rw [drop_byte s pos h, wordsA, if_pos hg, if_pos rfl]
theorem words_note {s : ByteArray} {pos : Nat} (h : pos < s.size) (h35 : s[pos].toNat = 35) : wordsA ((lst s).drop pos) [] = [] := by
  have e : s[pos] = 35 := UInt8.toNat_inj.1 (by rw [h35]; rfl)
  rw [drop_byte s pos h, wordsA, if_neg (by rw [e]; decide), if_pos ⟨rfl, e⟩]
theorem words_open {l : List UInt8} {pos wd : Nat} (hp : pos + wd ≤ l.length) (h1 : 1 ≤ wd) (h : ∀ b ∈ (l.drop pos).take wd, gap b = false) (hh : ((l.drop pos).take wd).head? ≠ some 35) :
    wordsA (l.drop pos) [] = wordsA (l.drop (pos + wd)) ((l.take (pos + wd)).drop pos) := by
  have e : (l.take (pos + wd)).drop pos = (l.drop pos).take wd := by
    rw [take_drop_step l pos wd pos (Nat.le_refl _) (by omega), take_drop_nil, List.nil_append]
  rw [e, ← wordsA_word ((l.drop pos).take wd) (l.drop (pos + wd)) (by intro e; have := congrArg List.length e; rw [List.length_take, List.length_drop] at this; simp at this; omega) h hh, ← drop_split]
theorem cur_ne {s : ByteArray} {pos bg : Nat} (hb : bg < pos) (hp : pos ≤ s.size) : ((lst s).take pos).drop bg ≠ [] := by
  intro e; have := congrArg List.length e; rw [List.length_drop, List.length_take, lst_len] at this; simp at this; omega
theorem wordsV_yes {l : List UInt8} (hv : validD l = true) (hc : ctlL l = false) : wordsV l = wordsA l [] ∧ wordsE l = 0 := by
  constructor
  · rw [wordsV, if_pos ⟨hv, hc⟩]
  · rw [wordsE, if_pos ⟨hv, hc⟩]
theorem wordsV_bad {l : List UInt8} (hv : validD l = false ∨ ctlL l = true) : wordsV l = [] ∧ wordsE l = 5 := by
  have : ¬ (validD l = true ∧ ctlL l = false) := by rintro ⟨h1, h2⟩; rw [h1, h2] at hv; simp at hv
  constructor
  · rw [wordsV, if_neg this]
  · rw [wordsE, if_neg this]
def WordsAt (w' : World) (e : Ending) (l : List UInt8) : Prop := ∃ A c zs, e = .returned (.tuple #[.slice A zs.length c, .int .i64 (wordsE l)]) ∧ Strs w' A zs ∧ zs.map lst = wordsV l ∧ zs.length ≤ c ∧ Sd w' A c

end Go.Proofs.YtgejonmjmieglaaDoor.Txt
namespace Go.Proofs.YtgejonmjmieglaaDoor.Txt
set_option maxRecDepth 100000
/-! Lines, and Words: the document's. -/
open Go.RowKit Go.Shelf Go.Lib
set_option linter.unusedVariables false

theorem lst_cat (a b : ByteArray) : lst (a ++ b) = lst a ++ lst b := by simp [lst]
theorem cat_size (a b : ByteArray) : (a ++ b).size = a.size + b.size := by simp
theorem lst_one {s : ByteArray} {k : Nat} (h : k < s.size) : lst (s.extract k (k + 1)) = [s[k]] := by
  rw [show lst (s.extract k (k + 1)) = ((lst s).drop k).take (k + 1 - k) from extract_data s k (k + 1), show k + 1 - k = 1 by omega, one_byte h]
theorem one_size {s : ByteArray} {k : Nat} (h : k < s.size) : (s.extract k (k + 1)).size = 1 := by rw [← lst_len, lst_one h]; rfl
theorem lines_byte {s : ByteArray} {k : Nat} (h : k < s.size) (h10 : s[k].toNat ≠ 10) (cur : List UInt8) : linesA ((lst s).drop k) cur = linesA ((lst s).drop (k + 1)) (cur ++ [s[k]]) := by
  rw [drop_byte s k h, linesA, if_neg (by intro e; exact h10 (by rw [e]; rfl))]

/-! The document's Words. -/
open Go.RowKit Go.Shelf Go.Lib
set_option linter.unusedVariables false

theorem words_last {cur : List UInt8} (h : cur ≠ []) : wordsA [] cur = [cur] := by rw [wordsA, if_neg h]
theorem gap_yes {b : UInt8} (h : gap b = true) : b.toNat = 32 ∨ b.toNat = 9 := by
  simp [gap] at h
  rcases h with rfl | rfl
  · exact Or.inl rfl
  · exact Or.inr rfl
theorem gap_no {b : UInt8} (h : gap b = false) : b.toNat ≠ 32 ∧ b.toNat ≠ 9 := by
  rw [gap_of, gapI, Bool.or_eq_false_iff, beq_eq_false_iff_ne, beq_eq_false_iff_ne] at h
  omega
theorem ctl_cases (b : UInt8) : (ctl b = true ∧ ((b.toNat < 32 ∧ b.toNat ≠ 9) ∨ b.toNat = 127)) ∨ (ctl b = false ∧ (32 ≤ b.toNat ∨ b.toNat = 9) ∧ b.toNat ≠ 127) := by
  rw [ctl_of]
  by_cases h1 : b.toNat < 32 <;> by_cases h2 : b.toNat = 9 <;> by_cases h3 : b.toNat = 127 <;> simp [h1, h2, h3] <;> omega

/-! Join: the program's, and the document's. -/
open Go.RowKit Go.Shelf Go.Lib
set_option linter.unusedVariables false

def sumZ : List ByteArray → Nat
  | [] => 0
  | x :: r => x.size + 1 + sumZ r
theorem sumZ_app (a b : List ByteArray) : sumZ (a ++ b) = sumZ a + sumZ b := by
  induction a with
  | nil => simp [sumZ]
  | cons x r ih => simp only [List.cons_append, sumZ, ih]; omega
theorem sumZ_take {zs : List ByteArray} {k : Nat} {x : ByteArray} (h : zs[k]? = some x) : sumZ (zs.take (k + 1)) = sumZ (zs.take k) + 1 + x.size := by
  rw [map_some h, sumZ_app]; simp only [sumZ]; omega
theorem sumZ_take_le (zs : List ByteArray) (k : Nat) : sumZ (zs.take k) ≤ sumZ zs := by
  have := sumZ_app (zs.take k) (zs.drop k)
  rw [List.take_append_drop] at this
  omega
theorem sumZ_len (zs : List ByteArray) : zs.length ≤ sumZ zs := by
  induction zs with
  | nil => simp
  | cons x r ih => simp only [sumZ, List.length_cons]; omega
theorem joinL_len : ∀ zs : List ByteArray, (joinL (zs.map lst)).length ≤ sumZ zs
  | [] => by simp [joinL]
  | [x] => by simp only [List.map_cons, List.map_nil, joinL, sumZ, lst_len]; omega
  | x :: y :: r => by
    have := joinL_len (y :: r)
    simp only [List.map_cons, joinL, sumZ, List.length_append, List.length_cons, lst_len] at this ⊢
    omega
theorem joinL_step {zs : List ByteArray} {k : Nat} {x : ByteArray} (hk : 1 ≤ k) (h : zs[k]? = some x) : joinL ((zs.take (k + 1)).map lst) = joinL ((zs.take k).map lst) ++ 32 :: lst x := by
  have hl : k < zs.length := (List.getElem?_eq_some_iff.1 h).1
  rw [map_some h, List.map_append, List.map_cons, List.map_nil, joinL_snoc _ _ (by intro e; have := congrArg List.length e; rw [List.length_map, List.length_take, List.length_nil] at this; omega)]
theorem joinA_len : ∀ (l cur : List UInt8), (joinL (wordsA l cur)).length ≤ cur.length + l.length
  | [], cur => by
    unfold wordsA
    split
    · simp [joinL]
    · simp [joinL]
  | b :: t, cur => by
    have h1 := joinA_len t []
    have h2 := joinA_len t (cur ++ [b])
    unfold wordsA
    split
    · split
      · simp at h1 ⊢; omega
      · cases hw : wordsA t [] with
        | nil => simp [joinL]
        | cons y r =>
          rw [hw] at h1
          simp only [joinL, List.length_append, List.length_cons, List.length_nil] at h1 ⊢
          omega
    · split
      · simp [joinL]
      · simp at h2 ⊢; omega
theorem bs_nil : bs [] = ⟨#[]⟩ := rfl
theorem strs_of {W : World} {a : Addr} {len m : Nat} {Sx : Nat → ByteArray} (hlm : len ≤ m) (hcell : ∀ i, i < m → W.cell? (a.add i) = some (.string (Sx i)) ∧ (Sx i).size ≤ maxLen) : Strs W (some a) ((List.range len).map Sx) := by
  intro k x hx
  rw [List.getElem?_map] at hx
  have hk : k < len := by
    rcases Nat.lt_or_ge k len with h | h
    · exact h
    · rw [List.getElem?_eq_none (by simpa using h)] at hx; cases hx
  rw [List.getElem?_range hk] at hx
  obtain rfl : Sx k = x := by simpa using hx
  obtain ⟨b, off, spot⟩ := a
  have h := (hcell k (by omega)).1
  have hspot : spot = none := by simpa [Addr.add] using World.cell?_spot (hcell 0 (by omega)).1
  subst hspot
  rw [Go.WideShapes.add_plain] at h
  exact ⟨b, off, rfl, World.block_lt_of_cell? W _ h, h⟩

end Go.Proofs.YtgejonmjmieglaaDoor.Txt

