/- The document's Rune: one byte, two bytes. -/
import Derived.Test.YtejmofekbeaoeaaDoorTxtRune
namespace Go.Proofs.YtejmofekbeaoeaaDoor
open Go.RowKit Go.Shelf Go.Lib
set_option linter.unusedVariables false

set_option maxHeartbeats 3200000 in
set_option maxRecDepth 100000 in
theorem rn_1 (s : ByteArray) (i : Nat) (w : World) (hs : s.size ≤ 1100000) (hi : i < s.size) (B : Nat → Nat) (hB : ∀ (n : Nat) (h : n < s.size), (s[n]'h).toNat = B n) (hu : ∀ n, B n < 256) (h0 : B i < 128) :
    Calls Tryd.prog 27 #[.string s, .int .i64 (i : Int)] w fun e w' => e = .returned (.tuple #[.int .i64 ((decB s B i).1 : Nat), .int .i64 ((decB s B i).2 : Nat)]) ∧ w = w' := by
  have HR := Lib.hid (show decB s B i = _ from runeP_one (decodeN_ascii _ _ _ _ _ h0) (by omega))
  have u0 := hu i
  have u1 := hu (i + 1)
  have u2 := hu (i + 2)
  have u3 := hu (i + 3)
  clear hu
  go_enter Tryd.func27, Tryd.ntmps27
  go_wp2
  go_rounds 1
  go_ret2
  exact ⟨by rw [HR.out]; rfl, rfl⟩

set_option maxHeartbeats 3200000 in
set_option maxRecDepth 100000 in
theorem rn_0a (s : ByteArray) (i : Nat) (w : World) (hs : s.size ≤ 1100000) (hi : i < s.size) (B : Nat → Nat) (hB : ∀ (n : Nat) (h : n < s.size), (s[n]'h).toNat = B n) (hu : ∀ n, B n < 256) (h0 : 128 ≤ B i) (h1 : B i < 192) :
    Calls Tryd.prog 27 #[.string s, .int .i64 (i : Int)] w fun e w' => e = .returned (.tuple #[.int .i64 ((decB s B i).1 : Nat), .int .i64 ((decB s B i).2 : Nat)]) ∧ w = w' := by
  have HR := Lib.hid (show decB s B i = _ from runeP_err (dN_0 _ _ _ _ _ (Or.inl ⟨h0, h1⟩)))
  have u0 := hu i
  have u1 := hu (i + 1)
  have u2 := hu (i + 2)
  have u3 := hu (i + 3)
  clear hu
  go_enter Tryd.func27, Tryd.ntmps27
  go_wp2
  go_ret2
  exact ⟨by rw [HR.out]; rfl, rfl⟩

set_option maxHeartbeats 3200000 in
set_option maxRecDepth 100000 in
theorem rn_0b (s : ByteArray) (i : Nat) (w : World) (hs : s.size ≤ 1100000) (hi : i < s.size) (B : Nat → Nat) (hB : ∀ (n : Nat) (h : n < s.size), (s[n]'h).toNat = B n) (hu : ∀ n, B n < 256) (h0 : 248 ≤ B i) :
    Calls Tryd.prog 27 #[.string s, .int .i64 (i : Int)] w fun e w' => e = .returned (.tuple #[.int .i64 ((decB s B i).1 : Nat), .int .i64 ((decB s B i).2 : Nat)]) ∧ w = w' := by
  have HR := Lib.hid (show decB s B i = _ from runeP_err (dN_0 _ _ _ _ _ (Or.inr h0)))
  have u0 := hu i
  have u1 := hu (i + 1)
  have u2 := hu (i + 2)
  have u3 := hu (i + 3)
  clear hu
  go_enter Tryd.func27, Tryd.ntmps27
  go_wp2
  go_ret2
  exact ⟨by rw [HR.out]; rfl, rfl⟩

set_option maxHeartbeats 3200000 in
set_option maxRecDepth 100000 in
theorem rn_2s (s : ByteArray) (i : Nat) (w : World) (hs : s.size ≤ 1100000) (hi : i < s.size) (B : Nat → Nat) (hB : ∀ (n : Nat) (h : n < s.size), (s[n]'h).toNat = B n) (hu : ∀ n, B n < 256) (h0 : 192 ≤ B i) (h0b : B i < 224) (hn : s.size < i + 2) :
    Calls Tryd.prog 27 #[.string s, .int .i64 (i : Int)] w fun e w' => e = .returned (.tuple #[.int .i64 ((decB s B i).1 : Nat), .int .i64 ((decB s B i).2 : Nat)]) ∧ w = w' := by
  have HR := Lib.hid (show decB s B i = _ from runeP_err (dN_2x _ _ _ _ _ ⟨h0, h0b⟩ (by omega)))
  have u0 := hu i
  have u1 := hu (i + 1)
  have u2 := hu (i + 2)
  have u3 := hu (i + 3)
  clear hu
  go_enter Tryd.func27, Tryd.ntmps27
  go_wp2
  go_ret2
  exact ⟨by rw [HR.out]; rfl, rfl⟩

set_option maxHeartbeats 3200000 in
set_option maxRecDepth 100000 in
theorem rn_2a (s : ByteArray) (i : Nat) (w : World) (hs : s.size ≤ 1100000) (hi : i < s.size) (B : Nat → Nat) (hB : ∀ (n : Nat) (h : n < s.size), (s[n]'h).toNat = B n) (hu : ∀ n, B n < 256) (h0 : 192 ≤ B i) (h0b : B i < 224) (hn : i + 2 ≤ s.size) (c1 : B (i + 1) < 128) :
    Calls Tryd.prog 27 #[.string s, .int .i64 (i : Int)] w fun e w' => e = .returned (.tuple #[.int .i64 ((decB s B i).1 : Nat), .int .i64 ((decB s B i).2 : Nat)]) ∧ w = w' := by
  have HR := Lib.hid (show decB s B i = _ from runeP_err (dN_2x _ _ _ _ _ ⟨h0, h0b⟩ (by omega)))
  have u0 := hu i
  have u1 := hu (i + 1)
  have u2 := hu (i + 2)
  have u3 := hu (i + 3)
  clear hu
  have t1 : ((i : Int) + 1).toNat = i + 1 := by omega
  have z1 : (0 : Int) ≤ (i : Int) + 1 := by omega
  have l1 : i + 1 < s.size := by omega
  go_enter Tryd.func27, Tryd.ntmps27
  go_wp2
  go_rounds 2
  go_ret2
  exact ⟨by rw [HR.out]; rfl, rfl⟩

set_option maxHeartbeats 3200000 in
set_option maxRecDepth 100000 in
theorem rn_2b (s : ByteArray) (i : Nat) (w : World) (hs : s.size ≤ 1100000) (hi : i < s.size) (B : Nat → Nat) (hB : ∀ (n : Nat) (h : n < s.size), (s[n]'h).toNat = B n) (hu : ∀ n, B n < 256) (h0 : 192 ≤ B i) (h0b : B i < 224) (hn : i + 2 ≤ s.size) (c1 : 192 ≤ B (i + 1)) :
    Calls Tryd.prog 27 #[.string s, .int .i64 (i : Int)] w fun e w' => e = .returned (.tuple #[.int .i64 ((decB s B i).1 : Nat), .int .i64 ((decB s B i).2 : Nat)]) ∧ w = w' := by
  have HR := Lib.hid (show decB s B i = _ from runeP_err (dN_2x _ _ _ _ _ ⟨h0, h0b⟩ (by omega)))
  have u0 := hu i
  have u1 := hu (i + 1)
  have u2 := hu (i + 2)
  have u3 := hu (i + 3)
  clear hu
  have t1 : ((i : Int) + 1).toNat = i + 1 := by omega
  have z1 : (0 : Int) ≤ (i : Int) + 1 := by omega
  have l1 : i + 1 < s.size := by omega
  go_enter Tryd.func27, Tryd.ntmps27
  go_wp2
  go_rounds 2
  go_ret2
  exact ⟨by rw [HR.out]; rfl, rfl⟩

set_option maxHeartbeats 3200000 in
set_option maxRecDepth 100000 in
theorem rn_2l (s : ByteArray) (i : Nat) (w : World) (hs : s.size ≤ 1100000) (hi : i < s.size) (B : Nat → Nat) (hB : ∀ (n : Nat) (h : n < s.size), (s[n]'h).toNat = B n) (hu : ∀ n, B n < 256) (h0 : 192 ≤ B i) (h0b : B i < 224) (hn : i + 2 ≤ s.size) (c1 : 128 ≤ B (i + 1)) (d1 : B (i + 1) < 192) (hv : B i * 64 + B (i + 1) < 12544) :
    Calls Tryd.prog 27 #[.string s, .int .i64 (i : Int)] w fun e w' => e = .returned (.tuple #[.int .i64 ((decB s B i).1 : Nat), .int .i64 ((decB s B i).2 : Nat)]) ∧ w = w' := by
  have HR := Lib.hid (show decB s B i = _ from runeP_err (dN_2x _ _ _ _ _ ⟨h0, h0b⟩ (by omega)))
  have u0 := hu i
  have u1 := hu (i + 1)
  have u2 := hu (i + 2)
  have u3 := hu (i + 3)
  clear hu
  have t1 : ((i : Int) + 1).toNat = i + 1 := by omega
  have z1 : (0 : Int) ≤ (i : Int) + 1 := by omega
  have l1 : i + 1 < s.size := by omega
  go_enter Tryd.func27, Tryd.ntmps27
  go_wp2
  go_rounds 3
  go_ret2
  exact ⟨by rw [HR.out]; rfl, rfl⟩

set_option maxHeartbeats 3200000 in
set_option maxRecDepth 100000 in
theorem rn_2 (s : ByteArray) (i : Nat) (w : World) (hs : s.size ≤ 1100000) (hi : i < s.size) (B : Nat → Nat) (hB : ∀ (n : Nat) (h : n < s.size), (s[n]'h).toNat = B n) (hu : ∀ n, B n < 256) (h0 : 192 ≤ B i) (h0b : B i < 224) (hn : i + 2 ≤ s.size) (c1 : 128 ≤ B (i + 1)) (d1 : B (i + 1) < 192) (hl : 12544 ≤ B i * 64 + B (i + 1)) (v : Nat) (hv : v + 12416 = B i * 64 + B (i + 1)) :
    Calls Tryd.prog 27 #[.string s, .int .i64 (i : Int)] w fun e w' => e = .returned (.tuple #[.int .i64 ((decB s B i).1 : Nat), .int .i64 ((decB s B i).2 : Nat)]) ∧ w = w' := by
  have HR := Lib.hid (show decB s B i = _ from runeP_wide (dN_2 _ _ _ _ _ v ⟨h0, h0b⟩ (by omega) hv) (by omega))
  have u0 := hu i
  have u1 := hu (i + 1)
  have u2 := hu (i + 2)
  have u3 := hu (i + 3)
  clear hu
  have HV := Lib.hid hv; clear hv
  have t1 : ((i : Int) + 1).toNat = i + 1 := by omega
  have z1 : (0 : Int) ≤ (i : Int) + 1 := by omega
  have l1 : i + 1 < s.size := by omega
  go_enter Tryd.func27, Tryd.ntmps27
  go_wp2
  go_rounds 3
  go_ret2
  refine ⟨?_, rfl⟩
  rw [HR.out]
  show Ending.returned (Value.tuple #[Value.int IntKind.i64 (((B i : Int) - 192) * 64 + (B (i + 1) : Int) - 128), _]) = _
  have hv := HV.out
  rw [show (((B i : Int) - 192) * 64 + (B (i + 1) : Int) - 128) = ((v : Nat) : Int) from by clear t1; omega]
  rfl

theorem rune_A (s : ByteArray) (i : Nat) (w : World) (hs : s.size ≤ 1100000) (hi : i < s.size) (B : Nat → Nat) (hB : ∀ (n : Nat) (h : n < s.size), (s[n]'h).toNat = B n) (hu : ∀ n, B n < 256) (h : B i < 224 ∨ 248 ≤ B i) :
    Calls Tryd.prog 27 #[.string s, .int .i64 (i : Int)] w fun e w' => e = .returned (.tuple #[.int .i64 ((decB s B i).1 : Nat), .int .i64 ((decB s B i).2 : Nat)]) ∧ w = w' := by
  by_cases h1 : B i < 128
  · exact rn_1 s i w hs hi B hB hu h1
  by_cases h2 : 248 ≤ B i
  · exact rn_0b s i w hs hi B hB hu h2
  by_cases h3 : B i < 192
  · exact rn_0a s i w hs hi B hB hu (by omega) h3
  by_cases h4 : s.size < i + 2
  · exact rn_2s s i w hs hi B hB hu (by omega) (by omega) h4
  by_cases h5 : B (i + 1) < 128
  · exact rn_2a s i w hs hi B hB hu (by omega) (by omega) (by omega) h5
  by_cases h6 : 192 ≤ B (i + 1)
  · exact rn_2b s i w hs hi B hB hu (by omega) (by omega) (by omega) h6
  by_cases h7 : B i * 64 + B (i + 1) < 12544
  · exact rn_2l s i w hs hi B hB hu (by omega) (by omega) (by omega) (by omega) (by omega) h7
  · exact rn_2 s i w hs hi B hB hu (by omega) (by omega) (by omega) (by omega) (by omega) (by omega) (B i * 64 + B (i + 1) - 12416) (by omega)
end Go.Proofs.YtejmofekbeaoeaaDoor
