/- The document's Rune: four bytes. -/
import Derived.Test.YtejmofekbeaoeaaDoorTxtRune
namespace Go.Proofs.YtejmofekbeaoeaaDoor
open Go.RowKit Go.Shelf Go.Lib
set_option linter.unusedVariables false

set_option maxHeartbeats 3200000 in
set_option maxRecDepth 100000 in
theorem rn_4s (s : ByteArray) (i : Nat) (w : World) (hs : s.size ≤ 1100000) (hi : i < s.size) (B : Nat → Nat) (hB : ∀ (n : Nat) (h : n < s.size), (s[n]'h).toNat = B n) (hu : ∀ n, B n < 256) (h0 : 240 ≤ B i) (h0b : B i < 248) (hn : s.size < i + 4) :
    Calls Tryd.prog 27 #[.string s, .int .i64 (i : Int)] w fun e w' => e = .returned (.tuple #[.int .i64 ((decB s B i).1 : Nat), .int .i64 ((decB s B i).2 : Nat)]) ∧ w = w' := by
  have HR := Lib.hid (show decB s B i = _ from runeP_err (dN_4x _ _ _ _ _ ⟨h0, h0b⟩ (by omega)))
  have u0 := hu i
  have u1 := hu (i + 1)
  have u2 := hu (i + 2)
  have u3 := hu (i + 3)
  clear hu
  go_enter Tryd.func27, Tryd.ntmps27
  go_wp2
  go_ret2
  exact ⟨by rw [HR.out]; rfl, rfl⟩

set_option maxHeartbeats 3200000 in
set_option maxRecDepth 100000 in
theorem rn_4a (s : ByteArray) (i : Nat) (w : World) (hs : s.size ≤ 1100000) (hi : i < s.size) (B : Nat → Nat) (hB : ∀ (n : Nat) (h : n < s.size), (s[n]'h).toNat = B n) (hu : ∀ n, B n < 256) (h0 : 240 ≤ B i) (h0b : B i < 248) (hn : i + 4 ≤ s.size) (c1 : B (i + 1) < 128) :
    Calls Tryd.prog 27 #[.string s, .int .i64 (i : Int)] w fun e w' => e = .returned (.tuple #[.int .i64 ((decB s B i).1 : Nat), .int .i64 ((decB s B i).2 : Nat)]) ∧ w = w' := by
  have HR := Lib.hid (show decB s B i = _ from runeP_err (dN_4x _ _ _ _ _ ⟨h0, h0b⟩ (by omega)))
  have u0 := hu i
  have u1 := hu (i + 1)
  have u2 := hu (i + 2)
  have u3 := hu (i + 3)
  clear hu
  have t1 : ((i : Int) + 1).toNat = i + 1 := by omega
  have z1 : (0 : Int) ≤ (i : Int) + 1 := by omega
  have l1 : i + 1 < s.size := by omega
  go_enter Tryd.func27, Tryd.ntmps27
  go_wp2
  go_rounds 2
  go_ret2
  exact ⟨by rw [HR.out]; rfl, rfl⟩

set_option maxHeartbeats 3200000 in
set_option maxRecDepth 100000 in
theorem rn_4b (s : ByteArray) (i : Nat) (w : World) (hs : s.size ≤ 1100000) (hi : i < s.size) (B : Nat → Nat) (hB : ∀ (n : Nat) (h : n < s.size), (s[n]'h).toNat = B n) (hu : ∀ n, B n < 256) (h0 : 240 ≤ B i) (h0b : B i < 248) (hn : i + 4 ≤ s.size) (c1 : 192 ≤ B (i + 1)) :
    Calls Tryd.prog 27 #[.string s, .int .i64 (i : Int)] w fun e w' => e = .returned (.tuple #[.int .i64 ((decB s B i).1 : Nat), .int .i64 ((decB s B i).2 : Nat)]) ∧ w = w' := by
  have HR := Lib.hid (show decB s B i = _ from runeP_err (dN_4x _ _ _ _ _ ⟨h0, h0b⟩ (by omega)))
  have u0 := hu i
  have u1 := hu (i + 1)
  have u2 := hu (i + 2)
  have u3 := hu (i + 3)
  clear hu
  have t1 : ((i : Int) + 1).toNat = i + 1 := by omega
  have z1 : (0 : Int) ≤ (i : Int) + 1 := by omega
  have l1 : i + 1 < s.size := by omega
  go_enter Tryd.func27, Tryd.ntmps27
  go_wp2
  go_rounds 2
  go_ret2
  exact ⟨by rw [HR.out]; rfl, rfl⟩

set_option maxHeartbeats 3200000 in
set_option maxRecDepth 100000 in
theorem rn_4c (s : ByteArray) (i : Nat) (w : World) (hs : s.size ≤ 1100000) (hi : i < s.size) (B : Nat → Nat) (hB : ∀ (n : Nat) (h : n < s.size), (s[n]'h).toNat = B n) (hu : ∀ n, B n < 256) (h0 : 240 ≤ B i) (h0b : B i < 248) (hn : i + 4 ≤ s.size) (c1 : 128 ≤ B (i + 1)) (d1 : B (i + 1) < 192) (c2 : B (i + 2) < 128) :
    Calls Tryd.prog 27 #[.string s, .int .i64 (i : Int)] w fun e w' => e = .returned (.tuple #[.int .i64 ((decB s B i).1 : Nat), .int .i64 ((decB s B i).2 : Nat)]) ∧ w = w' := by
  have HR := Lib.hid (show decB s B i = _ from runeP_err (dN_4x _ _ _ _ _ ⟨h0, h0b⟩ (by omega)))
  have u0 := hu i
  have u1 := hu (i + 1)
  have u2 := hu (i + 2)
  have u3 := hu (i + 3)
  clear hu
  have t1 : ((i : Int) + 1).toNat = i + 1 := by omega
  have z1 : (0 : Int) ≤ (i : Int) + 1 := by omega
  have l1 : i + 1 < s.size := by omega
  have t2 : ((i : Int) + 2).toNat = i + 2 := by omega
  have z2 : (0 : Int) ≤ (i : Int) + 2 := by omega
  have l2 : i + 2 < s.size := by omega
  go_enter Tryd.func27, Tryd.ntmps27
  go_wp2
  go_rounds 3
  go_ret2
  exact ⟨by rw [HR.out]; rfl, rfl⟩

set_option maxHeartbeats 3200000 in
set_option maxRecDepth 100000 in
theorem rn_4d (s : ByteArray) (i : Nat) (w : World) (hs : s.size ≤ 1100000) (hi : i < s.size) (B : Nat → Nat) (hB : ∀ (n : Nat) (h : n < s.size), (s[n]'h).toNat = B n) (hu : ∀ n, B n < 256) (h0 : 240 ≤ B i) (h0b : B i < 248) (hn : i + 4 ≤ s.size) (c1 : 128 ≤ B (i + 1)) (d1 : B (i + 1) < 192) (c2 : 192 ≤ B (i + 2)) :
    Calls Tryd.prog 27 #[.string s, .int .i64 (i : Int)] w fun e w' => e = .returned (.tuple #[.int .i64 ((decB s B i).1 : Nat), .int .i64 ((decB s B i).2 : Nat)]) ∧ w = w' := by
  have HR := Lib.hid (show decB s B i = _ from runeP_err (dN_4x _ _ _ _ _ ⟨h0, h0b⟩ (by omega)))
  have u0 := hu i
  have u1 := hu (i + 1)
  have u2 := hu (i + 2)
  have u3 := hu (i + 3)
  clear hu
  have t1 : ((i : Int) + 1).toNat = i + 1 := by omega
  have z1 : (0 : Int) ≤ (i : Int) + 1 := by omega
  have l1 : i + 1 < s.size := by omega
  have t2 : ((i : Int) + 2).toNat = i + 2 := by omega
  have z2 : (0 : Int) ≤ (i : Int) + 2 := by omega
  have l2 : i + 2 < s.size := by omega
  go_enter Tryd.func27, Tryd.ntmps27
  go_wp2
  go_rounds 3
  go_ret2
  exact ⟨by rw [HR.out]; rfl, rfl⟩

set_option maxHeartbeats 3200000 in
set_option maxRecDepth 100000 in
theorem rn_4e (s : ByteArray) (i : Nat) (w : World) (hs : s.size ≤ 1100000) (hi : i < s.size) (B : Nat → Nat) (hB : ∀ (n : Nat) (h : n < s.size), (s[n]'h).toNat = B n) (hu : ∀ n, B n < 256) (h0 : 240 ≤ B i) (h0b : B i < 248) (hn : i + 4 ≤ s.size) (c1 : 128 ≤ B (i + 1)) (d1 : B (i + 1) < 192) (c2 : 128 ≤ B (i + 2)) (d2 : B (i + 2) < 192) (c3 : B (i + 3) < 128) :
    Calls Tryd.prog 27 #[.string s, .int .i64 (i : Int)] w fun e w' => e = .returned (.tuple #[.int .i64 ((decB s B i).1 : Nat), .int .i64 ((decB s B i).2 : Nat)]) ∧ w = w' := by
  have HR := Lib.hid (show decB s B i = _ from runeP_err (dN_4x _ _ _ _ _ ⟨h0, h0b⟩ (by omega)))
  have u0 := hu i
  have u1 := hu (i + 1)
  have u2 := hu (i + 2)
  have u3 := hu (i + 3)
  clear hu
  have t1 : ((i : Int) + 1).toNat = i + 1 := by omega
  have z1 : (0 : Int) ≤ (i : Int) + 1 := by omega
  have l1 : i + 1 < s.size := by omega
  have t2 : ((i : Int) + 2).toNat = i + 2 := by omega
  have z2 : (0 : Int) ≤ (i : Int) + 2 := by omega
  have l2 : i + 2 < s.size := by omega
  have t3 : ((i : Int) + 3).toNat = i + 3 := by omega
  have z3 : (0 : Int) ≤ (i : Int) + 3 := by omega
  have l3 : i + 3 < s.size := by omega
  go_enter Tryd.func27, Tryd.ntmps27
  go_wp2
  go_rounds 4
  go_ret2
  exact ⟨by rw [HR.out]; rfl, rfl⟩

set_option maxHeartbeats 3200000 in
set_option maxRecDepth 100000 in
theorem rn_4f (s : ByteArray) (i : Nat) (w : World) (hs : s.size ≤ 1100000) (hi : i < s.size) (B : Nat → Nat) (hB : ∀ (n : Nat) (h : n < s.size), (s[n]'h).toNat = B n) (hu : ∀ n, B n < 256) (h0 : 240 ≤ B i) (h0b : B i < 248) (hn : i + 4 ≤ s.size) (c1 : 128 ≤ B (i + 1)) (d1 : B (i + 1) < 192) (c2 : 128 ≤ B (i + 2)) (d2 : B (i + 2) < 192) (c3 : 192 ≤ B (i + 3)) :
    Calls Tryd.prog 27 #[.string s, .int .i64 (i : Int)] w fun e w' => e = .returned (.tuple #[.int .i64 ((decB s B i).1 : Nat), .int .i64 ((decB s B i).2 : Nat)]) ∧ w = w' := by
  have HR := Lib.hid (show decB s B i = _ from runeP_err (dN_4x _ _ _ _ _ ⟨h0, h0b⟩ (by omega)))
  have u0 := hu i
  have u1 := hu (i + 1)
  have u2 := hu (i + 2)
  have u3 := hu (i + 3)
  clear hu
  have t1 : ((i : Int) + 1).toNat = i + 1 := by omega
  have z1 : (0 : Int) ≤ (i : Int) + 1 := by omega
  have l1 : i + 1 < s.size := by omega
  have t2 : ((i : Int) + 2).toNat = i + 2 := by omega
  have z2 : (0 : Int) ≤ (i : Int) + 2 := by omega
  have l2 : i + 2 < s.size := by omega
  have t3 : ((i : Int) + 3).toNat = i + 3 := by omega
  have z3 : (0 : Int) ≤ (i : Int) + 3 := by omega
  have l3 : i + 3 < s.size := by omega
  go_enter Tryd.func27, Tryd.ntmps27
  go_wp2
  go_rounds 4
  go_ret2
  exact ⟨by rw [HR.out]; rfl, rfl⟩

set_option maxHeartbeats 3200000 in
set_option maxRecDepth 100000 in
theorem rn_4l (s : ByteArray) (i : Nat) (w : World) (hs : s.size ≤ 1100000) (hi : i < s.size) (B : Nat → Nat) (hB : ∀ (n : Nat) (h : n < s.size), (s[n]'h).toNat = B n) (hu : ∀ n, B n < 256) (h0 : 240 ≤ B i) (h0b : B i < 248) (hn : i + 4 ≤ s.size) (c1 : 128 ≤ B (i + 1)) (d1 : B (i + 1) < 192) (c2 : 128 ≤ B (i + 2)) (d2 : B (i + 2) < 192) (c3 : 128 ≤ B (i + 3)) (d3 : B (i + 3) < 192) (hv : B i * 262144 + B (i + 1) * 4096 + B (i + 2) * 64 + B (i + 3) < 63512704) :
    Calls Tryd.prog 27 #[.string s, .int .i64 (i : Int)] w fun e w' => e = .returned (.tuple #[.int .i64 ((decB s B i).1 : Nat), .int .i64 ((decB s B i).2 : Nat)]) ∧ w = w' := by
  have HR := Lib.hid (show decB s B i = _ from runeP_err (dN_4x _ _ _ _ _ ⟨h0, h0b⟩ (by omega)))
  have u0 := hu i
  have u1 := hu (i + 1)
  have u2 := hu (i + 2)
  have u3 := hu (i + 3)
  clear hu
  have t1 : ((i : Int) + 1).toNat = i + 1 := by omega
  have z1 : (0 : Int) ≤ (i : Int) + 1 := by omega
  have l1 : i + 1 < s.size := by omega
  have t2 : ((i : Int) + 2).toNat = i + 2 := by omega
  have z2 : (0 : Int) ≤ (i : Int) + 2 := by omega
  have l2 : i + 2 < s.size := by omega
  have t3 : ((i : Int) + 3).toNat = i + 3 := by omega
  have z3 : (0 : Int) ≤ (i : Int) + 3 := by omega
  have l3 : i + 3 < s.size := by omega
  go_enter Tryd.func27, Tryd.ntmps27
  go_wp2
  go_rounds 5
  go_ret2
  exact ⟨by rw [HR.out]; rfl, rfl⟩

set_option maxHeartbeats 3200000 in
set_option maxRecDepth 100000 in
theorem rn_4m (s : ByteArray) (i : Nat) (w : World) (hs : s.size ≤ 1100000) (hi : i < s.size) (B : Nat → Nat) (hB : ∀ (n : Nat) (h : n < s.size), (s[n]'h).toNat = B n) (hu : ∀ n, B n < 256) (h0 : 240 ≤ B i) (h0b : B i < 248) (hn : i + 4 ≤ s.size) (c1 : 128 ≤ B (i + 1)) (d1 : B (i + 1) < 192) (c2 : 128 ≤ B (i + 2)) (d2 : B (i + 2) < 192) (c3 : 128 ≤ B (i + 3)) (d3 : B (i + 3) < 192) (hv : 64561279 < B i * 262144 + B (i + 1) * 4096 + B (i + 2) * 64 + B (i + 3)) :
    Calls Tryd.prog 27 #[.string s, .int .i64 (i : Int)] w fun e w' => e = .returned (.tuple #[.int .i64 ((decB s B i).1 : Nat), .int .i64 ((decB s B i).2 : Nat)]) ∧ w = w' := by
  have HR := Lib.hid (show decB s B i = _ from runeP_err (dN_4x _ _ _ _ _ ⟨h0, h0b⟩ (by omega)))
  have u0 := hu i
  have u1 := hu (i + 1)
  have u2 := hu (i + 2)
  have u3 := hu (i + 3)
  clear hu
  have t1 : ((i : Int) + 1).toNat = i + 1 := by omega
  have z1 : (0 : Int) ≤ (i : Int) + 1 := by omega
  have l1 : i + 1 < s.size := by omega
  have t2 : ((i : Int) + 2).toNat = i + 2 := by omega
  have z2 : (0 : Int) ≤ (i : Int) + 2 := by omega
  have l2 : i + 2 < s.size := by omega
  have t3 : ((i : Int) + 3).toNat = i + 3 := by omega
  have z3 : (0 : Int) ≤ (i : Int) + 3 := by omega
  have l3 : i + 3 < s.size := by omega
  go_enter Tryd.func27, Tryd.ntmps27
  go_wp2
  go_rounds 5
  go_ret2
  exact ⟨by rw [HR.out]; rfl, rfl⟩

set_option maxHeartbeats 3200000 in
set_option maxRecDepth 100000 in
theorem rn_4 (s : ByteArray) (i : Nat) (w : World) (hs : s.size ≤ 1100000) (hi : i < s.size) (B : Nat → Nat) (hB : ∀ (n : Nat) (h : n < s.size), (s[n]'h).toNat = B n) (hu : ∀ n, B n < 256) (h0 : 240 ≤ B i) (h0b : B i < 248) (hn : i + 4 ≤ s.size) (c1 : 128 ≤ B (i + 1)) (d1 : B (i + 1) < 192) (c2 : 128 ≤ B (i + 2)) (d2 : B (i + 2) < 192) (c3 : 128 ≤ B (i + 3)) (d3 : B (i + 3) < 192) (m1 : 63512704 ≤ B i * 262144 + B (i + 1) * 4096 + B (i + 2) * 64 + B (i + 3)) (m2 : B i * 262144 + B (i + 1) * 4096 + B (i + 2) * 64 + B (i + 3) ≤ 64561279) (v : Nat) (hv : v + 63447168 = B i * 262144 + B (i + 1) * 4096 + B (i + 2) * 64 + B (i + 3)) :
    Calls Tryd.prog 27 #[.string s, .int .i64 (i : Int)] w fun e w' => e = .returned (.tuple #[.int .i64 ((decB s B i).1 : Nat), .int .i64 ((decB s B i).2 : Nat)]) ∧ w = w' := by
  have HR := Lib.hid (show decB s B i = _ from runeP_wide (dN_4 _ _ _ _ _ v ⟨h0, h0b⟩ (by omega) hv (by omega)) (by omega))
  have u0 := hu i
  have u1 := hu (i + 1)
  have u2 := hu (i + 2)
  have u3 := hu (i + 3)
  clear hu
  have HV := Lib.hid hv; clear hv
  have t1 : ((i : Int) + 1).toNat = i + 1 := by omega
  have z1 : (0 : Int) ≤ (i : Int) + 1 := by omega
  have l1 : i + 1 < s.size := by omega
  have t2 : ((i : Int) + 2).toNat = i + 2 := by omega
  have z2 : (0 : Int) ≤ (i : Int) + 2 := by omega
  have l2 : i + 2 < s.size := by omega
  have t3 : ((i : Int) + 3).toNat = i + 3 := by omega
  have z3 : (0 : Int) ≤ (i : Int) + 3 := by omega
  have l3 : i + 3 < s.size := by omega
  go_enter Tryd.func27, Tryd.ntmps27
  go_wp2
  go_rounds 5
  go_ret2
  refine ⟨?_, rfl⟩
  rw [HR.out]
  show Ending.returned (Value.tuple #[Value.int IntKind.i64 ((((((B i : Int) - 240) * 64 + (B (i + 1) : Int) - 128)) * 64 + (B (i + 2) : Int) - 128) * 64 + (B (i + 3) : Int) - 128), _]) = _
  have hv := HV.out
  rw [show ((((((B i : Int) - 240) * 64 + (B (i + 1) : Int) - 128)) * 64 + (B (i + 2) : Int) - 128) * 64 + (B (i + 3) : Int) - 128) = ((v : Nat) : Int) from by clear t1; omega]
  rfl

theorem rune_D (s : ByteArray) (i : Nat) (w : World) (hs : s.size ≤ 1100000) (hi : i < s.size) (B : Nat → Nat) (hB : ∀ (n : Nat) (h : n < s.size), (s[n]'h).toNat = B n) (hu : ∀ n, B n < 256) (h0 : 240 ≤ B i) (h0b : B i < 248) :
    Calls Tryd.prog 27 #[.string s, .int .i64 (i : Int)] w fun e w' => e = .returned (.tuple #[.int .i64 ((decB s B i).1 : Nat), .int .i64 ((decB s B i).2 : Nat)]) ∧ w = w' := by
  by_cases h4 : s.size < i + 4
  · exact rn_4s s i w hs hi B hB hu h0 h0b h4
  by_cases h5 : B (i + 1) < 128
  · exact rn_4a s i w hs hi B hB hu h0 h0b (by omega) h5
  by_cases h6 : 192 ≤ B (i + 1)
  · exact rn_4b s i w hs hi B hB hu h0 h0b (by omega) h6
  by_cases h7 : B (i + 2) < 128
  · exact rn_4c s i w hs hi B hB hu h0 h0b (by omega) (by omega) (by omega) h7
  by_cases h8 : 192 ≤ B (i + 2)
  · exact rn_4d s i w hs hi B hB hu h0 h0b (by omega) (by omega) (by omega) h8
  by_cases h9 : B (i + 3) < 128
  · exact rn_4e s i w hs hi B hB hu h0 h0b (by omega) (by omega) (by omega) (by omega) (by omega) h9
  by_cases h10 : 192 ≤ B (i + 3)
  · exact rn_4f s i w hs hi B hB hu h0 h0b (by omega) (by omega) (by omega) (by omega) (by omega) h10
  by_cases h11 : B i * 262144 + B (i + 1) * 4096 + B (i + 2) * 64 + B (i + 3) < 63512704
  · exact rn_4l s i w hs hi B hB hu h0 h0b (by omega) (by omega) (by omega) (by omega) (by omega) (by omega) (by omega) h11
  by_cases h12 : 64561279 < B i * 262144 + B (i + 1) * 4096 + B (i + 2) * 64 + B (i + 3)
  · exact rn_4m s i w hs hi B hB hu h0 h0b (by omega) (by omega) (by omega) (by omega) (by omega) (by omega) (by omega) h12
  · exact rn_4 s i w hs hi B hB hu h0 h0b (by omega) (by omega) (by omega) (by omega) (by omega) (by omega) (by omega) (by omega) (by omega) (B i * 262144 + B (i + 1) * 4096 + B (i + 2) * 64 + B (i + 3) - 63447168) (by omega)
end Go.Proofs.YtejmofekbeaoeaaDoor
