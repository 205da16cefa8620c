/- The document's Rune: three bytes. -/
import Derived.Test.YtejmofekbeaoeaaDoorTxtRune
namespace Go.Proofs.YtejmofekbeaoeaaDoor
open Go.RowKit Go.Shelf Go.Lib
set_option linter.unusedVariables false

set_option maxHeartbeats 3200000 in
set_option maxRecDepth 100000 in
theorem rn_3s (s : ByteArray) (i : Nat) (w : World) (hs : s.size ≤ 1100000) (hi : i < s.size) (B : Nat → Nat) (hB : ∀ (n : Nat) (h : n < s.size), (s[n]'h).toNat = B n) (hu : ∀ n, B n < 256) (h0 : 224 ≤ B i) (h0b : B i < 240) (hn : s.size < i + 3) :
    Calls Tryd.prog 27 #[.string s, .int .i64 (i : Int)] w fun e w' => e = .returned (.tuple #[.int .i64 ((decB s B i).1 : Nat), .int .i64 ((decB s B i).2 : Nat)]) ∧ w = w' := by
  have HR := Lib.hid (show decB s B i = _ from runeP_err (dN_3x _ _ _ _ _ ⟨h0, h0b⟩ (by omega)))
  have u0 := hu i
  have u1 := hu (i + 1)
  have u2 := hu (i + 2)
  have u3 := hu (i + 3)
  clear hu
  go_enter Tryd.func27, Tryd.ntmps27
  go_wp2
  go_ret2
  exact ⟨by rw [HR.out]; rfl, rfl⟩

set_option maxHeartbeats 3200000 in
set_option maxRecDepth 100000 in
theorem rn_3a (s : ByteArray) (i : Nat) (w : World) (hs : s.size ≤ 1100000) (hi : i < s.size) (B : Nat → Nat) (hB : ∀ (n : Nat) (h : n < s.size), (s[n]'h).toNat = B n) (hu : ∀ n, B n < 256) (h0 : 224 ≤ B i) (h0b : B i < 240) (hn : i + 3 ≤ s.size) (c1 : B (i + 1) < 128) :
    Calls Tryd.prog 27 #[.string s, .int .i64 (i : Int)] w fun e w' => e = .returned (.tuple #[.int .i64 ((decB s B i).1 : Nat), .int .i64 ((decB s B i).2 : Nat)]) ∧ w = w' := by
  have HR := Lib.hid (show decB s B i = _ from runeP_err (dN_3x _ _ _ _ _ ⟨h0, h0b⟩ (by omega)))
  have u0 := hu i
  have u1 := hu (i + 1)
  have u2 := hu (i + 2)
  have u3 := hu (i + 3)
  clear hu
  have t1 : ((i : Int) + 1).toNat = i + 1 := by omega
  have z1 : (0 : Int) ≤ (i : Int) + 1 := by omega
  have l1 : i + 1 < s.size := by omega
  go_enter Tryd.func27, Tryd.ntmps27
  go_wp2
  go_rounds 2
  go_ret2
  exact ⟨by rw [HR.out]; rfl, rfl⟩

set_option maxHeartbeats 3200000 in
set_option maxRecDepth 100000 in
theorem rn_3b (s : ByteArray) (i : Nat) (w : World) (hs : s.size ≤ 1100000) (hi : i < s.size) (B : Nat → Nat) (hB : ∀ (n : Nat) (h : n < s.size), (s[n]'h).toNat = B n) (hu : ∀ n, B n < 256) (h0 : 224 ≤ B i) (h0b : B i < 240) (hn : i + 3 ≤ s.size) (c1 : 192 ≤ B (i + 1)) :
    Calls Tryd.prog 27 #[.string s, .int .i64 (i : Int)] w fun e w' => e = .returned (.tuple #[.int .i64 ((decB s B i).1 : Nat), .int .i64 ((decB s B i).2 : Nat)]) ∧ w = w' := by
  have HR := Lib.hid (show decB s B i = _ from runeP_err (dN_3x _ _ _ _ _ ⟨h0, h0b⟩ (by omega)))
  have u0 := hu i
  have u1 := hu (i + 1)
  have u2 := hu (i + 2)
  have u3 := hu (i + 3)
  clear hu
  have t1 : ((i : Int) + 1).toNat = i + 1 := by omega
  have z1 : (0 : Int) ≤ (i : Int) + 1 := by omega
  have l1 : i + 1 < s.size := by omega
  go_enter Tryd.func27, Tryd.ntmps27
  go_wp2
  go_rounds 2
  go_ret2
  exact ⟨by rw [HR.out]; rfl, rfl⟩

set_option maxHeartbeats 3200000 in
set_option maxRecDepth 100000 in
theorem rn_3c (s : ByteArray) (i : Nat) (w : World) (hs : s.size ≤ 1100000) (hi : i < s.size) (B : Nat → Nat) (hB : ∀ (n : Nat) (h : n < s.size), (s[n]'h).toNat = B n) (hu : ∀ n, B n < 256) (h0 : 224 ≤ B i) (h0b : B i < 240) (hn : i + 3 ≤ s.size) (c1 : 128 ≤ B (i + 1)) (d1 : B (i + 1) < 192) (c2 : B (i + 2) < 128) :
    Calls Tryd.prog 27 #[.string s, .int .i64 (i : Int)] w fun e w' => e = .returned (.tuple #[.int .i64 ((decB s B i).1 : Nat), .int .i64 ((decB s B i).2 : Nat)]) ∧ w = w' := by
  have HR := Lib.hid (show decB s B i = _ from runeP_err (dN_3x _ _ _ _ _ ⟨h0, h0b⟩ (by omega)))
  have u0 := hu i
  have u1 := hu (i + 1)
  have u2 := hu (i + 2)
  have u3 := hu (i + 3)
  clear hu
  have t1 : ((i : Int) + 1).toNat = i + 1 := by omega
  have z1 : (0 : Int) ≤ (i : Int) + 1 := by omega
  have l1 : i + 1 < s.size := by omega
  have t2 : ((i : Int) + 2).toNat = i + 2 := by omega
  have z2 : (0 : Int) ≤ (i : Int) + 2 := by omega
  have l2 : i + 2 < s.size := by omega
  go_enter Tryd.func27, Tryd.ntmps27
  go_wp2
  go_rounds 3
  go_ret2
  exact ⟨by rw [HR.out]; rfl, rfl⟩

set_option maxHeartbeats 3200000 in
set_option maxRecDepth 100000 in
theorem rn_3d (s : ByteArray) (i : Nat) (w : World) (hs : s.size ≤ 1100000) (hi : i < s.size) (B : Nat → Nat) (hB : ∀ (n : Nat) (h : n < s.size), (s[n]'h).toNat = B n) (hu : ∀ n, B n < 256) (h0 : 224 ≤ B i) (h0b : B i < 240) (hn : i + 3 ≤ s.size) (c1 : 128 ≤ B (i + 1)) (d1 : B (i + 1) < 192) (c2 : 192 ≤ B (i + 2)) :
    Calls Tryd.prog 27 #[.string s, .int .i64 (i : Int)] w fun e w' => e = .returned (.tuple #[.int .i64 ((decB s B i).1 : Nat), .int .i64 ((decB s B i).2 : Nat)]) ∧ w = w' := by
  have HR := Lib.hid (show decB s B i = _ from runeP_err (dN_3x _ _ _ _ _ ⟨h0, h0b⟩ (by omega)))
  have u0 := hu i
  have u1 := hu (i + 1)
  have u2 := hu (i + 2)
  have u3 := hu (i + 3)
  clear hu
  have t1 : ((i : Int) + 1).toNat = i + 1 := by omega
  have z1 : (0 : Int) ≤ (i : Int) + 1 := by omega
  have l1 : i + 1 < s.size := by omega
  have t2 : ((i : Int) + 2).toNat = i + 2 := by omega
  have z2 : (0 : Int) ≤ (i : Int) + 2 := by omega
  have l2 : i + 2 < s.size := by omega
  go_enter Tryd.func27, Tryd.ntmps27
  go_wp2
  go_rounds 3
  go_ret2
  exact ⟨by rw [HR.out]; rfl, rfl⟩

set_option maxHeartbeats 3200000 in
set_option maxRecDepth 100000 in
theorem rn_3l (s : ByteArray) (i : Nat) (w : World) (hs : s.size ≤ 1100000) (hi : i < s.size) (B : Nat → Nat) (hB : ∀ (n : Nat) (h : n < s.size), (s[n]'h).toNat = B n) (hu : ∀ n, B n < 256) (h0 : 224 ≤ B i) (h0b : B i < 240) (hn : i + 3 ≤ s.size) (c1 : 128 ≤ B (i + 1)) (d1 : B (i + 1) < 192) (c2 : 128 ≤ B (i + 2)) (d2 : B (i + 2) < 192) (hv : B i * 4096 + B (i + 1) * 64 + B (i + 2) < 927872) :
    Calls Tryd.prog 27 #[.string s, .int .i64 (i : Int)] w fun e w' => e = .returned (.tuple #[.int .i64 ((decB s B i).1 : Nat), .int .i64 ((decB s B i).2 : Nat)]) ∧ w = w' := by
  have HR := Lib.hid (show decB s B i = _ from runeP_err (dN_3x _ _ _ _ _ ⟨h0, h0b⟩ (by omega)))
  have u0 := hu i
  have u1 := hu (i + 1)
  have u2 := hu (i + 2)
  have u3 := hu (i + 3)
  clear hu
  have t1 : ((i : Int) + 1).toNat = i + 1 := by omega
  have z1 : (0 : Int) ≤ (i : Int) + 1 := by omega
  have l1 : i + 1 < s.size := by omega
  have t2 : ((i : Int) + 2).toNat = i + 2 := by omega
  have z2 : (0 : Int) ≤ (i : Int) + 2 := by omega
  have l2 : i + 2 < s.size := by omega
  go_enter Tryd.func27, Tryd.ntmps27
  go_wp2
  go_rounds 4
  go_ret2
  exact ⟨by rw [HR.out]; rfl, rfl⟩

set_option maxHeartbeats 3200000 in
set_option maxRecDepth 100000 in
theorem rn_3m (s : ByteArray) (i : Nat) (w : World) (hs : s.size ≤ 1100000) (hi : i < s.size) (B : Nat → Nat) (hB : ∀ (n : Nat) (h : n < s.size), (s[n]'h).toNat = B n) (hu : ∀ n, B n < 256) (h0 : 224 ≤ B i) (h0b : B i < 240) (hn : i + 3 ≤ s.size) (c1 : 128 ≤ B (i + 1)) (d1 : B (i + 1) < 192) (c2 : 128 ≤ B (i + 2)) (d2 : B (i + 2) < 192) (hv : 981120 ≤ B i * 4096 + B (i + 1) * 64 + B (i + 2)) (hv2 : B i * 4096 + B (i + 1) * 64 + B (i + 2) < 983168) :
    Calls Tryd.prog 27 #[.string s, .int .i64 (i : Int)] w fun e w' => e = .returned (.tuple #[.int .i64 ((decB s B i).1 : Nat), .int .i64 ((decB s B i).2 : Nat)]) ∧ w = w' := by
  have HR := Lib.hid (show decB s B i = _ from runeP_err (dN_3x _ _ _ _ _ ⟨h0, h0b⟩ (by omega)))
  have u0 := hu i
  have u1 := hu (i + 1)
  have u2 := hu (i + 2)
  have u3 := hu (i + 3)
  clear hu
  have t1 : ((i : Int) + 1).toNat = i + 1 := by omega
  have z1 : (0 : Int) ≤ (i : Int) + 1 := by omega
  have l1 : i + 1 < s.size := by omega
  have t2 : ((i : Int) + 2).toNat = i + 2 := by omega
  have z2 : (0 : Int) ≤ (i : Int) + 2 := by omega
  have l2 : i + 2 < s.size := by omega
  go_enter Tryd.func27, Tryd.ntmps27
  go_wp2
  go_rounds 4
  go_ret2
  exact ⟨by rw [HR.out]; rfl, rfl⟩

set_option maxHeartbeats 3200000 in
set_option maxRecDepth 100000 in
theorem rn_3x (s : ByteArray) (i : Nat) (w : World) (hs : s.size ≤ 1100000) (hi : i < s.size) (B : Nat → Nat) (hB : ∀ (n : Nat) (h : n < s.size), (s[n]'h).toNat = B n) (hu : ∀ n, B n < 256) (h0 : 224 ≤ B i) (h0b : B i < 240) (hn : i + 3 ≤ s.size) (c1 : 128 ≤ B (i + 1)) (d1 : B (i + 1) < 192) (c2 : 128 ≤ B (i + 2)) (d2 : B (i + 2) < 192) (l1 : 927872 ≤ B i * 4096 + B (i + 1) * 64 + B (i + 2)) (l2 : B i * 4096 + B (i + 1) * 64 + B (i + 2) < 981120) (v : Nat) (hv : v + 925824 = B i * 4096 + B (i + 1) * 64 + B (i + 2)) :
    Calls Tryd.prog 27 #[.string s, .int .i64 (i : Int)] w fun e w' => e = .returned (.tuple #[.int .i64 ((decB s B i).1 : Nat), .int .i64 ((decB s B i).2 : Nat)]) ∧ w = w' := by
  have HR := Lib.hid (show decB s B i = _ from runeP_wide (dN_3 _ _ _ _ _ v ⟨h0, h0b⟩ (by omega) hv (by omega)) (by omega))
  have u0 := hu i
  have u1 := hu (i + 1)
  have u2 := hu (i + 2)
  have u3 := hu (i + 3)
  clear hu
  have HV := Lib.hid hv; clear hv
  have t1 : ((i : Int) + 1).toNat = i + 1 := by omega
  have z1 : (0 : Int) ≤ (i : Int) + 1 := by omega
  have k1 : i + 1 < s.size := by omega
  have t2 : ((i : Int) + 2).toNat = i + 2 := by omega
  have z2 : (0 : Int) ≤ (i : Int) + 2 := by omega
  have k2 : i + 2 < s.size := by omega
  go_enter Tryd.func27, Tryd.ntmps27
  go_wp2
  go_rounds 4
  go_ret2
  refine ⟨?_, rfl⟩
  rw [HR.out]
  show Ending.returned (Value.tuple #[Value.int IntKind.i64 (((((B i : Int) - 224) * 64 + (B (i + 1) : Int) - 128)) * 64 + (B (i + 2) : Int) - 128), _]) = _
  have hv := HV.out
  rw [show (((((B i : Int) - 224) * 64 + (B (i + 1) : Int) - 128)) * 64 + (B (i + 2) : Int) - 128) = ((v : Nat) : Int) from by clear t1; omega]
  rfl

set_option maxHeartbeats 3200000 in
set_option maxRecDepth 100000 in
theorem rn_3y (s : ByteArray) (i : Nat) (w : World) (hs : s.size ≤ 1100000) (hi : i < s.size) (B : Nat → Nat) (hB : ∀ (n : Nat) (h : n < s.size), (s[n]'h).toNat = B n) (hu : ∀ n, B n < 256) (h0 : 224 ≤ B i) (h0b : B i < 240) (hn : i + 3 ≤ s.size) (c1 : 128 ≤ B (i + 1)) (d1 : B (i + 1) < 192) (c2 : 128 ≤ B (i + 2)) (d2 : B (i + 2) < 192) (l1 : 983168 ≤ B i * 4096 + B (i + 1) * 64 + B (i + 2)) (v : Nat) (hv : v + 925824 = B i * 4096 + B (i + 1) * 64 + B (i + 2)) :
    Calls Tryd.prog 27 #[.string s, .int .i64 (i : Int)] w fun e w' => e = .returned (.tuple #[.int .i64 ((decB s B i).1 : Nat), .int .i64 ((decB s B i).2 : Nat)]) ∧ w = w' := by
  have HR := Lib.hid (show decB s B i = _ from runeP_wide (dN_3 _ _ _ _ _ v ⟨h0, h0b⟩ (by omega) hv (by omega)) (by omega))
  have u0 := hu i
  have u1 := hu (i + 1)
  have u2 := hu (i + 2)
  have u3 := hu (i + 3)
  clear hu
  have HV := Lib.hid hv; clear hv
  have t1 : ((i : Int) + 1).toNat = i + 1 := by omega
  have z1 : (0 : Int) ≤ (i : Int) + 1 := by omega
  have k1 : i + 1 < s.size := by omega
  have t2 : ((i : Int) + 2).toNat = i + 2 := by omega
  have z2 : (0 : Int) ≤ (i : Int) + 2 := by omega
  have l2 : i + 2 < s.size := by omega
  go_enter Tryd.func27, Tryd.ntmps27
  go_wp2
  go_rounds 4
  go_ret2
  refine ⟨?_, rfl⟩
  rw [HR.out]
  show Ending.returned (Value.tuple #[Value.int IntKind.i64 (((((B i : Int) - 224) * 64 + (B (i + 1) : Int) - 128)) * 64 + (B (i + 2) : Int) - 128), _]) = _
  have hv := HV.out
  rw [show (((((B i : Int) - 224) * 64 + (B (i + 1) : Int) - 128)) * 64 + (B (i + 2) : Int) - 128) = ((v : Nat) : Int) from by clear t1; omega]
  rfl

theorem rune_C (s : ByteArray) (i : Nat) (w : World) (hs : s.size ≤ 1100000) (hi : i < s.size) (B : Nat → Nat) (hB : ∀ (n : Nat) (h : n < s.size), (s[n]'h).toNat = B n) (hu : ∀ n, B n < 256) (h0 : 224 ≤ B i) (h0b : B i < 240) :
    Calls Tryd.prog 27 #[.string s, .int .i64 (i : Int)] w fun e w' => e = .returned (.tuple #[.int .i64 ((decB s B i).1 : Nat), .int .i64 ((decB s B i).2 : Nat)]) ∧ w = w' := by
  by_cases h4 : s.size < i + 3
  · exact rn_3s s i w hs hi B hB hu h0 h0b h4
  by_cases h5 : B (i + 1) < 128
  · exact rn_3a s i w hs hi B hB hu h0 h0b (by omega) h5
  by_cases h6 : 192 ≤ B (i + 1)
  · exact rn_3b s i w hs hi B hB hu h0 h0b (by omega) h6
  by_cases h7 : B (i + 2) < 128
  · exact rn_3c s i w hs hi B hB hu h0 h0b (by omega) (by omega) (by omega) h7
  by_cases h8 : 192 ≤ B (i + 2)
  · exact rn_3d s i w hs hi B hB hu h0 h0b (by omega) (by omega) (by omega) h8
  by_cases h9 : B i * 4096 + B (i + 1) * 64 + B (i + 2) < 927872
  · exact rn_3l s i w hs hi B hB hu h0 h0b (by omega) (by omega) (by omega) (by omega) (by omega) h9
  by_cases h10 : B i * 4096 + B (i + 1) * 64 + B (i + 2) < 981120
  · exact rn_3x s i w hs hi B hB hu h0 h0b (by omega) (by omega) (by omega) (by omega) (by omega) (by omega) h10 (B i * 4096 + B (i + 1) * 64 + B (i + 2) - 925824) (by omega)
  by_cases h11 : B i * 4096 + B (i + 1) * 64 + B (i + 2) < 983168
  · exact rn_3m s i w hs hi B hB hu h0 h0b (by omega) (by omega) (by omega) (by omega) (by omega) (by omega) h11
  · exact rn_3y s i w hs hi B hB hu h0 h0b (by omega) (by omega) (by omega) (by omega) (by omega) (by omega) (B i * 4096 + B (i + 1) * 64 + B (i + 2) - 925824) (by omega)
end Go.Proofs.YtejmofekbeaoeaaDoor
