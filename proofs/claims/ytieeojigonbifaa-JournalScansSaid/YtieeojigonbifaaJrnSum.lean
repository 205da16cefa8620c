/- Sums: the program's Sum over all its arguments, the document's. -/
import Derived.Test.YtieeojigonbifaaJrnRow
import Derived.Laws.BitsAllLaws
import Derived.IntWalk
namespace Go.Proofs.Ytieeojigonbifaa
open Go.RowKit
set_option linter.unusedVariables false

theorem take_snoc_b {zs : List Int} {k : Nat} {x : Int} (h : zs[k]? = some x) : zs.take (k + 1) = zs.take k ++ [x] := by
  rw [List.take_add_one, h]; rfl
theorem take_snoc_r {zs : List (List Int)} {k : Nat} {x : List Int} (h : zs[k]? = some x) : zs.take (k + 1) = zs.take k ++ [x] := by
  rw [List.take_add_one, h]; rfl
theorem flat_snoc {ls : List (List Int)} {k : Nat} {x : List Int} (h : ls[k]? = some x) : (ls.take (k + 1)).flatten = (ls.take k).flatten ++ x := by
  rw [take_snoc_r h]; simp

theorem ret_int {k : IntKind} {a b : Int} (h : a = b) : Ending.returned (.int k a) = .returned (.int k b) := by rw [h]
theorem or_16 (a b : Int) (ha0 : 0 ≤ a) (ha : a ≤ 65535) (hb0 : 0 ≤ b) (hb : b ≤ 65535) : bits .or .u32 (a * 65536) b = 65536 * a + b := by
  obtain ⟨n, rfl⟩ := Int.eq_ofNat_of_zero_le ha0
  obtain ⟨m, rfl⟩ := Int.eq_ofNat_of_zero_le hb0
  have e : ((n : Nat) : Int) * (65536 : Int) = ((n <<< 16 : Nat) : Int) := by simp [Nat.shiftLeft_eq]
  rw [e, u32_or_nat _ _ (by rw [Nat.shiftLeft_eq]; omega) (by omega), Nat.shiftLeft_add_eq_or_of_lt (i := 16) (by omega) n |>.symm]
  simp [Nat.shiftLeft_eq]; omega
theorem or_8 (a b : Int) (ha0 : 0 ≤ a) (ha : a ≤ 16777215) (hb0 : 0 ≤ b) (hb : b ≤ 255) : bits .or .u32 (a * 256) b = a * 256 + b := by
  obtain ⟨n, rfl⟩ := Int.eq_ofNat_of_zero_le ha0
  obtain ⟨m, rfl⟩ := Int.eq_ofNat_of_zero_le hb0
  have e : ((n : Nat) : Int) * (256 : Int) = ((n <<< 8 : Nat) : Int) := by simp [Nat.shiftLeft_eq]
  rw [e, u32_or_nat _ _ (by rw [Nat.shiftLeft_eq]; omega) (by omega), Nat.shiftLeft_add_eq_or_of_lt (i := 8) (by omega) n |>.symm]
  simp [Nat.shiftLeft_eq]

set_option maxHeartbeats 800000 in
theorem sum_any (R : Nat → Prop) (A : Option Addr) (c : Nat) (ls : List (List Int)) (w : World) (h : Rws w R A c ls) :
    Calls Try.prog 13 #[.slice A ls.length c] w fun e w' => e = .returned (.int .u32 (sumA ls.flatten)) ∧ w = w' := by
  have hl : ls.length ≤ 9223372036854775807 := Nat.le_trans h.cap h.top
  have H := Lib.hid h; clear h
  go_enter Try.func13, Try.ntmps13
  go_wp2
  go_loop [3, 4, 11] (fun a b i => ∃ (k : Nat) (lo hi : Int), k ≤ ls.length ∧ i = .int .i64 k ∧ a = .int .u32 lo ∧ b = .int .u32 hi ∧ 0 ≤ lo ∧ lo ≤ 65520 ∧ 0 ≤ hi ∧ hi ≤ 65520 ∧ Hid (lo = (1 + s1 (ls.take k).flatten) % 65521) ∧ Hid (hi = s2 (ls.take k).flatten % 65521)) (fun _ _ i => ls.length - (intOf i).toNat)
  case atStart => exact ⟨0, 1, 0, Nat.zero_le _, rfl, rfl, rfl, by omega, by omega, by omega, by omega, Lib.hid (by simp [s1]), Lib.hid (by simp [s2])⟩
  case round =>
    obtain ⟨k, lo, hi, hk, rfl, rfl, rfl, hlo0, hlo1, hhi0, hhi1, hlo, hhi⟩ := hrel
    by_cases hlt : k < ls.length
    · obtain ⟨b, off, A', c', xs, rfl, _, hx, hc, hB⟩ := H.out.at_ hlt
      have hxl : xs.length ≤ 9223372036854775807 := Nat.le_trans hB.cap hB.top
      have HX := Lib.hid hx; clear hx
      have HB := Lib.hid hB; clear hB
      go_wp2
      go_loop [3, 4, 17] (fun a b i => ∃ (j : Nat) (lo hi : Int), j ≤ xs.length ∧ i = .int .i64 j ∧ a = .int .u32 lo ∧ b = .int .u32 hi ∧ 0 ≤ lo ∧ lo ≤ 65520 ∧ 0 ≤ hi ∧ hi ≤ 65520 ∧ Hid (lo = (1 + s1 ((ls.take k).flatten ++ xs.take j)) % 65521) ∧ Hid (hi = s2 ((ls.take k).flatten ++ xs.take j) % 65521)) (fun _ _ i => xs.length - (intOf i).toNat)
      case atStart => exact ⟨0, lo, hi, Nat.zero_le _, rfl, rfl, rfl, hlo0, hlo1, hhi0, hhi1, Lib.hid (by simpa using hlo.out), Lib.hid (by simpa using hhi.out)⟩
      case round =>
        obtain ⟨j, lo2, hi2, hj, rfl, rfl, rfl, hlo20, hlo21, hhi20, hhi21, hlo2, hhi2⟩ := hrel
        by_cases hltj : j < xs.length
        · obtain ⟨b2, off2, x, rfl, _, hx2, hc2, hx0, hx1⟩ := HB.out.at_ hltj
          have HX2 := Lib.hid hx2; clear hx2
          have e1 : Hid ((1 + s1 ((ls.take k).flatten ++ xs.take (j + 1))) % 65521 = (lo2 + x) % 65521) := Lib.hid (by rw [take_snoc_b HX2.out, ← List.append_assoc, s1_snoc]; have := hlo2.out; omega)
          have e2 : Hid (s2 ((ls.take k).flatten ++ xs.take (j + 1)) % 65521 = (hi2 + (lo2 + x) % 65521) % 65521) := Lib.hid (by rw [take_snoc_b HX2.out, ← List.append_assoc, s2_snoc, s1_snoc]; have := hlo2.out; have := hhi2.out; omega)
          go_wp2
          go_round
          case rel => exact ⟨j + 1, _, _, by omega, by go_num, rfl, rfl, by omega, by omega, by omega, by omega, Lib.hid e1.out.symm, Lib.hid e2.out.symm⟩
          case measure => simp [intOf]; omega
        · have e1 : Hid ((1 + s1 (ls.take (k + 1)).flatten) % 65521 = lo2) := Lib.hid (by rw [flat_snoc HX.out]; have := hlo2.out; rw [List.take_of_length_le (l := xs) (i := j) (by omega)] at this; exact this.symm)
          have e2 : Hid (s2 (ls.take (k + 1)).flatten % 65521 = hi2) := Lib.hid (by rw [flat_snoc HX.out]; have := hhi2.out; rw [List.take_of_length_le (l := xs) (i := j) (by omega)] at this; exact this.symm)
          go_wp2
          go_round
          case rel => exact ⟨k + 1, _, _, by omega, by go_num, rfl, rfl, by omega, by omega, by omega, by omega, Lib.hid e1.out.symm, Lib.hid e2.out.symm⟩
          case measure => simp [intOf]; omega
    · have e1 : Hid (lo = (1 + s1 ls.flatten) % 65521) := Lib.hid (by have := hlo.out; rwa [List.take_of_length_le (by omega)] at this)
      have e2 : Hid (hi = s2 ls.flatten % 65521) := Lib.hid (by have := hhi.out; rwa [List.take_of_length_le (by omega)] at this)
      go_wp2
      go_ret
      exact ⟨ret_int (by rw [or_16 _ _ (by omega) (by omega) (by omega) (by omega), e1.out, e2.out]; rfl), rfl⟩

theorem pow_le3 {k : Nat} (h : k < 4) : (256 : Int) ^ k ≤ 16777216 := by
  have : k = 0 ∨ k = 1 ∨ k = 2 ∨ k = 3 := by omega
  rcases this with rfl | rfl | rfl | rfl <;> decide
set_option maxHeartbeats 800000 in
theorem word_any (R : Nat → Prop) (A : Option Addr) (c : Nat) (xs : List Int) (n : Nat) (w : World) (h : Byts w R A c xs) (hn : xs.length = n) (h4 : n ≤ 4) :
    Calls Try.prog 31 #[.slice A n c] w fun e w' => e = .returned (.int .u32 (wv xs)) ∧ w = w' := by
  subst hn
  have H := Lib.hid h; clear h
  go_enter Try.func31, Try.ntmps31
  go_wp2
  go_loop [3, 8] (fun a i => ∃ (k : Nat) (v : Int), k ≤ xs.length ∧ i = .int .i64 k ∧ a = .int .u32 v ∧ 0 ≤ v ∧ Hid (v < 256 ^ k) ∧ Hid (v = wv (xs.take k))) (fun _ i => xs.length - (intOf i).toNat)
  case atStart => exact ⟨0, 0, Nat.zero_le _, rfl, rfl, by omega, Lib.hid (by simp), Lib.hid (by simp [wv])⟩
  case round =>
    obtain ⟨k, v, hk, rfl, rfl, hv0, hv1, hv⟩ := hrel
    by_cases hlt : k < xs.length
    · obtain ⟨b, off, x, rfl, _, hx, hc, hx0, hx1⟩ := H.out.at_ hlt
      have HX := Lib.hid hx; clear hx
      have hvb : v ≤ 16777215 := by have := pow_le3 (k := k) (by omega); have := hv1.out; omega
      have e1 : Hid (wv (xs.take (k + 1)) = v * 256 + x) := Lib.hid (by rw [take_snoc_b HX.out, wv_snoc, ← hv.out])
      have e2 : Hid (bits .or .u32 (v * 256) x = v * 256 + x) := Lib.hid (or_8 v x hv0 hvb hx0 hx1)
      go_wp2
      go_round
      case rel =>
        refine ⟨k + 1, v * 256 + x, by omega, by go_num, by rw [e2.out], by omega, Lib.hid ?_, Lib.hid e1.out.symm⟩
        have := hv1.out
        rw [Int.pow_succ]; omega
      case measure => simp [intOf]; omega
    · have e1 : Hid (v = wv xs) := Lib.hid (by have := hv.out; rwa [List.take_of_length_le (by omega)] at this)
      go_wp2
      go_ret
      exact ⟨ret_int e1.out, rfl⟩

set_option maxHeartbeats 800000 in
theorem rsum_any (R : Nat → Prop) (A : Option Addr) (c : Nat) (xs : List Int) (w : World) (h : Byts w R A c xs) (hl : xs.length ≤ 66000) :
    Calls Try.prog 14 #[.slice A xs.length c] w fun e w' => e = .returned (.int .i64 (sumA xs)) ∧ w = w' := by
  have H := Lib.hid h; clear h
  go_enter Try.func14, Try.ntmps14
  go_wp2
  go_loop [3, 4, 5] (fun a b i => ∃ (k : Nat) (x y : Int), k ≤ xs.length ∧ i = .int .i64 k ∧ a = .int .i64 x ∧ b = .int .i64 y ∧ 0 ≤ x ∧ x ≤ 1 + 255 * (k : Int) ∧ 0 ≤ y ∧ y ≤ 66000 + 16830000 * (k : Int) ∧ Hid (x = 1 + s1 (xs.take k)) ∧ Hid (y = (xs.length : Int) + t2 (xs.length : Int) (xs.take k))) (fun _ _ i => xs.length - (intOf i).toNat)
  case atStart => exact ⟨0, 1, xs.length, Nat.zero_le _, rfl, rfl, rfl, by omega, by omega, by omega, by omega, Lib.hid (by simp [s1]), Lib.hid (by simp [t2])⟩
  case round =>
    obtain ⟨k, x, y, hk, rfl, rfl, rfl, hx0, hx1, hy0, hy1, hx, hy⟩ := hrel
    by_cases hlt : k < xs.length
    · obtain ⟨b, off, z, rfl, _, hz, hc, hz0, hz1⟩ := H.out.at_ hlt
      have HZ := Lib.hid hz; clear hz
      have hp0 : 0 ≤ ((xs.length : Int) - (k : Int)) * z := Int.mul_nonneg (by omega) hz0
      have hp1 : ((xs.length : Int) - (k : Int)) * z ≤ 16830000 := by
        have h1 := Int.mul_le_mul (a := (xs.length : Int) - (k : Int)) (b := z) (c := 66000) (d := 255) (by omega) hz1 hz0 (by omega)
        omega
      have e1 : Hid (1 + s1 (xs.take (k + 1)) = x + z) := Lib.hid (by rw [take_snoc_b HZ.out, s1_snoc]; have := hx.out; omega)
      have e2 : Hid ((xs.length : Int) + t2 (xs.length : Int) (xs.take (k + 1)) = y + ((xs.length : Int) - (k : Int)) * z) := Lib.hid (by
        rw [take_snoc_b HZ.out, t2_snoc, List.length_take, Nat.min_eq_left (by omega)]; have := hy.out; omega)
      go_wp2
      go_round
      case rel => exact ⟨k + 1, x + z, y + ((xs.length : Int) - (k : Int)) * z, by omega, by go_num, rfl, rfl, by omega, by omega, by omega, by omega, Lib.hid e1.out.symm, Lib.hid e2.out.symm⟩
      case measure => simp [intOf]; omega
    · have e1 : Hid (x = 1 + s1 xs) := Lib.hid (by have := hx.out; rwa [List.take_of_length_le (by omega)] at this)
      have e2 : Hid (y = s2 xs) := Lib.hid (by have := hy.out; rw [List.take_of_length_le (l := xs) (i := k) (by omega)] at this; rw [s2_t2]; exact this)
      go_wp2
      go_ret
      exact ⟨ret_int (by rw [e1.out, e2.out]; rfl), rfl⟩

end Go.Proofs.Ytieeojigonbifaa
