/- Same (the program's and the document's), SameAll, hasControl. -/
import Derived.Test.YtejmofekbeaoeaaDoorTxtSmall
import Derived.Deep.QuietTactic
import Derived.BigQuiet
namespace Go.Proofs.YtejmofekbeaoeaaDoor
open Go.RowKit Go.Shelf Go.Lib
set_option linter.unusedVariables false

def lowL (l : List UInt8) : List Nat := l.map (fun c => lowN c.toNat)
def sameS (a b : List UInt8) : Bool := lowL a == lowL b
theorem byte_at (s : ByteArray) (k : Nat) (h : k < s.size) : (lst s)[k]? = some s[k] := by
  rw [List.getElem?_eq_getElem (by simpa using h)]; rfl
theorem take_byte (s : ByteArray) (k : Nat) (h : k < s.size) : (lst s).take (k + 1) = (lst s).take k ++ [s[k]] := by
  rw [List.take_add_one, byte_at s k h]; rfl
theorem sameS_len {a b : ByteArray} (h : a.size ≠ b.size) : sameS (lst a) (lst b) = false := by
  rw [sameS, beq_eq_false_iff_ne]
  intro e
  have := congrArg List.length e
  simp [lowL] at this
  exact h this
theorem sameS_no {a b : ByteArray} {k : Nat} (ha : k < a.size) (hb : k < b.size) (h : lowN a[k].toNat ≠ lowN b[k].toNat) : sameS (lst a) (lst b) = false := by
  rw [sameS, beq_eq_false_iff_ne]
  intro e
  have := congrArg (fun l => l[k]?) e
  simp only [lowL, List.getElem?_map, byte_at a k ha, byte_at b k hb, Option.map_some, Option.some.injEq] at this
  exact h this
theorem low_take {a b : ByteArray} {k : Nat} (ha : k < a.size) (hb : k < b.size) (h : lowN a[k].toNat = lowN b[k].toNat) (hi : lowL ((lst a).take k) = lowL ((lst b).take k)) : lowL ((lst a).take (k + 1)) = lowL ((lst b).take (k + 1)) := by
  rw [take_byte a k ha, take_byte b k hb]
  simp only [lowL, List.map_append, List.map_cons, List.map_nil] at hi ⊢
  rw [hi, h]
theorem sameS_yes {a b : ByteArray} {k : Nat} (h : a.size = b.size) (hk : ¬ k < a.size) (hi : lowL ((lst a).take k) = lowL ((lst b).take k)) : sameS (lst a) (lst b) = true := by
  rw [List.take_of_length_le (show (lst a).length ≤ k from Nat.not_lt.1 hk), List.take_of_length_le (show (lst b).length ≤ k from by rw [lst_len, ← h]; exact Nat.not_lt.1 hk)] at hi
  rw [sameS, hi]; simp

set_option maxHeartbeats 1600000 in
theorem same_any (a b : ByteArray) (w : World) (ha : a.size ≤ 1100000) (hb : b.size ≤ 1100000) :
    Calls Tryd.prog 20 #[.string a, .string b] w fun e w' => e = .returned (.bool (sameS (lst a) (lst b))) ∧ Below w.heap.size w w' := by
  by_cases hl : a.size = b.size
  · have hz : ((a.size : Int) != (b.size : Int)) = false := by rw [hl]; simp
    have HL := Lib.hid hl; clear hl
    go_enter Tryd.func20, Tryd.ntmps20
    go_wp2
    go_loopw [5, 13] (fun x i w' => ∃ k : Nat, k ≤ a.size ∧ i = .int .i64 k ∧ Below w.heap.size w w' ∧ Hid (lowL ((lst a).take k) = lowL ((lst b).take k))) (fun _ i _ => a.size - (intOf i).toNat)
    case atStart => exact ⟨0, Nat.zero_le _, rfl, Below.refl _ _, Lib.hid rfl⟩
    case round =>
      obtain ⟨k, hk, rfl, hbw, hi⟩ := hrel
      by_cases hlt : k < a.size
      · have hlb : k < b.size := by have := HL.out; omega
        by_cases he : lowN a[k].toNat = lowN b[k].toNat
        · have HN := Lib.hid (low_take hlt hlb he hi.out)
          have hne : (((lowN a[k].toNat : Nat) : Int) != ((lowN b[k].toNat : Nat) : Int)) = false := by rw [he]; simp
          clear he
          go_wp2_with fail
          go_quiet ((go_at_call 31; exact Calls.quiet_of_same (lower_any _ _ (UInt8.toNat_lt _))))
          go_wp2
          go_roundw
          case rel => exact ⟨k + 1, by omega, by go_num, below_drewNv hbw _, HN⟩
          case measure => simp [intOf]; omega
        · have HN := Lib.hid (sameS_no hlt hlb he)
          have hne : (((lowN a[k].toNat : Nat) : Int) != ((lowN b[k].toNat : Nat) : Int)) = true := by simp; omega
          clear he
          go_wp2_with fail
          go_quiet ((go_at_call 31; exact Calls.quiet_of_same (lower_any _ _ (UInt8.toNat_lt _))))
          go_wp2
          go_ret
          exact ⟨by rw [HN.out]; rfl, below_drewNv hbw _⟩
      · have HN := Lib.hid (sameS_yes HL.out hlt hi.out)
        go_wp2
        go_ret
        exact ⟨by rw [HN.out]; rfl, hbw⟩
  · have hz : ((a.size : Int) != (b.size : Int)) = true := by simp; omega
    have HN := Lib.hid (sameS_len hl); clear hl
    go_enter Tryd.func20, Tryd.ntmps20
    go_wp2
    go_ret
    exact ⟨by rw [HN.out]; rfl, Below.refl _ _⟩

set_option maxHeartbeats 1600000 in
theorem rsame_any (a b : ByteArray) (w : World) (ha : a.size ≤ 1100000) (hb : b.size ≤ 1100000) :
    Calls Tryd.prog 21 #[.string a, .string b] w fun e w' => e = .returned (.bool (sameS (lst a) (lst b))) ∧ Below w.heap.size w w' := by
  by_cases hl : a.size = b.size
  · have hz : ((a.size : Int) != (b.size : Int)) = false := by rw [hl]; simp
    have HL := Lib.hid hl; clear hl
    go_enter Tryd.func21, Tryd.ntmps21
    go_wp2
    go_loopw [5] (fun i w' => ∃ k : Nat, k ≤ a.size ∧ i = .int .i64 k ∧ Below w.heap.size w w' ∧ Hid (lowL ((lst a).take k) = lowL ((lst b).take k))) (fun i _ => a.size - (intOf i).toNat)
    case atStart => exact ⟨0, Nat.zero_le _, rfl, Below.refl _ _, Lib.hid rfl⟩
    case round =>
      obtain ⟨k, hk, rfl, hbw, hi⟩ := hrel
      by_cases hlt : k < a.size
      · have hlb : k < b.size := by have := HL.out; omega
        by_cases he : lowN a[k].toNat = lowN b[k].toNat
        · have HN := Lib.hid (low_take hlt hlb he hi.out)
          have hne : (((lowN a[k].toNat : Nat) : Int) != ((lowN b[k].toNat : Nat) : Int)) = false := by rw [he]; simp
          clear he
          go_wp2_with fail
          go_quiet ((go_at_call 32; exact Calls.quiet_of_same (small_any _ _ (UInt8.toNat_lt _))))
          go_wp2
          go_roundw
          case rel => exact ⟨k + 1, by omega, by go_num, below_drewNv hbw _, HN⟩
          case measure => simp [intOf]; omega
        · have HN := Lib.hid (sameS_no hlt hlb he)
          have hne : (((lowN a[k].toNat : Nat) : Int) != ((lowN b[k].toNat : Nat) : Int)) = true := by simp; omega
          clear he
          go_wp2_with fail
          go_quiet ((go_at_call 32; exact Calls.quiet_of_same (small_any _ _ (UInt8.toNat_lt _))))
          go_wp2
          go_ret
          exact ⟨by rw [HN.out]; rfl, below_drewNv hbw _⟩
      · have HN := Lib.hid (sameS_yes HL.out hlt hi.out)
        go_wp2
        go_ret
        exact ⟨by rw [HN.out]; rfl, hbw⟩
  · have hz : ((a.size : Int) != (b.size : Int)) = true := by simp; omega
    have HN := Lib.hid (sameS_len hl); clear hl
    go_enter Tryd.func21, Tryd.ntmps21
    go_wp2
    go_ret
    exact ⟨by rw [HN.out]; rfl, Below.refl _ _⟩


theorem map_some {zs : List ByteArray} {k : Nat} {x : ByteArray} (h : zs[k]? = some x) : zs.take (k + 1) = zs.take k ++ [x] := by
  rw [List.take_add_one, h]; rfl
set_option maxHeartbeats 1600000 in
theorem sameAll_any (A B : Option Addr) (c d : Nat) (xs ys : List ByteArray) (w : World) (hx : Strs w A xs) (hy : Strs w B ys) (hlx : xs.length ≤ 2000000) (hly : ys.length ≤ 2000000) :
    Calls Tryd.prog 15 #[.slice A xs.length c, .slice B ys.length d] w fun e w' => e = .returned (.bool (decide (xs = ys))) ∧ Below w.heap.size w w' := by
  by_cases hl : xs.length = ys.length
  · have hz : ((xs.length : Int) != (ys.length : Int)) = false := by rw [hl]; simp
    have HL := Lib.hid hl; clear hl
    have HX := Lib.hid hx; have HY := Lib.hid hy; clear hx hy
    go_enter Tryd.func15, Tryd.ntmps15
    go_wp2
    go_loopw [5] (fun i w' => ∃ k : Nat, k ≤ xs.length ∧ i = .int .i64 k ∧ Below w.heap.size w w' ∧ Hid (xs.take k = ys.take k)) (fun i _ => xs.length - (intOf i).toNat)
    case atStart => exact ⟨0, Nat.zero_le _, rfl, Below.refl _ _, Lib.hid rfl⟩
    case round =>
      obtain ⟨k, hk, rfl, hbw, hi⟩ := hrel
      by_cases hlt : k < xs.length
      · have hlb : k < ys.length := by have := HL.out; omega
        obtain ⟨b1, o1, x, rfl, ex, cx⟩ := (HX.out.below hbw).at_ hlt
        obtain ⟨b2, o2, y, rfl, ey, cy⟩ := (HY.out.below hbw).at_ hlb
        by_cases he : x = y
        · have hne : (x.toList == y.toList) = true := by rw [he]; simp
          have HN := Lib.hid (show xs.take (k + 1) = ys.take (k + 1) from by rw [map_some ex, map_some ey, hi.out, he])
          clear he ex ey
          go_wp2_with fail
          go_quiet (fail)
          go_wp2
          go_roundw
          case rel => exact ⟨k + 1, by omega, by go_num, below_drewNv hbw _, HN⟩
          case measure => simp [intOf]; omega
        · have hne : (x.toList == y.toList) = false := by
            rw [beq_eq_false_iff_ne]
            intro e
            rw [ByteArray.toList_eq, ByteArray.toList_eq] at e
            exact he (lst_inj e)
          have HN := Lib.hid (show decide (xs = ys) = false from by
            rw [decide_eq_false_iff_not]
            intro e
            rw [e, ey] at ex
            exact he (Option.some.inj ex).symm)
          clear he ex ey
          go_wp2_with fail
          go_quiet (fail)
          go_wp2
          go_ret
          exact ⟨by rw [HN.out]; rfl, below_drewNv hbw _⟩
      · have HN := Lib.hid (show decide (xs = ys) = true from by
          rw [decide_eq_true_iff]
          have := hi.out
          have hh := HL.out
          rwa [List.take_of_length_le (by omega), List.take_of_length_le (by omega)] at this)
        go_wp2
        go_ret
        exact ⟨by rw [HN.out]; rfl, hbw⟩
  · have hz : ((xs.length : Int) != (ys.length : Int)) = true := by simp; omega
    have HN := Lib.hid (show decide (xs = ys) = false from by
      rw [decide_eq_false_iff_not]
      intro e
      exact hl (by rw [e])); clear hl hx hy
    go_enter Tryd.func15, Tryd.ntmps15
    go_wp2
    go_ret
    exact ⟨by rw [HN.out]; rfl, Below.refl _ _⟩

end Go.Proofs.YtejmofekbeaoeaaDoor
