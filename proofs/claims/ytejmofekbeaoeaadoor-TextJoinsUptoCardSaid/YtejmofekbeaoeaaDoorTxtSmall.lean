/- The small calls of layer 2: lower, small, Same (both), isGap, isInner, hasControl, Runes, SameAll. -/
import Derived.Test.YtejmofekbeaoeaaDoorTxtMem
import Derived.WalkLawsBesides
import Derived.WalkSpells
import Derived.Laws.RangeAny
import Derived.Deep.RegionWith
import Derived.Outline
namespace Go.Proofs.YtejmofekbeaoeaaDoor
open Go.RowKit Go.Shelf Go.Lib
set_option linter.unusedVariables false

def lowN (c : Nat) : Nat := if 65 ≤ c ∧ c ≤ 90 then c + 32 else c
theorem lowN_lt {c : Nat} (h : c < 256) : lowN c < 256 := by unfold lowN; split <;> omega
theorem lower_any (c : Nat) (w : World) (hc : c < 256) :
    Calls Tryd.prog 31 #[.int .u8 (c : Int)] w fun e w' => e = .returned (.int .u8 (lowN c : Nat)) ∧ w' = w := by
  unfold lowN
  by_cases h1 : 65 ≤ c
  · by_cases h2 : c ≤ 90
    · rw [if_pos ⟨h1, h2⟩]
      go_enter Tryd.func31, Tryd.ntmps31
      go_wp2
      go_ret
      exact ⟨by first | rfl | (congr 2; omega), rfl⟩
    · rw [if_neg (by omega)]
      go_enter Tryd.func31, Tryd.ntmps31
      go_wp2
      go_ret
      exact ⟨rfl, rfl⟩
  · rw [if_neg (by omega)]
    go_enter Tryd.func31, Tryd.ntmps31
    go_wp2
    go_ret
    exact ⟨rfl, rfl⟩
theorem small_any (c : Nat) (w : World) (hc : c < 256) :
    Calls Tryd.prog 32 #[.int .u8 (c : Int)] w fun e w' => e = .returned (.int .u8 (lowN c : Nat)) ∧ w' = w := by
  unfold lowN
  by_cases h1 : 65 ≤ c
  · by_cases h2 : c ≤ 90
    · rw [if_pos ⟨h1, h2⟩]
      go_enter Tryd.func32, Tryd.ntmps32
      go_wp2
      go_ret
      exact ⟨by first | rfl | (congr 2; omega), rfl⟩
    · rw [if_neg (by omega)]
      go_enter Tryd.func32, Tryd.ntmps32
      go_wp2
      go_ret
      exact ⟨rfl, rfl⟩
  · rw [if_neg (by omega)]
    go_enter Tryd.func32, Tryd.ntmps32
    go_wp2
    go_ret
    exact ⟨rfl, rfl⟩

def gapI (r : Int) : Bool := r == 32 || r == 9
theorem isGap_any (r : Int) (w : World) (hlo : -2147483648 ≤ r) (hhi : r ≤ 2147483647) :
    Calls Tryd.prog 26 #[.int .i32 r] w fun e w' => e = .returned (.bool (gapI r)) ∧ w = w' := by
  unfold gapI
  by_cases h1 : r = 32
  · subst h1
    go_enter Tryd.func26, Tryd.ntmps26
    go_wp2
    go_ret
    exact ⟨rfl, rfl⟩
  · have e1 : (r == 32) = false := beq_eq_false_iff_ne.2 h1
    go_enter Tryd.func26, Tryd.ntmps26
    go_wp2
    go_ret
    exact ⟨by first | rfl | (rw [e1]; rfl), rfl⟩

theorem isInner_any (r : Int) (w : World) (hlo : -2147483648 ≤ r) (hhi : r ≤ 2147483647) (hT : Tabs w) :
    Calls Tryd.prog 29 #[.int .i32 r] w fun e w' => e = .returned (.bool (innerR r)) ∧ Below w.heap.size w w' := by
  have c := digit_c r w hlo hhi hT
  clear hT
  unfold innerR
  cases hd : isDigitU r <;> rw [hd] at c
  · by_cases h1 : r = 95
    · subst h1
      go_enter Tryd.func29, Tryd.ntmps29
      go_wp2_with (go_at_call 30; refine c.mono ?_; rintro e w1 ⟨rfl, hb1⟩)
      go_ret
      exact ⟨rfl, hb1⟩
    · have e1 : (r == 95) = false := beq_eq_false_iff_ne.2 h1
      by_cases h2 : r = 45
      · subst h2
        go_enter Tryd.func29, Tryd.ntmps29
        go_wp2_with (go_at_call 30; refine c.mono ?_; rintro e w1 ⟨rfl, hb1⟩)
        go_ret
        exact ⟨rfl, hb1⟩
      · have e2 : (r == 45) = false := beq_eq_false_iff_ne.2 h2
        go_enter Tryd.func29, Tryd.ntmps29
        go_wp2_with (go_at_call 30; refine c.mono ?_; rintro e w1 ⟨rfl, hb1⟩)
        go_ret
        exact ⟨by first | rfl | (rw [e1, e2]; rfl), hb1⟩
  · go_enter Tryd.func29, Tryd.ntmps29
    go_wp2_with (go_at_call 30; refine c.mono ?_; rintro e w1 ⟨rfl, hb1⟩)
    go_ret
    exact ⟨rfl, hb1⟩

theorem iter_below (w : World) (s : ByteArray) (p : Nat) : Below w.heap.size w (w.iter s p) := (Below.refl _ _).alloc (Nat.le_refl _) _
theorem drop_ne {s : ByteArray} {pos : Nat} (h : pos < s.size) : (lst s).drop pos ≠ [] := by
  intro e
  have := congrArg List.length e
  rw [List.length_drop] at this
  have h2 : (lst s).length = s.size := rfl
  simp only [List.length_nil] at this
  omega
theorem drop_end {s : ByteArray} {pos : Nat} (h : ¬ pos < s.size) : (lst s).drop pos = [] := List.drop_eq_nil_of_le (Nat.not_lt.1 h)
theorem dec_at {s : ByteArray} {pos : Nat} (h : pos < s.size) : dec ((lst s).drop pos) = Utf8.decode s pos :: dec ((lst s).drop (pos + (Utf8.decode s pos).2)) := by
  rw [dec_step _ (drop_ne h), decodeL_drop, List.drop_drop]
theorem dec_width {s : ByteArray} {pos : Nat} (h : pos < s.size) : 1 ≤ (Utf8.decode s pos).2 ∧ pos + (Utf8.decode s pos).2 ≤ s.size := by
  have h1 := decodeL_width ((lst s).drop pos)
  have h2 := decodeL_le _ (drop_ne h)
  rw [decodeL_drop] at h1 h2
  rw [List.length_drop] at h2
  have h3 : (lst s).length = s.size := rfl
  omega

set_option maxHeartbeats 800000 in
theorem runes_any (s : ByteArray) (w : World) (hs : s.size ≤ 1100000) :
    Calls Tryd.prog 19 #[.string s] w fun e w' => e = .returned (.int .i64 ((dec (lst s)).length : Nat)) ∧ Below w.heap.size w w' := by
  go_enter Tryd.func19, Tryd.ntmps19
  go_wp2
  go_loopw [3] (fun t w' => ∃ pos n : Nat, w' = w.iter s pos ∧ pos ≤ s.size ∧ n ≤ pos ∧ t = .int .i64 (n : Int) ∧ Hid (n + (dec ((lst s).drop pos)).length = (dec (lst s)).length)) (fun _ w' => s.size - w'.iterPos w.heap.size)
  case atStart => exact ⟨0, 0, rfl, by omega, by omega, rfl, Lib.hid (by simp)⟩
  case round =>
    obtain ⟨pos, n, rfl, hp, hn, rfl, hi⟩ := hrel
    by_cases hlt : pos < s.size
    · have hnx : ∀ ty, (Instr.next (.pointer (some ⟨w.heap.size, 0, none⟩)) true ty).run Tryd.prog (w.iter s pos) = _ := fun ty => run_next_any w s pos ty hlt
      have hd := dec_width hlt
      have hi2 := hi.out
      rw [dec_at hlt, List.length_cons] at hi2
      have HI := Lib.hid hi2; clear hi2
      have hle := decode_le s pos
      generalize Utf8.decode s pos = dd at hnx hd HI hle
      obtain ⟨r, wd⟩ := dd
      simp only at hnx hd HI hle
      go_wp2
      go_roundw
      case rel => exact ⟨pos + wd, n + 1, rfl, by omega, by omega, by go_num, Lib.hid (by have := HI.out; omega)⟩
      case measure => simp; omega
    · have hnx : ∀ ty, (Instr.next (.pointer (some ⟨w.heap.size, 0, none⟩)) true ty).run Tryd.prog (w.iter s pos) = _ := fun ty => run_next_end w s pos ty hlt
      have hi2 := hi.out
      rw [drop_end hlt, dec_nil] at hi2
      have HI := Lib.hid hi2; clear hi2
      go_wp2
      go_ret
      exact ⟨by rw [← HI.out]; rfl, iter_below _ _ _⟩

end Go.Proofs.YtejmofekbeaoeaaDoor
