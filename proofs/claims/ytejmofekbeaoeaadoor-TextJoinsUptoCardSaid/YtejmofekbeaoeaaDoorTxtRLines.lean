/- Lines, and Words: the document's. -/
import Derived.Test.YtejmofekbeaoeaaDoorTxtWords
namespace Go.Proofs.YtejmofekbeaoeaaDoor
open Go.RowKit Go.Shelf Go.Lib
set_option linter.unusedVariables false

theorem lst_cat (a b : ByteArray) : lst (a ++ b) = lst a ++ lst b := by simp [lst]
theorem cat_size (a b : ByteArray) : (a ++ b).size = a.size + b.size := by simp
theorem lst_one {s : ByteArray} {k : Nat} (h : k < s.size) : lst (s.extract k (k + 1)) = [s[k]] := by
  rw [show lst (s.extract k (k + 1)) = ((lst s).drop k).take (k + 1 - k) from extract_data s k (k + 1), show k + 1 - k = 1 by omega, one_byte h]
theorem one_size {s : ByteArray} {k : Nat} (h : k < s.size) : (s.extract k (k + 1)).size = 1 := by rw [← lst_len, lst_one h]; rfl
theorem lines_byte {s : ByteArray} {k : Nat} (h : k < s.size) (h10 : s[k].toNat ≠ 10) (cur : List UInt8) : linesA ((lst s).drop k) cur = linesA ((lst s).drop (k + 1)) (cur ++ [s[k]]) := by
  rw [drop_byte s k h, linesA, if_neg (by intro e; exact h10 (by rw [e]; rfl))]

set_option maxHeartbeats 6400000 in
theorem rlines_any (s : ByteArray) (w : World) (hs : s.size ≤ 60000) :
    Calls Tryd.prog 12 #[.string s] w fun e w' => (∃ A c zs, e = .returned (.tuple #[.slice A zs.length c, .int .i64 (linesE (lst s))]) ∧ Strs w' A zs ∧ zs.map lst = linesV (lst s)) ∧ Below w.heap.size w w' := by
  have hlong : ¬ 60000 < (lst s).length := by rw [lst_len]; omega
  have cV := all_any s w (by omega)
  generalize hL : (dec (lst s)).length = L at cV
  clear hL
  cases hv : validD (lst s) <;> rw [hv] at cV
  · have HN := Lib.hid (linesV_bad (l := lst s) hlong hv)
    clear hv hlong
    go_enter Tryd.func12, Tryd.ntmps12
    go_wp2_with (go_at_call 16; refine cV.mono ?_; rintro e w1 ⟨⟨A, c, rfl, -⟩, hb1⟩)
    go_ret2
    exact ⟨⟨none, 0, [], by rw [HN.out.2]; rfl, Strs.none_, by rw [HN.out.1]; rfl⟩, hb1⟩
  · have HN := Lib.hid (linesV_yes (l := lst s) hlong hv)
    clear hv hlong
    go_enter Tryd.func12, Tryd.ntmps12
    go_wp2_with (go_at_call 16; refine cV.mono ?_; rintro e w1 ⟨⟨A, c, rfl, -⟩, hb1⟩)
    clear cV
    go_loopw [6, 7, 8] (fun v x i wr => ∃ (xs : List ByteArray) (y : ByteArray) (k : Nat), Hid (OwnStrs wr w1.heap.size v xs) ∧ x = .string y ∧ i = .int .i64 (k : Int) ∧ k ≤ s.size ∧ xs.length ≤ k ∧ y.size ≤ k ∧ Below w1.heap.size w1 wr ∧ Hid (xs.map lst ++ linesA ((lst s).drop k) (lst y) = linesA (lst s) [])) (fun _ _ i _ => s.size - (intOf i).toNat)
    case atStart => exact ⟨[], ⟨#[]⟩, 0, Lib.hid (OwnStrs.nil _ _), rfl, rfl, by omega, by simp, Nat.le_refl _, Below.refl _ _, Lib.hid rfl⟩
    case round =>
      obtain ⟨xs, y, k, hown, rfl, rfl, hk, hx, hy, hbw, hi⟩ := hrel
      have hsz := hbw.size
      by_cases hlt : k < s.size
      · by_cases h10 : s[k].toNat = 10
        · have HI := Lib.hid (show (xs ++ [y]).map lst ++ linesA ((lst s).drop (k + 1)) (lst ⟨#[]⟩) = linesA (lst s) [] from by
            rw [← hi.out, lines_hit hlt h10]; simp)
          have e10 : (((s[k].toNat : Nat) : Int) == 10) = true := by rw [h10]; rfl
          clear h10
          go_wp2_with (at_builtin; refine wpList_apps rfl (.tmp 29) (.tmp 31) rfl w1.heap.size _ xs rfl (hown.out.alloc _) wr.heap.size y rfl (cell_new _ _ _) (by omega) (by simp; omega) ?_; intro v' w2 hown3 hb3)
          go_roundw
          case rel => exact ⟨xs ++ [y], ⟨#[]⟩, k + 1, Lib.hid hown3, rfl, by go_num, by omega, by simp; omega, Nat.zero_le _, (hbw.alloc hsz _).trans hb3, HI⟩
          case measure => simp [intOf]; omega
        · have HI := Lib.hid (show xs.map lst ++ linesA ((lst s).drop (k + 1)) (lst (y ++ s.extract k (k + 1))) = linesA (lst s) [] from by
            rw [← hi.out, lines_byte hlt h10, lst_cat, lst_one hlt])
          have HZ := Lib.hid (show (y ++ s.extract k (k + 1)).size = y.size + 1 from by rw [cat_size, one_size hlt])
          have e10 : (((s[k].toNat : Nat) : Int) == 10) = false := by rw [beq_eq_false_iff_ne]; omega
          have t1 : ((k : Int) + 1).toNat = k + 1 := by omega
          clear h10
          go_wp2
          go_roundw
          case rel => exact ⟨xs, y ++ s.extract k (k + 1), k + 1, hown, rfl, by go_num, by omega, by omega, by rw [HZ.out]; omega, hbw, HI⟩
          case measure => simp [intOf]; omega
      · by_cases hz : y.toList = []
        · have HI := Lib.hid (show xs.map lst = linesA (lst s) [] from by
            rw [ByteArray.toList_eq] at hz
            rw [← hi.out, drop_end hlt, linesA, if_pos hz]; simp)
          have ez : y.toList.isEmpty = true := by rw [hz]; rfl
          clear hz
          go_wp2
          go_ret2
          obtain ⟨A, c, hv3, hS3, _⟩ := hown.out.strs
          exact ⟨⟨A, c, _, by rw [HN.out.2, ← hv3]; rfl, hS3, by rw [HN.out.1, HI.out]⟩, blw hb1 hbw⟩
        · have HI := Lib.hid (show (xs ++ [y]).map lst = linesA (lst s) [] from by
            rw [ByteArray.toList_eq] at hz
            rw [← hi.out, drop_end hlt, linesA, if_neg hz]; simp)
          have ez : y.toList.isEmpty = false := by
            cases hh : y.toList with
            | nil => exact absurd hh hz
            | cons a t => rfl
          clear hz
          go_wp2_with (at_builtin; refine wpList_apps rfl (.tmp 42) (.tmp 44) rfl w1.heap.size _ xs rfl (hown.out.alloc _) wr.heap.size y rfl (cell_new _ _ _) (by omega) (by simp; omega) ?_; intro v' w2 hown3 hb3)
          go_ret2
          obtain ⟨A, c, hv3, hS3, _⟩ := hown3.strs
          exact ⟨⟨A, c, _, by rw [HN.out.2, ← hv3]; rfl, hS3, by rw [HN.out.1, HI.out]⟩, blw hb1 ((hbw.alloc hsz _).trans hb3)⟩

end Go.Proofs.YtejmofekbeaoeaaDoor
