/- What the chapter's examples fix. -/
import Derived.Test.YtejmofekbeaoeaaDoorTxtWords
namespace Go.Proofs.YtejmofekbeaoeaaDoor
open Go.RowKit Go.Shelf Go.Lib
set_option linter.unusedVariables false

theorem k_words : wordsV [74, 79, 66, 32, 97, 32, 32, 35, 32, 120] = [[74, 79, 66], [97]] ∧ wordsE [74, 79, 66, 32, 97, 32, 32, 35, 32, 120] = 0 := by
  constructor <;> decide +kernel
theorem k_runes : (dec [195, 169, 255]).length = 2 := by decide +kernel
theorem k_name1 : nameD [195, 169, 49] = true := by decide +kernel
theorem k_name2 : nameD [49, 195, 169] = false := by decide +kernel
theorem k_same : sameS [97, 66] [65, 98] = true := by decide +kernel
theorem strs_two (w : World) (x y : ByteArray) (t : TypeId) : Strs (w.alloc (.cells #[.string x, .string y] t)) (some ⟨w.heap.size, 0, none⟩) [x, y] := by
  intro k z hz
  have hh : (w.alloc (.cells #[.string x, .string y] t)).heap[w.heap.size]? = some (.cells #[.string x, .string y] t (0, 0)) := by
    show (w.heap.push (Obj.cells #[.string x, .string y] t))[w.heap.size]? = _; simp
  refine ⟨w.heap.size, 0, rfl, (Array.getElem?_eq_some_iff.1 hh).1, ?_⟩
  rw [Nat.zero_add, cell_of_row _ w.heap.size k _ t (0, 0) hh]
  match k, hz with
  | 0, hz => simp at hz; subst hz; rfl
  | 1, hz => simp at hz; subst hz; rfl
  | k + 2, hz => simp at hz
theorem words_two {zs : List ByteArray} (h : zs.map lst = [[74, 79, 66], [97]]) : zs = [⟨#[74, 79, 66]⟩, ⟨#[97]⟩] := lsts_inj (by rw [h]; rfl)

set_option maxHeartbeats 1600000 in
theorem known_any (w : World) (hT : Tabs w) :
    Calls Tryd.prog 10 #[] w fun e w' => e = .returned (.bool true) ∧ Below w.heap.size w w' := by
  have HT := Lib.hid hT; clear hT
  go_enter Tryd.func10, Tryd.ntmps10
  go_wp2_with fail
  refine (words_any _ _ (by decide) HT.out).mono ?_
  rintro e w1 ⟨⟨A, c, zs, rfl, hS, hz, -, -⟩, hb1⟩
  rw [show wordsE (lst ⟨#[74, 79, 66, 32, 97, 32, 32, 35, 32, 120]⟩) = 0 from k_words.2]
  rw [show wordsV (lst ⟨#[74, 79, 66, 32, 97, 32, 32, 35, 32, 120]⟩) = _ from k_words.1] at hz
  obtain rfl := words_two hz
  clear hz
  have HS := Lib.hid hS; clear hS
  go_wp2_with fail
  refine (sameAll_any _ _ _ _ [⟨#[74, 79, 66]⟩, ⟨#[97]⟩] [⟨#[74, 79, 66]⟩, ⟨#[97]⟩] _ (HS.out.below ((Below.refl _ _).alloc (Nat.le_refl _) _)) (strs_two _ _ _ _) (by decide) (by decide)).mono ?_
  rintro e w2 ⟨rfl, hb2⟩
  rw [decide_eq_true (rfl : ([⟨#[74, 79, 66]⟩, ⟨#[97]⟩] : List ByteArray) = [⟨#[74, 79, 66]⟩, ⟨#[97]⟩])]
  have hb12 : Below w.heap.size w w2 := (hb1.alloc hb1.size _).trans (hb2.mono (by simp; have := hb1.size; omega))
  clear hb2
  go_wp2_with fail
  refine (runes_any _ _ (by decide)).mono ?_
  rintro e w3 ⟨rfl, hb3⟩
  rw [show (dec (lst ⟨#[195, 169, 255]⟩)).length = 2 from k_runes]
  go_wp2_with fail
  refine (name_any _ _ (by decide) (HT.out.below (blw hb12 hb3))).mono ?_
  rintro e w4 ⟨rfl, hb4⟩
  rw [show nameD (lst ⟨#[195, 169, 49]⟩) = true from k_name1]
  go_wp2_with fail
  refine (name_any _ _ (by decide) (HT.out.below (blw (blw hb12 hb3) hb4))).mono ?_
  rintro e w5 ⟨rfl, hb5⟩
  rw [show nameD (lst ⟨#[49, 195, 169]⟩) = false from k_name2]
  go_wp2_with fail
  refine (same_any _ _ _ (by decide) (by decide)).mono ?_
  rintro e w6 ⟨rfl, hb6⟩
  rw [show sameS (lst ⟨#[97, 66]⟩) (lst ⟨#[65, 98]⟩) = true from k_same]
  go_wp2_with fail
  go_ret
  exact ⟨rfl, blw (blw (blw (blw hb12 hb3) hb4) hb5) hb6⟩

end Go.Proofs.YtejmofekbeaoeaaDoor
