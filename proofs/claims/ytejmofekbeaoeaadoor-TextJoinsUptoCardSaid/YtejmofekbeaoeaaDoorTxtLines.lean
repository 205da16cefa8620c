/- Lines: the program's, and the document's. -/
import Derived.Test.YtejmofekbeaoeaaDoorTxtAll
namespace Go.Proofs.YtejmofekbeaoeaaDoor
open Go.RowKit Go.Shelf Go.Lib
set_option linter.unusedVariables false

theorem lst_extract (s : ByteArray) (a b : Nat) : lst (s.extract a b) = ((lst s).take b).drop a := by
  rw [show lst (s.extract a b) = ((lst s).drop a).take (b - a) from extract_data s a b, List.drop_take]
theorem drop_split (l : List UInt8) (pos wd : Nat) : l.drop pos = (l.drop pos).take wd ++ l.drop (pos + wd) := by
  rw [← List.drop_drop, List.take_append_drop]
theorem take_drop_step (l : List UInt8) (pos wd bg : Nat) (hb : bg ≤ pos) (hp : pos ≤ l.length) : (l.take (pos + wd)).drop bg = (l.take pos).drop bg ++ (l.drop pos).take wd := by
  rw [take_step, List.drop_append_of_le_length (by rw [List.length_take]; omega)]
theorem take_drop_nil (l : List UInt8) (k : Nat) : (l.take k).drop k = [] := List.drop_eq_nil_of_le (by rw [List.length_take]; omega)
theorem lines_skip (l : List UInt8) (pos wd bg : Nat) (hb : bg ≤ pos) (hp : pos ≤ l.length) (h : ∀ b ∈ (l.drop pos).take wd, b ≠ 10) :
    linesA (l.drop pos) ((l.take pos).drop bg) = linesA (l.drop (pos + wd)) ((l.take (pos + wd)).drop bg) := by
  rw [take_drop_step l pos wd bg hb hp, ← linesA_run _ _ _ h, ← drop_split]
theorem drop_byte (s : ByteArray) (k : Nat) (h : k < s.size) : (lst s).drop k = s[k] :: (lst s).drop (k + 1) := by
  rw [List.drop_eq_getElem_cons (show k < (lst s).length from h)]; rfl
theorem lines_hit {s : ByteArray} {pos : Nat} (h : pos < s.size) (h10 : s[pos].toNat = 10) (cur : List UInt8) : linesA ((lst s).drop pos) cur = cur :: linesA ((lst s).drop (pos + 1)) [] := by
  rw [drop_byte s pos h, linesA, if_pos (UInt8.toNat_inj.1 (by rw [h10]; rfl))]
theorem one_byte {s : ByteArray} {pos : Nat} (h : pos < s.size) : ((lst s).drop pos).take 1 = [s[pos]] := by
  rw [drop_byte s pos h]; rfl
theorem keep_app {W w2 : World} {k : Nat} {o o2 : Obj} (h : W.heap[k]? = some o) (hb : Below (k + 1) (W.alloc o2) w2) : w2.heap[k]? = some o := by
  have hk := (Array.getElem?_eq_some_iff.1 h).1
  rw [hb.block k (by omega), Below.heap_alloc W o2 k hk, h]
theorem iter_pos {w : World} {k : Nat} {s : ByteArray} {p : Nat} (h : w.heap[k]? = some (.stringIter s p)) : w.iterPos k = p := by simp [World.iterPos, h]
theorem linesV_yes {l : List UInt8} (h : ¬ 60000 < l.length) (hv : validD l = true) : linesV l = linesA l [] ∧ linesE l = 0 := by
  constructor
  · rw [linesV, if_neg h, if_pos hv]
  · rw [linesE, if_neg h, if_pos hv]
theorem linesV_bad {l : List UInt8} (h : ¬ 60000 < l.length) (hv : validD l = false) : linesV l = [] ∧ linesE l = 5 := by
  constructor
  · rw [linesV, if_neg h, if_neg (by rw [hv]; simp)]
  · rw [linesE, if_neg h, if_neg (by rw [hv]; simp)]
theorem linesV_long {l : List UInt8} (h : 60000 < l.length) : linesV l = [] ∧ linesE l = 3 := by
  constructor
  · rw [linesV, if_pos h]
  · rw [linesE, if_pos h]

set_option maxHeartbeats 6400000 in
theorem lines_any (s : ByteArray) (w : World) (hs : s.size ≤ maxLen) (hT : Tabs w) :
    Calls Tryd.prog 11 #[.string s] w fun e w' => (∃ A c zs, e = .returned (.tuple #[.slice A zs.length c, .int .i64 (linesE (lst s))]) ∧ Strs w' A zs ∧ zs.map lst = linesV (lst s)) ∧ Below w.heap.size w w' := by
  have HS := Lib.hid hs
  unfold maxLen at hs
  by_cases hlong : 60000 < s.size
  · have HN := Lib.hid (linesV_long (l := lst s) hlong)
    clear hT
    go_enter Tryd.func11, Tryd.ntmps11
    go_wp2
    go_ret2
    exact ⟨⟨none, 0, [], by rw [HN.out.2]; rfl, Strs.none_, by rw [HN.out.1]; rfl⟩, Below.refl _ _⟩
  · have cV := valid_c s w HS.out hT
    clear hT
    cases hv : validD (lst s) <;> rw [hv] at cV
    · have HN := Lib.hid (linesV_bad (l := lst s) hlong hv)
      clear hv
      go_enter Tryd.func11, Tryd.ntmps11
      go_wp2_with (go_at_call 24; refine cV.mono ?_; rintro e w1 ⟨rfl, hb1⟩)
      go_ret2
      exact ⟨⟨none, 0, [], by rw [HN.out.2]; rfl, Strs.none_, by rw [HN.out.1]; rfl⟩, hb1⟩
    · have HN := Lib.hid (linesV_yes (l := lst s) hlong hv)
      clear hv
      go_enter Tryd.func11, Tryd.ntmps11
      go_wp2_with (go_at_call 24; refine cV.mono ?_; rintro e w1 ⟨rfl, hb1⟩)
      clear cV
      go_loopw [4, 5] (fun v b wr => ∃ (xs : List ByteArray) (pos bg : Nat), Hid (OwnStrs wr (w1.heap.size + 1) v xs) ∧ b = .int .i64 (bg : Int) ∧ Hid (wr.heap[w1.heap.size]? = some (.stringIter s pos)) ∧ w1.heap.size < wr.heap.size ∧ bg ≤ pos ∧ pos ≤ s.size ∧ xs.length ≤ pos ∧ Below w1.heap.size w1 wr ∧ Hid (xs.map lst ++ linesA ((lst s).drop pos) (((lst s).take pos).drop bg) = linesA (lst s) [])) (fun _ _ wr => s.size - wr.iterPos w1.heap.size)
      case atStart => exact ⟨[], 0, 0, Lib.hid (OwnStrs.nil _ _), rfl, Lib.hid (World.iter_heap w1 s 0), (Array.getElem?_eq_some_iff.1 (World.iter_heap w1 s 0)).1, by omega, by omega, by simp, (Below.refl _ _).alloc (Nat.le_refl _) _, Lib.hid rfl⟩
      case round =>
        obtain ⟨xs, pos, bg, hown, rfl, hit, hsz, hbp, hp, hx, hbw, hi⟩ := hrel
        have HP := Lib.hid (iter_pos hit.out)
        by_cases hlt : pos < s.size
        · by_cases h10 : s[pos].toNat = 10
          · have hnx : ∀ ty, (Instr.next (.pointer (some ⟨w1.heap.size, 0, none⟩)) true ty).run Tryd.prog wr = _ := fun ty => run_next_ascii_at wr w1.heap.size s pos ty hit.out hlt (by omega)
            have hit2 := Lib.hid (iterAt_heap wr w1.heap.size s pos (pos + 1) hit.out)
            have hbw2 := below_iterAt hbw (k := w1.heap.size) (Nat.le_refl _) s (pos + 1)
            have hown2 := Lib.hid (hown.out.iterAt (k := w1.heap.size) (by omega) s (pos + 1))
            have hsz2 : (wr.iterAt w1.heap.size s (pos + 1)).heap.size = wr.heap.size := iterAt_size _ _ _ _
            have hsz3 : w1.heap.size + 1 ≤ (wr.iterAt w1.heap.size s (pos + 1)).heap.size := by rw [hsz2]; omega
            have HI := Lib.hid (show (xs ++ [s.extract bg pos]).map lst ++ linesA ((lst s).drop (pos + 1)) (((lst s).take (pos + 1)).drop (pos + 1)) = linesA (lst s) [] from by
              rw [← hi.out, lines_hit hlt h10, take_drop_nil, List.map_append, List.map_cons, List.map_nil, lst_extract]; simp)
            clear hsz2
            generalize s[pos].toNat = c at hnx h10
            subst h10
            go_wp2_with (at_builtin; refine wpList_apps rfl (.tmp 22) (.tmp 27) rfl (w1.heap.size + 1) _ xs rfl (hown2.out.alloc _) (wr.iterAt w1.heap.size s (pos + 1)).heap.size (s.extract bg pos) rfl (cell_new _ _ _) (by omega) (by simp; omega) ?_; intro v' w2 hown3 hb3)
            go_roundw
            case rel => exact ⟨xs ++ [s.extract bg pos], pos + 1, pos + 1, Lib.hid hown3, by go_num, Lib.hid (keep_app hit2.out hb3), by have := hb3.size; simp at this; omega, by omega, by omega, by simp; omega, (hbw2.alloc (by omega) _).trans (hb3.mono (by omega)), HI⟩
            case measure => rw [HP.out, iter_pos (keep_app hit2.out hb3)]; omega
          · by_cases hasc : s[pos].toNat < 128
            · have hnx : ∀ ty, (Instr.next (.pointer (some ⟨w1.heap.size, 0, none⟩)) true ty).run Tryd.prog wr = _ := fun ty => run_next_ascii_at wr w1.heap.size s pos ty hit.out hlt hasc
              have hit2 := Lib.hid (iterAt_heap wr w1.heap.size s pos (pos + 1) hit.out)
              have hbw2 := below_iterAt hbw (k := w1.heap.size) (Nat.le_refl _) s (pos + 1)
              have hown2 := Lib.hid (hown.out.iterAt (k := w1.heap.size) (by omega) s (pos + 1))
              have HZ := Lib.hid (iterAt_size wr w1.heap.size s (pos + 1))
              have HI := Lib.hid (show xs.map lst ++ linesA ((lst s).drop (pos + 1)) (((lst s).take (pos + 1)).drop bg) = linesA (lst s) [] from by
                rw [← hi.out, lines_skip (lst s) pos 1 bg hbp hp (by rw [one_byte hlt]; intro b hb; simp at hb; subst hb; intro e; exact h10 (by rw [e]; rfl))])
              have e10 : (((s[pos].toNat : Nat) : Int) == 10) = false := by rw [beq_eq_false_iff_ne]; omega
              generalize s[pos].toNat = c at hnx h10 hasc e10
              clear h10
              go_wp2
              go_roundw
              case rel => exact ⟨xs, pos + 1, bg, hown2, rfl, hit2, by rw [HZ.out]; exact hsz, by omega, by omega, by omega, hbw2, HI⟩
              case measure => rw [HP.out, iter_pos hit2.out]; omega
            · have hnx : ∀ ty, (Instr.next (.pointer (some ⟨w1.heap.size, 0, none⟩)) true ty).run Tryd.prog wr = _ := fun ty => run_next_any_at wr w1.heap.size s pos ty hit.out hlt
              have hh := high_at hlt (by omega)
              have hd := dec_width hlt
              have hle := decode_le s pos
              have HI := Lib.hid (show xs.map lst ++ linesA ((lst s).drop (pos + (Utf8.decode s pos).2)) (((lst s).take (pos + (Utf8.decode s pos).2)).drop bg) = linesA (lst s) [] from by
                rw [← hi.out, lines_skip (lst s) pos _ bg hbp hp (fun b hb e => by have := hh.2 b hb; rw [e] at this; exact absurd this (by decide))])
              have hh1 := hh.1
              clear hh
              generalize Utf8.decode s pos = dd at hnx hd HI hle hh1
              obtain ⟨r, wd⟩ := dd
              simp only at hnx hd HI hle hh1
              have hit2 := Lib.hid (iterAt_heap wr w1.heap.size s pos (pos + wd) hit.out)
              have hbw2 := below_iterAt hbw (k := w1.heap.size) (Nat.le_refl _) s (pos + wd)
              have hown2 := Lib.hid (hown.out.iterAt (k := w1.heap.size) (by omega) s (pos + wd))
              have HZ := Lib.hid (iterAt_size wr w1.heap.size s (pos + wd))
              have e10 : ((r : Int) == 10) = false := by rw [beq_eq_false_iff_ne]; omega
              go_wp2
              go_roundw
              case rel => exact ⟨xs, pos + wd, bg, hown2, rfl, hit2, by rw [HZ.out]; exact hsz, by omega, by omega, by omega, hbw2, HI⟩
              case measure => rw [HP.out, iter_pos hit2.out]; omega
        · have hnx : ∀ ty, (Instr.next (.pointer (some ⟨w1.heap.size, 0, none⟩)) true ty).run Tryd.prog wr = _ := fun ty => run_next_end_at wr w1.heap.size s pos ty hit.out hlt
          obtain rfl : pos = s.size := by omega
          by_cases hbe : bg < s.size
          · have HI := Lib.hid (show (xs ++ [s.extract bg s.size]).map lst = linesA (lst s) [] from by
              rw [← hi.out, drop_end hlt, linesA, if_neg (by intro e; have := congrArg List.length e; rw [List.length_drop, List.length_take, lst_len] at this; simp at this; omega), List.map_append, List.map_cons, List.map_nil, lst_extract])
            go_wp2_with (at_builtin; refine wpList_apps rfl (.tmp 35) (.tmp 39) rfl (w1.heap.size + 1) _ xs rfl (hown.out.alloc _) wr.heap.size (s.extract bg s.size) rfl (cell_new _ _ _) (by omega) (by simp; omega) ?_; intro v' w2 hown3 hb3)
            go_ret2
            obtain ⟨A, c, hv3, hS3, _⟩ := hown3.strs
            exact ⟨⟨A, c, _, by rw [HN.out.2, ← hv3]; rfl, hS3, by rw [HN.out.1, HI.out]⟩, blw hb1 ((hbw.alloc (by omega) _).trans (hb3.mono (by omega)))⟩
          · have HI := Lib.hid (show xs.map lst = linesA (lst s) [] from by
              rw [← hi.out, drop_end hlt, linesA, if_pos (List.drop_eq_nil_of_le (by rw [List.length_take, lst_len]; omega))]; simp)
            go_wp2
            go_ret2
            obtain ⟨A, c, hv3, hS3, _⟩ := hown.out.strs
            exact ⟨⟨A, c, _, by rw [HN.out.2, ← hv3]; rfl, hS3, by rw [HN.out.1, HI.out]⟩, blw hb1 hbw⟩

end Go.Proofs.YtejmofekbeaoeaaDoor
