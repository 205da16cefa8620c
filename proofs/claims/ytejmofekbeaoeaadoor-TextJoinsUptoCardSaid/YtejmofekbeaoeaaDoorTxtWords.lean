/- Words: the program's. -/
import Derived.Test.YtejmofekbeaoeaaDoorTxtLines
import Derived.WalkMore
namespace Go.Proofs.YtejmofekbeaoeaaDoor
open Go.RowKit Go.Shelf Go.Lib
set_option linter.unusedVariables false

theorem gap_of (b : UInt8) : gap b = gapI (b.toNat : Int) := by
  have e : ∀ k : UInt8, (b == k) = (((b.toNat : Nat) : Int) == ((k.toNat : Nat) : Int)) := fun k => by
    by_cases h : b = k
    · subst h; simp
    · rw [beq_eq_false_iff_ne.2 h]
      symm; rw [beq_eq_false_iff_ne]; intro e; exact h (UInt8.toNat_inj.1 (by omega))
  unfold gap gapI
  rw [e, e]; rfl
theorem gapI_high {r : Int} (h : 128 ≤ r) : gapI r = false := by
  unfold gapI
  rw [beq_eq_false_iff_ne.2 (show r ≠ 32 by omega), beq_eq_false_iff_ne.2 (show r ≠ 9 by omega)]; rfl
theorem gap_high {b : UInt8} (h : 128 ≤ b.toNat) : gap b = false := by rw [gap_of]; exact gapI_high (by omega)
theorem words_skip (l : List UInt8) (pos wd bg : Nat) (hb : bg < pos) (hp : pos ≤ l.length) (h : ∀ b ∈ (l.drop pos).take wd, gap b = false) :
    wordsA (l.drop pos) ((l.take pos).drop bg) = wordsA (l.drop (pos + wd)) ((l.take (pos + wd)).drop bg) := by
  rw [take_drop_step l pos wd bg (by omega) hp, ← wordsA_run _ _ _ (by intro e; have := congrArg List.length e; rw [List.length_drop, List.length_take] at this; simp at this; omega) h, ← drop_split]
theorem words_hit {s : ByteArray} {pos : Nat} (h : pos < s.size) (hg : gap s[pos] = true) {cur : List UInt8} (hc : cur ≠ []) : wordsA ((lst s).drop pos) cur = cur :: wordsA ((lst s).drop (pos + 1)) [] := by
  rw [drop_byte s pos h, wordsA, if_pos hg, if_neg hc]
theorem words_blank {s : ByteArray} {pos : Nat} (h : pos < s.size) (hg : gap s[pos] = true) : wordsA ((lst s).drop pos) [] = wordsA ((lst s).drop (pos + 1)) [] := by
  rw [drop_byte s pos h, wordsA, if_pos hg, if_pos rfl]
theorem words_note {s : ByteArray} {pos : Nat} (h : pos < s.size) (h35 : s[pos].toNat = 35) : wordsA ((lst s).drop pos) [] = [] := by
  have e : s[pos] = 35 := UInt8.toNat_inj.1 (by rw [h35]; rfl)
  rw [drop_byte s pos h, wordsA, if_neg (by rw [e]; decide), if_pos ⟨rfl, e⟩]
theorem words_open {l : List UInt8} {pos wd : Nat} (hp : pos + wd ≤ l.length) (h1 : 1 ≤ wd) (h : ∀ b ∈ (l.drop pos).take wd, gap b = false) (hh : ((l.drop pos).take wd).head? ≠ some 35) :
    wordsA (l.drop pos) [] = wordsA (l.drop (pos + wd)) ((l.take (pos + wd)).drop pos) := by
  have e : (l.take (pos + wd)).drop pos = (l.drop pos).take wd := by
    rw [take_drop_step l pos wd pos (Nat.le_refl _) (by omega), take_drop_nil, List.nil_append]
  rw [e, ← wordsA_word ((l.drop pos).take wd) (l.drop (pos + wd)) (by intro e; have := congrArg List.length e; rw [List.length_take, List.length_drop] at this; simp at this; omega) h hh, ← drop_split]
theorem cur_ne {s : ByteArray} {pos bg : Nat} (hb : bg < pos) (hp : pos ≤ s.size) : ((lst s).take pos).drop bg ≠ [] := by
  intro e; have := congrArg List.length e; rw [List.length_drop, List.length_take, lst_len] at this; simp at this; omega
theorem wordsV_yes {l : List UInt8} (hv : validD l = true) (hc : ctlL l = false) : wordsV l = wordsA l [] ∧ wordsE l = 0 := by
  constructor
  · rw [wordsV, if_pos ⟨hv, hc⟩]
  · rw [wordsE, if_pos ⟨hv, hc⟩]
theorem wordsV_bad {l : List UInt8} (hv : validD l = false ∨ ctlL l = true) : wordsV l = [] ∧ wordsE l = 5 := by
  have : ¬ (validD l = true ∧ ctlL l = false) := by rintro ⟨h1, h2⟩; rw [h1, h2] at hv; simp at hv
  constructor
  · rw [wordsV, if_neg this]
  · rw [wordsE, if_neg this]
def WordsAt (w' : World) (e : Ending) (l : List UInt8) : Prop := ∃ A c zs, e = .returned (.tuple #[.slice A zs.length c, .int .i64 (wordsE l)]) ∧ Strs w' A zs ∧ zs.map lst = wordsV l ∧ zs.length ≤ c ∧ (∀ k, A = some k → k.block < w'.heap.size)

set_option maxHeartbeats 12800000 in
theorem words_any (s : ByteArray) (w : World) (hs : s.size ≤ 1100000) (hT : Tabs w) :
    Calls Tryd.prog 13 #[.string s] w fun e w' => WordsAt w' e (lst s) ∧ Below w.heap.size w w' := by
  have cV := valid_c s w (by unfold maxLen; omega) hT
  have cC : ∀ w1, Calls Tryd.prog 25 #[.string s] w1 _ := fun w1 => hasControl_any s w1 hs
  clear hT
  cases hv : validD (lst s) <;> rw [hv] at cV
  · have HN := Lib.hid (wordsV_bad (l := lst s) (Or.inl hv))
    clear hv cC
    go_enter Tryd.func13, Tryd.ntmps13
    go_wp2_with fail
    go_step3
    go_wp2_with (go_at_call 24; refine cV.mono ?_; rintro e w1 ⟨rfl, hb1⟩)
    first | go_ret2 | (rw [Exit.noGoto_ret]; go_ret2)
    exact ⟨⟨none, 0, [], by rw [HN.out.2]; rfl, Strs.none_, by rw [HN.out.1]; rfl, Nat.le_refl _, fun k h => by cases h⟩, hb1⟩
  · cases hc : ctlL (lst s) <;> simp only [hc] at cC
    · have HN := Lib.hid (wordsV_yes (l := lst s) hv hc)
      clear hv hc
      go_enter Tryd.func13, Tryd.ntmps13
      go_wp2_with fail
      go_step3
      go_wp2_with (first | (go_at_call 24; refine cV.mono ?_; rintro e w0 ⟨rfl, hb0⟩) | (go_at_call 25; refine (cC _).mono ?_; rintro e w1 ⟨rfl, hb1⟩))
      clear cV cC
      have hb01 := blw hb0 hb1
      clear hb0 hb1
      go_step3
      go_wp2
      go_loopw [4, 5] (fun v b wr => ∃ (xs : List ByteArray) (pos : Nat), Hid (OwnStrs wr (w1.heap.size + 1) v xs) ∧ Hid (wr.heap[w1.heap.size]? = some (.stringIter s pos)) ∧ w1.heap.size < wr.heap.size ∧ pos ≤ s.size ∧ xs.length ≤ pos ∧ Below w1.heap.size w1 wr ∧
        ((b = .int .i64 (-1) ∧ Hid (xs.map lst ++ wordsA ((lst s).drop pos) [] = wordsA (lst s) [])) ∨ (∃ bg : Nat, b = .int .i64 (bg : Int) ∧ bg < pos ∧ Hid (xs.map lst ++ wordsA ((lst s).drop pos) (((lst s).take pos).drop bg) = wordsA (lst s) [])))) (fun _ _ wr => s.size - wr.iterPos w1.heap.size)
      case atStart => exact ⟨[], 0, Lib.hid (OwnStrs.nil _ _), Lib.hid (World.iter_heap w1 s 0), (Array.getElem?_eq_some_iff.1 (World.iter_heap w1 s 0)).1, by omega, by simp, (Below.refl _ _).alloc (Nat.le_refl _) _, Or.inl ⟨rfl, Lib.hid rfl⟩⟩
      case round =>
        obtain ⟨xs, pos, hown, hit, hsz, hp, hx, hbw, hcase⟩ := hrel
        have HP := Lib.hid (iter_pos hit.out)
        by_cases hlt : pos < s.size
        · by_cases hasc : s[pos].toNat < 128
          · have hnx : ∀ ty, (Instr.next (.pointer (some ⟨w1.heap.size, 0, none⟩)) true ty).run Tryd.prog wr = _ := fun ty => run_next_ascii_at wr w1.heap.size s pos ty hit.out hlt hasc
            have hit2 := Lib.hid (iterAt_heap wr w1.heap.size s pos (pos + 1) hit.out)
            have hbw2 := below_iterAt hbw (k := w1.heap.size) (Nat.le_refl _) s (pos + 1)
            have hown2 := Lib.hid (hown.out.iterAt (k := w1.heap.size) (by omega) s (pos + 1))
            have HZ := Lib.hid (iterAt_size wr w1.heap.size s (pos + 1))
            have hsz3 : w1.heap.size + 1 ≤ (wr.iterAt w1.heap.size s (pos + 1)).heap.size := by rw [HZ.out]; omega
            have cG : ∀ w', Calls Tryd.prog 26 #[.int .i32 ((s[pos].toNat : Nat) : Int)] w' _ := fun w' => isGap_any _ w' (by omega) (by omega)
            rcases hcase with ⟨rfl, hi⟩ | ⟨bg, rfl, hbg, hi⟩
            · cases hg : gap s[pos]
              · rw [gap_of] at hg
                simp only [hg] at cG
                by_cases h35 : s[pos].toNat = 35
                · have HI := Lib.hid (show xs.map lst = wordsA (lst s) [] from by rw [← hi.out, words_note hlt h35]; simp)
                  generalize s[pos].toNat = c at hnx h35 cG hasc hg
                  subst h35
                  clear hg
                  go_wp2_with (go_at_call 26; refine (cG _).mono ?_; rintro e w' ⟨rfl, rfl⟩)
                  first | go_ret2 | (rw [Exit.noGoto_ret]; go_ret2)
                  obtain ⟨A, cc, hv3, hS3, hl3, hk3⟩ := hown2.out.strs
                  exact ⟨⟨A, cc, _, by rw [HN.out.2, ← hv3]; rfl, hS3, by rw [HN.out.1, HI.out], hl3, hk3⟩, blw hb01 hbw2⟩
                · have HI := Lib.hid (show xs.map lst ++ wordsA ((lst s).drop (pos + 1)) (((lst s).take (pos + 1)).drop pos) = wordsA (lst s) [] from by
                    rw [← hi.out, words_open (l := lst s) (pos := pos) (wd := 1) (by rw [lst_len]; omega) (by omega) (by rw [one_byte hlt]; intro b hb; simp at hb; subst hb; rw [gap_of]; exact hg) (by rw [one_byte hlt]; simp; intro e; exact h35 (by rw [e]; rfl))])
                  have e35 : (((s[pos].toNat : Nat) : Int) == 35) = false := by rw [beq_eq_false_iff_ne]; omega
                  generalize s[pos].toNat = c at hnx h35 cG hasc hg e35
                  clear hg h35
                  go_wp2_with (go_at_call 26; refine (cG _).mono ?_; rintro e w' ⟨rfl, rfl⟩)
                  go_roundw
                  case rel => exact ⟨xs, pos + 1, hown2, hit2, by omega, by omega, by omega, hbw2, Or.inr ⟨pos, rfl, by omega, HI⟩⟩
                  case measure => rw [HP.out, iter_pos hit2.out]; omega
              · have HI := Lib.hid (show xs.map lst ++ wordsA ((lst s).drop (pos + 1)) [] = wordsA (lst s) [] from by rw [← hi.out, words_blank hlt hg])
                rw [gap_of] at hg
                simp only [hg] at cG
                generalize s[pos].toNat = c at hnx cG hasc hg
                clear hg
                go_wp2_with (go_at_call 26; refine (cG _).mono ?_; rintro e w' ⟨rfl, rfl⟩)
                go_roundw
                case rel => exact ⟨xs, pos + 1, hown2, hit2, by omega, by omega, by omega, hbw2, Or.inl ⟨rfl, HI⟩⟩
                case measure => rw [HP.out, iter_pos hit2.out]; omega
            · have hb1 : ((bg : Int) != -1) = true := by rw [bne_iff_ne]; omega
              have hb2 : ((bg : Int) == -1) = false := by rw [beq_eq_false_iff_ne]; omega
              cases hg : gap s[pos]
              · have HI := Lib.hid (show xs.map lst ++ wordsA ((lst s).drop (pos + 1)) (((lst s).take (pos + 1)).drop bg) = wordsA (lst s) [] from by
                  rw [← hi.out, words_skip (lst s) pos 1 bg hbg hp (by rw [one_byte hlt]; intro b hb; simp at hb; subst hb; exact hg)])
                rw [gap_of] at hg
                simp only [hg] at cG
                generalize s[pos].toNat = c at hnx cG hasc hg
                clear hg
                go_wp2_with (go_at_call 26; refine (cG _).mono ?_; rintro e w' ⟨rfl, rfl⟩)
                go_roundw
                case rel => exact ⟨xs, pos + 1, hown2, hit2, by omega, by omega, by omega, hbw2, Or.inr ⟨bg, rfl, by omega, HI⟩⟩
                case measure => rw [HP.out, iter_pos hit2.out]; omega
              · have HI := Lib.hid (show (xs ++ [s.extract bg pos]).map lst ++ wordsA ((lst s).drop (pos + 1)) [] = wordsA (lst s) [] from by
                  rw [← hi.out, words_hit hlt hg (cur_ne hbg hp), List.map_append, List.map_cons, List.map_nil, lst_extract]; simp)
                rw [gap_of] at hg
                simp only [hg] at cG
                generalize s[pos].toNat = c at hnx cG hasc hg
                clear hg
                go_wp2_with (first | (go_at_call 26; refine (cG _).mono ?_; rintro e w' ⟨rfl, rfl⟩) | (at_builtin; refine wpList_apps rfl (.tmp 31) (.tmp 36) rfl (w1.heap.size + 1) _ xs rfl (hown2.out.alloc _) (wr.iterAt w1.heap.size s (pos + 1)).heap.size (s.extract bg pos) rfl (cell_new _ _ _) (by omega) (by simp; omega) ?_; intro v' w2 hown3 hb3))
                go_roundw
                case rel => exact ⟨xs ++ [s.extract bg pos], pos + 1, Lib.hid hown3, Lib.hid (keep_app hit2.out hb3), by have := hb3.size; simp at this; omega, by omega, by simp; omega, (hbw2.alloc (by omega) _).trans (hb3.mono (by omega)), Or.inl ⟨rfl, HI⟩⟩
                case measure => rw [HP.out, iter_pos (keep_app hit2.out hb3)]; omega
          · have hnx : ∀ ty, (Instr.next (.pointer (some ⟨w1.heap.size, 0, none⟩)) true ty).run Tryd.prog wr = _ := fun ty => run_next_any_at wr w1.heap.size s pos ty hit.out hlt
            have hh := high_at hlt (by omega)
            have hd := dec_width hlt
            have hle := decode_le s pos
            have hfree : ∀ b ∈ ((lst s).drop pos).take (Utf8.decode s pos).2, gap b = false := fun b hb => gap_high (hh.2 b hb)
            have hhead : (((lst s).drop pos).take (Utf8.decode s pos).2).head? ≠ some 35 := by
              intro e
              have := hh.2 35 (List.mem_of_mem_head? e)
              exact absurd this (by decide)
            have hh1 := hh.1
            clear hh
            have HD := Lib.hid hfree; have HH := Lib.hid hhead; clear hfree hhead
            have HSK : Hid (∀ bg : Nat, bg < pos → wordsA ((lst s).drop pos) (((lst s).take pos).drop bg) = wordsA ((lst s).drop (pos + (Utf8.decode s pos).2)) (((lst s).take (pos + (Utf8.decode s pos).2)).drop bg)) :=
              Lib.hid fun bg h => words_skip (lst s) pos _ bg h hp HD.out
            have HOP := Lib.hid (words_open (l := lst s) (pos := pos) (wd := (Utf8.decode s pos).2) (by rw [lst_len]; omega) hd.1 HD.out HH.out)
            clear HD HH
            generalize Utf8.decode s pos = dd at hnx hd hle hh1 HSK HOP
            obtain ⟨r, wd⟩ := dd
            simp only at hnx hd hle hh1 HSK HOP
            have hit2 := Lib.hid (iterAt_heap wr w1.heap.size s pos (pos + wd) hit.out)
            have hbw2 := below_iterAt hbw (k := w1.heap.size) (Nat.le_refl _) s (pos + wd)
            have hown2 := Lib.hid (hown.out.iterAt (k := w1.heap.size) (by omega) s (pos + wd))
            have HZ := Lib.hid (iterAt_size wr w1.heap.size s (pos + wd))
            have hsz3 : w1.heap.size + 1 ≤ (wr.iterAt w1.heap.size s (pos + wd)).heap.size := by rw [HZ.out]; omega
            have cG : ∀ w', Calls Tryd.prog 26 #[.int .i32 (r : Int)] w' _ := fun w' => isGap_any _ w' (by omega) (by omega)
            simp only [gapI_high (show (128 : Int) ≤ (r : Int) by omega)] at cG
            have e35 : ((r : Int) == 35) = false := by rw [beq_eq_false_iff_ne]; omega
            rcases hcase with ⟨rfl, hi⟩ | ⟨bg, rfl, hbg, hi⟩
            · have HI := Lib.hid (show xs.map lst ++ wordsA ((lst s).drop (pos + wd)) (((lst s).take (pos + wd)).drop pos) = wordsA (lst s) [] from by rw [← hi.out, HOP.out])
              go_wp2_with (go_at_call 26; refine (cG _).mono ?_; rintro e w' ⟨rfl, rfl⟩)
              go_roundw
              case rel => exact ⟨xs, pos + wd, hown2, hit2, by omega, by omega, by omega, hbw2, Or.inr ⟨pos, rfl, by omega, HI⟩⟩
              case measure => rw [HP.out, iter_pos hit2.out]; omega
            · have HI := Lib.hid (show xs.map lst ++ wordsA ((lst s).drop (pos + wd)) (((lst s).take (pos + wd)).drop bg) = wordsA (lst s) [] from by rw [← hi.out, HSK.out bg hbg])
              have hb1 : ((bg : Int) != -1) = true := by rw [bne_iff_ne]; omega
              have hb2 : ((bg : Int) == -1) = false := by rw [beq_eq_false_iff_ne]; omega
              go_wp2_with (go_at_call 26; refine (cG _).mono ?_; rintro e w' ⟨rfl, rfl⟩)
              go_roundw
              case rel => exact ⟨xs, pos + wd, hown2, hit2, by omega, by omega, by omega, hbw2, Or.inr ⟨bg, rfl, by omega, HI⟩⟩
              case measure => rw [HP.out, iter_pos hit2.out]; omega
        · have hnx : ∀ ty, (Instr.next (.pointer (some ⟨w1.heap.size, 0, none⟩)) true ty).run Tryd.prog wr = _ := fun ty => run_next_end_at wr w1.heap.size s pos ty hit.out hlt
          obtain rfl : pos = s.size := by omega
          rcases hcase with ⟨rfl, hi⟩ | ⟨bg, rfl, hbg, hi⟩
          · have HI := Lib.hid (show xs.map lst = wordsA (lst s) [] from by rw [← hi.out, drop_end hlt, wordsA, if_pos rfl]; simp)
            go_wp2
            first | go_ret2 | (rw [Exit.noGoto_ret]; go_ret2)
            obtain ⟨A, cc, hv3, hS3, hl3, hk3⟩ := hown.out.strs
            exact ⟨⟨A, cc, _, by rw [HN.out.2, ← hv3]; rfl, hS3, by rw [HN.out.1, HI.out], hl3, hk3⟩, blw hb01 hbw⟩
          · have hb1 : ((bg : Int) != -1) = true := by rw [bne_iff_ne]; omega
            have hb2 : ((bg : Int) == -1) = false := by rw [beq_eq_false_iff_ne]; omega
            have HI := Lib.hid (show (xs ++ [s.extract bg s.size]).map lst = wordsA (lst s) [] from by
              rw [← hi.out, drop_end hlt, wordsA, if_neg (cur_ne hbg hp), List.map_append, List.map_cons, List.map_nil, lst_extract])
            go_wp2_with (at_builtin; refine wpList_apps rfl (.tmp 49) (.tmp 53) rfl (w1.heap.size + 1) _ xs rfl (hown.out.alloc _) wr.heap.size (s.extract bg s.size) rfl (cell_new _ _ _) (by omega) (by simp; omega) ?_; intro v' w2 hown3 hb3)
            first | go_ret2 | (rw [Exit.noGoto_ret]; go_ret2)
            obtain ⟨A, cc, hv3, hS3, hl3, hk3⟩ := hown3.strs
            exact ⟨⟨A, cc, _, by rw [HN.out.2, ← hv3]; rfl, hS3, by rw [HN.out.1, HI.out], hl3, hk3⟩, blw hb01 ((hbw.alloc (by omega) _).trans (hb3.mono (by omega)))⟩
    · have HN := Lib.hid (wordsV_bad (l := lst s) (Or.inr hc))
      clear hv hc
      go_enter Tryd.func13, Tryd.ntmps13
      go_wp2_with fail
      go_step3
      go_wp2_with (first | (go_at_call 24; refine cV.mono ?_; rintro e w0 ⟨rfl, hb0⟩) | (go_at_call 25; refine (cC _).mono ?_; rintro e w1 ⟨rfl, hb1⟩))
      first | go_ret2 | (rw [Exit.noGoto_ret]; go_ret2)
      exact ⟨⟨none, 0, [], by rw [HN.out.2]; rfl, Strs.none_, by rw [HN.out.1]; rfl, Nat.le_refl _, fun k h => by cases h⟩, blw hb0 hb1⟩

end Go.Proofs.YtejmofekbeaoeaaDoor
