/- The document's Words, of texts of up to 1100000 bytes. -/
import Derived.Test.YtdcfakbelnpljaaGreatDoorTxtE
namespace Go.Proofs.YtdcfakbelnpljaaGreatDoor.Txt
set_option maxRecDepth 100000
open Go.RowKit Go.Shelf Go.Lib
set_option linter.unusedVariables false

set_option maxHeartbeats 6400000 in
theorem rwords_big (s : ByteArray) (w : World) (hs : s.size ≤ 1100000) :
    Calls Tryz.prog 31 #[.string s] w fun e w' => WordsAt w' e (lst s) ∧ Below w.heap.size w w' := by
  have cV := all_any s w (by omega)
  generalize hL : (dec (lst s)).length = L at cV
  clear hL
  cases hv : validD (lst s) <;> rw [hv] at cV
  · have HN := Lib.hid (wordsV_bad (l := lst s) (Or.inl hv))
    clear hv
    go_enter Tryz.func31, Tryz.ntmps31
    go_wp2_with (go_at_call 62; refine cV.mono ?_; rintro e w1 ⟨⟨A, c, rfl, -⟩, hb1⟩)
    go_ret2
    exact ⟨⟨none, 0, [], by rw [HN.out.2]; rfl, Strs.none_, by rw [HN.out.1]; rfl, Nat.le_refl _, Sd.none_ _⟩, hb1⟩
  · have HV := Lib.hid hv; clear hv
    go_enter Tryz.func31, Tryz.ntmps31
    go_wp2_with (go_at_call 62; refine cV.mono ?_; rintro e w1 ⟨⟨A, c, rfl, -⟩, hb1⟩)
    clear cV
    go_loop [6] (fun i => ∃ k : Nat, i = .int .i64 (k : Int) ∧ k ≤ s.size ∧ Hid (ctlL ((lst s).take k) = false)) (fun i => s.size - (intOf i).toNat)
    case atStart => exact ⟨0, rfl, by omega, Lib.hid rfl⟩
    case round =>
      obtain ⟨k, rfl, hk, hi⟩ := hrel
      by_cases hlt : k < s.size
      · rcases ctl_cases s[k] with ⟨hc, h⟩ | ⟨hc, h, h'⟩
        · have HN := Lib.hid (wordsV_bad (l := lst s) (Or.inr (ctlL_yes hlt hc)))
          clear hc
          by_cases h32 : s[k].toNat < 32
          · have e9 : (((s[k].toNat : Nat) : Int) == 9) = false := by rw [beq_eq_false_iff_ne]; omega
            have e9b : (((s[k].toNat : Nat) : Int) != 9) = true := by rw [bne, e9]; rfl
            clear h
            go_wp2
            go_ret2
            exact ⟨⟨none, 0, [], by rw [HN.out.2]; rfl, Strs.none_, by rw [HN.out.1]; rfl, Nat.le_refl _, Sd.none_ _⟩, hb1⟩
          · have e127 : (((s[k].toNat : Nat) : Int) == 127) = true := by rw [beq_iff_eq]; omega
            clear h
            go_wp2
            go_ret2
            exact ⟨⟨none, 0, [], by rw [HN.out.2]; rfl, Strs.none_, by rw [HN.out.1]; rfl, Nat.le_refl _, Sd.none_ _⟩, hb1⟩
        · have HI := Lib.hid (ctlL_snoc hlt hc hi.out)
          have e127 : (((s[k].toNat : Nat) : Int) == 127) = false := by rw [beq_eq_false_iff_ne]; omega
          clear hc h'
          by_cases h32 : s[k].toNat < 32
          · have e9 : (((s[k].toNat : Nat) : Int) == 9) = true := by rw [beq_iff_eq]; omega
            have e9b : (((s[k].toNat : Nat) : Int) != 9) = false := by rw [bne, e9]; rfl
            clear h
            go_wp2
            go_round
            case rel => exact ⟨k + 1, by go_num, by omega, HI⟩
            case measure => simp [intOf]; omega
          · clear h
            go_wp2
            go_round
            case rel => exact ⟨k + 1, by go_num, by omega, HI⟩
            case measure => simp [intOf]; omega
      · have HN := Lib.hid (wordsV_yes (l := lst s) HV.out (ctlL_all hlt hi.out))
        clear hi
        go_wp2
        go_loopw [7, 8, 9] (fun v i _ wr => ∃ (xs : List ByteArray) (k : Nat), Hid (OwnStrs wr w1.heap.size v xs) ∧ i = .int .i64 (k : Int) ∧ k ≤ s.size ∧ xs.length ≤ k ∧ Below w1.heap.size w1 wr ∧ Hid (xs.map lst ++ wordsA ((lst s).drop k) [] = wordsA (lst s) [])) (fun _ i _ _ => s.size - (intOf i).toNat)
        case atStart => exact ⟨[], 0, Lib.hid (OwnStrs.nil _ _), rfl, by omega, by simp, Below.refl _ _, Lib.hid rfl⟩
        case round =>
          obtain ⟨xs, k, hown, rfl, hk, hx, hbw, hi⟩ := hrel
          have hsz := hbw.size
          by_cases hlt : k < s.size
          · cases hg : gap s[k]
            · have h1 := gap_no hg
              have e32 : (((s[k].toNat : Nat) : Int) == 32) = false := by rw [beq_eq_false_iff_ne]; omega
              have e9 : (((s[k].toNat : Nat) : Int) == 9) = false := by rw [beq_eq_false_iff_ne]; omega
              by_cases h35 : s[k].toNat = 35
              · have HI := Lib.hid (show xs.map lst = wordsA (lst s) [] from by rw [← hi.out, words_note hlt h35]; simp)
                have e35 : (((s[k].toNat : Nat) : Int) == 35) = true := by rw [h35]; rfl
                clear h35 h1 hg
                go_wp2
                go_ret2
                obtain ⟨A, cc, hv3, hS3, hl3, hk3⟩ := hown.out.strs
                exact ⟨⟨A, cc, _, by rw [HN.out.2, ← hv3]; rfl, hS3, by rw [HN.out.1, HI.out], hl3, hk3⟩, blw hb1 hbw⟩
              · have HI := Lib.hid (show wordsA ((lst s).drop k) [] = wordsA ((lst s).drop (k + 1)) (((lst s).take (k + 1)).drop k) from
                  words_open (l := lst s) (pos := k) (wd := 1) (by rw [lst_len]; omega) (by omega) (by rw [one_byte hlt]; intro b hb; simp at hb; subst hb; exact hg) (by rw [one_byte hlt]; simp; intro e; exact h35 (by rw [e]; rfl)))
                have e35 : (((s[k].toNat : Nat) : Int) == 35) = false := by rw [beq_eq_false_iff_ne]; omega
                have HG := Lib.hid hg
                clear h35 h1 hg
                go_wp2
                clear e35 e32 e9
                go_loop [9] (fun t => ∃ j : Nat, k ≤ j ∧ j ≤ s.size ∧ t = .int .i64 (j : Int) ∧ Hid (k < j → wordsA ((lst s).drop k) [] = wordsA ((lst s).drop j) (((lst s).take j).drop k))) (fun t => s.size - (intOf t).toNat)
                case atStart => exact ⟨k, Nat.le_refl _, by omega, rfl, Lib.hid (fun h => absurd h (by omega))⟩
                case round =>
                  obtain ⟨j, hkj, hj, rfl, hw⟩ := hrel
                  by_cases hjs : j < s.size
                  · cases hgj : gap s[j]
                    · have h2 := gap_no hgj
                      have f32 : (((s[j].toNat : Nat) : Int) != 32) = true := by rw [bne_iff_ne]; omega
                      have f9 : (((s[j].toNat : Nat) : Int) != 9) = true := by rw [bne_iff_ne]; omega
                      have HW := Lib.hid (show k < j + 1 → wordsA ((lst s).drop k) [] = wordsA ((lst s).drop (j + 1)) (((lst s).take (j + 1)).drop k) from fun _ => by
                        by_cases he : k = j
                        · subst he; exact HI.out
                        · rw [hw.out (by omega), words_skip (lst s) j 1 k (by omega) hj (by rw [one_byte hjs]; intro b hb; simp at hb; subst hb; exact hgj)])
                      clear h2 hgj
                      go_wp2
                      go_round
                      case rel => exact ⟨j + 1, by omega, by omega, by go_num, HW⟩
                      case measure => simp [intOf]; omega
                    · have hkj2 : k < j := by
                        rcases Nat.lt_or_ge k j with h | h
                        · exact h
                        · have he : k = j := by omega
                          subst he
                          rw [HG.out] at hgj; cases hgj
                      have HW := Lib.hid (show (xs ++ [s.extract k j]).map lst ++ wordsA ((lst s).drop j) [] = wordsA (lst s) [] from by
                        rw [← hi.out, hw.out hkj2, words_hit hjs hgj (cur_ne hkj2 hj), words_blank hjs hgj, List.map_append, List.map_cons, List.map_nil, lst_extract]; simp)
                      rcases gap_yes hgj with h2 | h2
                      · have f32 : (((s[j].toNat : Nat) : Int) != 32) = false := by rw [h2]; rfl
                        have g32 : (((s[j].toNat : Nat) : Int) == 32) = true := by rw [h2]; rfl
                        clear h2 hgj
                        go_wp2_with (at_builtin; refine wpList_apps rfl (.tmp 79) (.tmp 84) rfl w1.heap.size _ xs rfl (hown.out.alloc _) wr.heap.size (s.extract k j) rfl (cell_new _ _ _) (by omega) (by simp; omega) ?_; intro v' w2 hown3 hb3)
                        go_roundw
                        case rel => exact ⟨xs ++ [s.extract k j], j, Lib.hid hown3, rfl, hj, by simp; omega, (hbw.alloc hsz _).trans hb3, HW⟩
                        case measure => simp [intOf]; omega
                      · have f32 : (((s[j].toNat : Nat) : Int) != 32) = true := by rw [h2]; rfl
                        have f9 : (((s[j].toNat : Nat) : Int) != 9) = false := by rw [h2]; rfl
                        have g32 : (((s[j].toNat : Nat) : Int) == 32) = false := by rw [h2]; rfl
                        have g9 : (((s[j].toNat : Nat) : Int) == 9) = true := by rw [h2]; rfl
                        clear h2 hgj
                        go_wp2_with (at_builtin; refine wpList_apps rfl (.tmp 79) (.tmp 84) rfl w1.heap.size _ xs rfl (hown.out.alloc _) wr.heap.size (s.extract k j) rfl (cell_new _ _ _) (by omega) (by simp; omega) ?_; intro v' w2 hown3 hb3)
                        go_roundw
                        case rel => exact ⟨xs ++ [s.extract k j], j, Lib.hid hown3, rfl, hj, by simp; omega, (hbw.alloc hsz _).trans hb3, HW⟩
                        case measure => simp [intOf]; omega
                  · have hkj2 : k < j := by omega
                    have HW := Lib.hid (show (xs ++ [s.extract k j]).map lst ++ wordsA ((lst s).drop j) [] = wordsA (lst s) [] from by
                      rw [← hi.out, hw.out hkj2, drop_end hjs, words_last (cur_ne hkj2 hj), show wordsA [] [] = [] from rfl, List.map_append, List.map_cons, List.map_nil, lst_extract]; simp)
                    go_wp2_with (at_builtin; refine wpList_apps rfl (.tmp 79) (.tmp 84) rfl w1.heap.size _ xs rfl (hown.out.alloc _) wr.heap.size (s.extract k j) rfl (cell_new _ _ _) (by omega) (by simp; omega) ?_; intro v' w2 hown3 hb3)
                    go_roundw
                    case rel => exact ⟨xs ++ [s.extract k j], j, Lib.hid hown3, rfl, hj, by simp; omega, (hbw.alloc hsz _).trans hb3, HW⟩
                    case measure => simp [intOf]; omega
            · have HI := Lib.hid (show xs.map lst ++ wordsA ((lst s).drop (k + 1)) [] = wordsA (lst s) [] from by rw [← hi.out, words_blank hlt hg])
              rcases gap_yes hg with h2 | h2
              · have e32 : (((s[k].toNat : Nat) : Int) == 32) = true := by rw [h2]; rfl
                clear h2 hg
                go_wp2
                go_roundw
                case rel => exact ⟨xs, k + 1, hown, by go_num, by omega, by omega, hbw, HI⟩
                case measure => simp [intOf]; omega
              · have e32 : (((s[k].toNat : Nat) : Int) == 32) = false := by rw [h2]; rfl
                have e9 : (((s[k].toNat : Nat) : Int) == 9) = true := by rw [h2]; rfl
                clear h2 hg
                go_wp2
                go_roundw
                case rel => exact ⟨xs, k + 1, hown, by go_num, by omega, by omega, hbw, HI⟩
                case measure => simp [intOf]; omega
          · have HI := Lib.hid (show xs.map lst = wordsA (lst s) [] from by rw [← hi.out, drop_end hlt, wordsA, if_pos rfl]; simp)
            go_wp2
            go_ret2
            obtain ⟨A, cc, hv3, hS3, hl3, hk3⟩ := hown.out.strs
            exact ⟨⟨A, cc, _, by rw [HN.out.2, ← hv3]; rfl, hS3, by rw [HN.out.1, HI.out], hl3, hk3⟩, blw hb1 hbw⟩

end Go.Proofs.YtdcfakbelnpljaaGreatDoor.Txt
