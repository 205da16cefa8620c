/- Layer Txt over, for a seat that needs several layers: TxtRLines, TxtRWords, TxtJoin. -/
import Derived.Test.YtkcijibkloamkaaGreatDoorTxtD
namespace Go.Proofs.YtkcijibkloamkaaGreatDoor.Txt
set_option maxRecDepth 100000
/-! Lines, and Words: the document's. -/
open Go.RowKit Go.Shelf Go.Lib
set_option linter.unusedVariables false

theorem lst_cat (a b : ByteArray) : lst (a ++ b) = lst a ++ lst b := by simp [lst]
theorem cat_size (a b : ByteArray) : (a ++ b).size = a.size + b.size := by simp
theorem lst_one {s : ByteArray} {k : Nat} (h : k < s.size) : lst (s.extract k (k + 1)) = [s[k]] := by
  rw [show lst (s.extract k (k + 1)) = ((lst s).drop k).take (k + 1 - k) from extract_data s k (k + 1), show k + 1 - k = 1 by omega, one_byte h]
theorem one_size {s : ByteArray} {k : Nat} (h : k < s.size) : (s.extract k (k + 1)).size = 1 := by rw [← lst_len, lst_one h]; rfl
theorem lines_byte {s : ByteArray} {k : Nat} (h : k < s.size) (h10 : s[k].toNat ≠ 10) (cur : List UInt8) : linesA ((lst s).drop k) cur = linesA ((lst s).drop (k + 1)) (cur ++ [s[k]]) := by
  rw [drop_byte s k h, linesA, if_neg (by intro e; exact h10 (by rw [e]; rfl))]

set_option maxHeartbeats 6400000 in
theorem rlines_any (s : ByteArray) (w : World) (hs : s.size ≤ 60000) :
    Calls Tryz.prog 35 #[.string s] w fun e w' => (∃ A c zs, e = .returned (.tuple #[.slice A zs.length c, .int .i64 (linesE (lst s))]) ∧ Strs w' A zs ∧ zs.map lst = linesV (lst s)) ∧ Below w.heap.size w w' := by
  have hlong : ¬ 60000 < (lst s).length := by rw [lst_len]; omega
  have cV := all_any s w (by omega)
  generalize hL : (dec (lst s)).length = L at cV
  clear hL
  cases hv : validD (lst s) <;> rw [hv] at cV
  · have HN := Lib.hid (linesV_bad (l := lst s) hlong hv)
    clear hv hlong
    go_enter Tryz.func35, Tryz.ntmps35
    go_wp2_with (go_at_call 80; refine cV.mono ?_; rintro e w1 ⟨⟨A, c, rfl, -⟩, hb1⟩)
    go_ret2
    exact ⟨⟨none, 0, [], by rw [HN.out.2]; rfl, Strs.none_, by rw [HN.out.1]; rfl⟩, hb1⟩
  · have HN := Lib.hid (linesV_yes (l := lst s) hlong hv)
    clear hv hlong
    go_enter Tryz.func35, Tryz.ntmps35
    go_wp2_with (go_at_call 80; refine cV.mono ?_; rintro e w1 ⟨⟨A, c, rfl, -⟩, hb1⟩)
    clear cV
    go_loopw [6, 7, 8] (fun v x i wr => ∃ (xs : List ByteArray) (y : ByteArray) (k : Nat), Hid (OwnStrs wr w1.heap.size v xs) ∧ x = .string y ∧ i = .int .i64 (k : Int) ∧ k ≤ s.size ∧ xs.length ≤ k ∧ y.size ≤ k ∧ Below w1.heap.size w1 wr ∧ Hid (xs.map lst ++ linesA ((lst s).drop k) (lst y) = linesA (lst s) [])) (fun _ _ i _ => s.size - (intOf i).toNat)
    case atStart => exact ⟨[], ⟨#[]⟩, 0, Lib.hid (OwnStrs.nil _ _), rfl, rfl, by omega, by simp, Nat.le_refl _, Below.refl _ _, Lib.hid rfl⟩
    case round =>
      obtain ⟨xs, y, k, hown, rfl, rfl, hk, hx, hy, hbw, hi⟩ := hrel
      have hsz := hbw.size
      by_cases hlt : k < s.size
      · by_cases h10 : s[k].toNat = 10
        · have HI := Lib.hid (show (xs ++ [y]).map lst ++ linesA ((lst s).drop (k + 1)) (lst ⟨#[]⟩) = linesA (lst s) [] from by
            rw [← hi.out, lines_hit hlt h10]; simp)
          have e10 : (((s[k].toNat : Nat) : Int) == 10) = true := by rw [h10]; rfl
          clear h10
          go_wp2_with (at_builtin; refine wpList_apps rfl (.tmp 29) (.tmp 31) rfl w1.heap.size _ xs rfl (hown.out.alloc _) wr.heap.size y rfl (cell_new _ _ _) (by omega) (by simp; omega) ?_; intro v' w2 hown3 hb3)
          go_roundw
          case rel => exact ⟨xs ++ [y], ⟨#[]⟩, k + 1, Lib.hid hown3, rfl, by go_num, by omega, by simp; omega, Nat.zero_le _, (hbw.alloc hsz _).trans hb3, HI⟩
          case measure => simp [intOf]; omega
        · have HI := Lib.hid (show xs.map lst ++ linesA ((lst s).drop (k + 1)) (lst (y ++ s.extract k (k + 1))) = linesA (lst s) [] from by
            rw [← hi.out, lines_byte hlt h10, lst_cat, lst_one hlt])
          have HZ := Lib.hid (show (y ++ s.extract k (k + 1)).size = y.size + 1 from by rw [cat_size, one_size hlt])
          have e10 : (((s[k].toNat : Nat) : Int) == 10) = false := by rw [beq_eq_false_iff_ne]; omega
          have t1 : ((k : Int) + 1).toNat = k + 1 := by omega
          clear h10
          go_wp2
          go_roundw
          case rel => exact ⟨xs, y ++ s.extract k (k + 1), k + 1, hown, rfl, by go_num, by omega, by omega, by rw [HZ.out]; omega, hbw, HI⟩
          case measure => simp [intOf]; omega
      · by_cases hz : y.toList = []
        · have HI := Lib.hid (show xs.map lst = linesA (lst s) [] from by
            rw [ByteArray.toList_eq] at hz
            rw [← hi.out, drop_end hlt, linesA, if_pos hz]; simp)
          have ez : y.toList.isEmpty = true := by rw [hz]; rfl
          clear hz
          go_wp2
          go_ret2
          obtain ⟨A, c, hv3, hS3, _⟩ := hown.out.strs
          exact ⟨⟨A, c, _, by rw [HN.out.2, ← hv3]; rfl, hS3, by rw [HN.out.1, HI.out]⟩, blw hb1 hbw⟩
        · have HI := Lib.hid (show (xs ++ [y]).map lst = linesA (lst s) [] from by
            rw [ByteArray.toList_eq] at hz
            rw [← hi.out, drop_end hlt, linesA, if_neg hz]; simp)
          have ez : y.toList.isEmpty = false := by
            cases hh : y.toList with
            | nil => exact absurd hh hz
            | cons a t => rfl
          clear hz
          go_wp2_with (at_builtin; refine wpList_apps rfl (.tmp 42) (.tmp 44) rfl w1.heap.size _ xs rfl (hown.out.alloc _) wr.heap.size y rfl (cell_new _ _ _) (by omega) (by simp; omega) ?_; intro v' w2 hown3 hb3)
          go_ret2
          obtain ⟨A, c, hv3, hS3, _⟩ := hown3.strs
          exact ⟨⟨A, c, _, by rw [HN.out.2, ← hv3]; rfl, hS3, by rw [HN.out.1, HI.out]⟩, blw hb1 ((hbw.alloc hsz _).trans hb3)⟩

/-! The document's Words. -/
open Go.RowKit Go.Shelf Go.Lib
set_option linter.unusedVariables false

theorem words_last {cur : List UInt8} (h : cur ≠ []) : wordsA [] cur = [cur] := by rw [wordsA, if_neg h]
theorem gap_yes {b : UInt8} (h : gap b = true) : b.toNat = 32 ∨ b.toNat = 9 := by
  simp [gap] at h
  rcases h with rfl | rfl
  · exact Or.inl rfl
  · exact Or.inr rfl
theorem gap_no {b : UInt8} (h : gap b = false) : b.toNat ≠ 32 ∧ b.toNat ≠ 9 := by
  rw [gap_of, gapI, Bool.or_eq_false_iff, beq_eq_false_iff_ne, beq_eq_false_iff_ne] at h
  omega
theorem ctl_cases (b : UInt8) : (ctl b = true ∧ ((b.toNat < 32 ∧ b.toNat ≠ 9) ∨ b.toNat = 127)) ∨ (ctl b = false ∧ (32 ≤ b.toNat ∨ b.toNat = 9) ∧ b.toNat ≠ 127) := by
  rw [ctl_of]
  by_cases h1 : b.toNat < 32 <;> by_cases h2 : b.toNat = 9 <;> by_cases h3 : b.toNat = 127 <;> simp [h1, h2, h3] <;> omega

set_option maxHeartbeats 6400000 in
theorem rwords_any (s : ByteArray) (w : World) (hs : s.size ≤ 60000) :
    Calls Tryz.prog 81 #[.string s] w fun e w' => WordsAt w' e (lst s) ∧ Below w.heap.size w w' := by
  have cV := all_any s w (by omega)
  generalize hL : (dec (lst s)).length = L at cV
  clear hL
  cases hv : validD (lst s) <;> rw [hv] at cV
  · have HN := Lib.hid (wordsV_bad (l := lst s) (Or.inl hv))
    clear hv
    go_enter Tryz.func81, Tryz.ntmps81
    go_wp2_with (go_at_call 80; refine cV.mono ?_; rintro e w1 ⟨⟨A, c, rfl, -⟩, hb1⟩)
    go_ret2
    exact ⟨⟨none, 0, [], by rw [HN.out.2]; rfl, Strs.none_, by rw [HN.out.1]; rfl, Nat.le_refl _, Sd.none_ _⟩, hb1⟩
  · have HV := Lib.hid hv; clear hv
    go_enter Tryz.func81, Tryz.ntmps81
    go_wp2_with (go_at_call 80; refine cV.mono ?_; rintro e w1 ⟨⟨A, c, rfl, -⟩, hb1⟩)
    clear cV
    go_loop [6] (fun i => ∃ k : Nat, i = .int .i64 (k : Int) ∧ k ≤ s.size ∧ Hid (ctlL ((lst s).take k) = false)) (fun i => s.size - (intOf i).toNat)
    case atStart => exact ⟨0, rfl, by omega, Lib.hid rfl⟩
    case round =>
      obtain ⟨k, rfl, hk, hi⟩ := hrel
      by_cases hlt : k < s.size
      · rcases ctl_cases s[k] with ⟨hc, h⟩ | ⟨hc, h, h'⟩
        · have HN := Lib.hid (wordsV_bad (l := lst s) (Or.inr (ctlL_yes hlt hc)))
          clear hc
          by_cases h32 : s[k].toNat < 32
          · have e9 : (((s[k].toNat : Nat) : Int) == 9) = false := by rw [beq_eq_false_iff_ne]; omega
            have e9b : (((s[k].toNat : Nat) : Int) != 9) = true := by rw [bne, e9]; rfl
            clear h
            go_wp2
            go_ret2
            exact ⟨⟨none, 0, [], by rw [HN.out.2]; rfl, Strs.none_, by rw [HN.out.1]; rfl, Nat.le_refl _, Sd.none_ _⟩, hb1⟩
          · have e127 : (((s[k].toNat : Nat) : Int) == 127) = true := by rw [beq_iff_eq]; omega
            clear h
            go_wp2
            go_ret2
            exact ⟨⟨none, 0, [], by rw [HN.out.2]; rfl, Strs.none_, by rw [HN.out.1]; rfl, Nat.le_refl _, Sd.none_ _⟩, hb1⟩
        · have HI := Lib.hid (ctlL_snoc hlt hc hi.out)
          have e127 : (((s[k].toNat : Nat) : Int) == 127) = false := by rw [beq_eq_false_iff_ne]; omega
          clear hc h'
          by_cases h32 : s[k].toNat < 32
          · have e9 : (((s[k].toNat : Nat) : Int) == 9) = true := by rw [beq_iff_eq]; omega
            have e9b : (((s[k].toNat : Nat) : Int) != 9) = false := by rw [bne, e9]; rfl
            clear h
            go_wp2
            go_round
            case rel => exact ⟨k + 1, by go_num, by omega, HI⟩
            case measure => simp [intOf]; omega
          · clear h
            go_wp2
            go_round
            case rel => exact ⟨k + 1, by go_num, by omega, HI⟩
            case measure => simp [intOf]; omega
      · have HN := Lib.hid (wordsV_yes (l := lst s) HV.out (ctlL_all hlt hi.out))
        clear hi
        go_wp2
        go_loopw [7, 8, 9] (fun v i _ wr => ∃ (xs : List ByteArray) (k : Nat), Hid (OwnStrs wr w1.heap.size v xs) ∧ i = .int .i64 (k : Int) ∧ k ≤ s.size ∧ xs.length ≤ k ∧ Below w1.heap.size w1 wr ∧ Hid (xs.map lst ++ wordsA ((lst s).drop k) [] = wordsA (lst s) [])) (fun _ i _ _ => s.size - (intOf i).toNat)
        case atStart => exact ⟨[], 0, Lib.hid (OwnStrs.nil _ _), rfl, by omega, by simp, Below.refl _ _, Lib.hid rfl⟩
        case round =>
          obtain ⟨xs, k, hown, rfl, hk, hx, hbw, hi⟩ := hrel
          have hsz := hbw.size
          by_cases hlt : k < s.size
          · cases hg : gap s[k]
            · have h1 := gap_no hg
              have e32 : (((s[k].toNat : Nat) : Int) == 32) = false := by rw [beq_eq_false_iff_ne]; omega
              have e9 : (((s[k].toNat : Nat) : Int) == 9) = false := by rw [beq_eq_false_iff_ne]; omega
              by_cases h35 : s[k].toNat = 35
              · have HI := Lib.hid (show xs.map lst = wordsA (lst s) [] from by rw [← hi.out, words_note hlt h35]; simp)
                have e35 : (((s[k].toNat : Nat) : Int) == 35) = true := by rw [h35]; rfl
                clear h35 h1 hg
                go_wp2
                go_ret2
                obtain ⟨A, cc, hv3, hS3, hl3, hk3⟩ := hown.out.strs
                exact ⟨⟨A, cc, _, by rw [HN.out.2, ← hv3]; rfl, hS3, by rw [HN.out.1, HI.out], hl3, hk3⟩, blw hb1 hbw⟩
              · have HI := Lib.hid (show wordsA ((lst s).drop k) [] = wordsA ((lst s).drop (k + 1)) (((lst s).take (k + 1)).drop k) from
                  words_open (l := lst s) (pos := k) (wd := 1) (by rw [lst_len]; omega) (by omega) (by rw [one_byte hlt]; intro b hb; simp at hb; subst hb; exact hg) (by rw [one_byte hlt]; simp; intro e; exact h35 (by rw [e]; rfl)))
                have e35 : (((s[k].toNat : Nat) : Int) == 35) = false := by rw [beq_eq_false_iff_ne]; omega
                have HG := Lib.hid hg
                clear h35 h1 hg
                go_wp2
                clear e35 e32 e9
                go_loop [9] (fun t => ∃ j : Nat, k ≤ j ∧ j ≤ s.size ∧ t = .int .i64 (j : Int) ∧ Hid (k < j → wordsA ((lst s).drop k) [] = wordsA ((lst s).drop j) (((lst s).take j).drop k))) (fun t => s.size - (intOf t).toNat)
                case atStart => exact ⟨k, Nat.le_refl _, by omega, rfl, Lib.hid (fun h => absurd h (by omega))⟩
                case round =>
                  obtain ⟨j, hkj, hj, rfl, hw⟩ := hrel
                  by_cases hjs : j < s.size
                  · cases hgj : gap s[j]
                    · have h2 := gap_no hgj
                      have f32 : (((s[j].toNat : Nat) : Int) != 32) = true := by rw [bne_iff_ne]; omega
                      have f9 : (((s[j].toNat : Nat) : Int) != 9) = true := by rw [bne_iff_ne]; omega
                      have HW := Lib.hid (show k < j + 1 → wordsA ((lst s).drop k) [] = wordsA ((lst s).drop (j + 1)) (((lst s).take (j + 1)).drop k) from fun _ => by
                        by_cases he : k = j
                        · subst he; exact HI.out
                        · rw [hw.out (by omega), words_skip (lst s) j 1 k (by omega) hj (by rw [one_byte hjs]; intro b hb; simp at hb; subst hb; exact hgj)])
                      clear h2 hgj
                      go_wp2
                      go_round
                      case rel => exact ⟨j + 1, by omega, by omega, by go_num, HW⟩
                      case measure => simp [intOf]; omega
                    · have hkj2 : k < j := by
                        rcases Nat.lt_or_ge k j with h | h
                        · exact h
                        · have he : k = j := by omega
                          subst he
                          rw [HG.out] at hgj; cases hgj
                      have HW := Lib.hid (show (xs ++ [s.extract k j]).map lst ++ wordsA ((lst s).drop j) [] = wordsA (lst s) [] from by
                        rw [← hi.out, hw.out hkj2, words_hit hjs hgj (cur_ne hkj2 hj), words_blank hjs hgj, List.map_append, List.map_cons, List.map_nil, lst_extract]; simp)
                      rcases gap_yes hgj with h2 | h2
                      · have f32 : (((s[j].toNat : Nat) : Int) != 32) = false := by rw [h2]; rfl
                        have g32 : (((s[j].toNat : Nat) : Int) == 32) = true := by rw [h2]; rfl
                        clear h2 hgj
                        go_wp2_with (at_builtin; refine wpList_apps rfl (.tmp 79) (.tmp 84) rfl w1.heap.size _ xs rfl (hown.out.alloc _) wr.heap.size (s.extract k j) rfl (cell_new _ _ _) (by omega) (by simp; omega) ?_; intro v' w2 hown3 hb3)
                        go_roundw
                        case rel => exact ⟨xs ++ [s.extract k j], j, Lib.hid hown3, rfl, hj, by simp; omega, (hbw.alloc hsz _).trans hb3, HW⟩
                        case measure => simp [intOf]; omega
                      · have f32 : (((s[j].toNat : Nat) : Int) != 32) = true := by rw [h2]; rfl
                        have f9 : (((s[j].toNat : Nat) : Int) != 9) = false := by rw [h2]; rfl
                        have g32 : (((s[j].toNat : Nat) : Int) == 32) = false := by rw [h2]; rfl
                        have g9 : (((s[j].toNat : Nat) : Int) == 9) = true := by rw [h2]; rfl
                        clear h2 hgj
                        go_wp2_with (at_builtin; refine wpList_apps rfl (.tmp 79) (.tmp 84) rfl w1.heap.size _ xs rfl (hown.out.alloc _) wr.heap.size (s.extract k j) rfl (cell_new _ _ _) (by omega) (by simp; omega) ?_; intro v' w2 hown3 hb3)
                        go_roundw
                        case rel => exact ⟨xs ++ [s.extract k j], j, Lib.hid hown3, rfl, hj, by simp; omega, (hbw.alloc hsz _).trans hb3, HW⟩
                        case measure => simp [intOf]; omega
                  · have hkj2 : k < j := by omega
                    have HW := Lib.hid (show (xs ++ [s.extract k j]).map lst ++ wordsA ((lst s).drop j) [] = wordsA (lst s) [] from by
                      rw [← hi.out, hw.out hkj2, drop_end hjs, words_last (cur_ne hkj2 hj), show wordsA [] [] = [] from rfl, List.map_append, List.map_cons, List.map_nil, lst_extract]; simp)
                    go_wp2_with (at_builtin; refine wpList_apps rfl (.tmp 79) (.tmp 84) rfl w1.heap.size _ xs rfl (hown.out.alloc _) wr.heap.size (s.extract k j) rfl (cell_new _ _ _) (by omega) (by simp; omega) ?_; intro v' w2 hown3 hb3)
                    go_roundw
                    case rel => exact ⟨xs ++ [s.extract k j], j, Lib.hid hown3, rfl, hj, by simp; omega, (hbw.alloc hsz _).trans hb3, HW⟩
                    case measure => simp [intOf]; omega
            · have HI := Lib.hid (show xs.map lst ++ wordsA ((lst s).drop (k + 1)) [] = wordsA (lst s) [] from by rw [← hi.out, words_blank hlt hg])
              rcases gap_yes hg with h2 | h2
              · have e32 : (((s[k].toNat : Nat) : Int) == 32) = true := by rw [h2]; rfl
                clear h2 hg
                go_wp2
                go_roundw
                case rel => exact ⟨xs, k + 1, hown, by go_num, by omega, by omega, hbw, HI⟩
                case measure => simp [intOf]; omega
              · have e32 : (((s[k].toNat : Nat) : Int) == 32) = false := by rw [h2]; rfl
                have e9 : (((s[k].toNat : Nat) : Int) == 9) = true := by rw [h2]; rfl
                clear h2 hg
                go_wp2
                go_roundw
                case rel => exact ⟨xs, k + 1, hown, by go_num, by omega, by omega, hbw, HI⟩
                case measure => simp [intOf]; omega
          · have HI := Lib.hid (show xs.map lst = wordsA (lst s) [] from by rw [← hi.out, drop_end hlt, wordsA, if_pos rfl]; simp)
            go_wp2
            go_ret2
            obtain ⟨A, cc, hv3, hS3, hl3, hk3⟩ := hown.out.strs
            exact ⟨⟨A, cc, _, by rw [HN.out.2, ← hv3]; rfl, hS3, by rw [HN.out.1, HI.out], hl3, hk3⟩, blw hb1 hbw⟩

/-! Join: the program's, and the document's. -/
open Go.RowKit Go.Shelf Go.Lib
set_option linter.unusedVariables false

def sumZ : List ByteArray → Nat
  | [] => 0
  | x :: r => x.size + 1 + sumZ r
theorem sumZ_app (a b : List ByteArray) : sumZ (a ++ b) = sumZ a + sumZ b := by
  induction a with
  | nil => simp [sumZ]
  | cons x r ih => simp only [List.cons_append, sumZ, ih]; omega
theorem sumZ_take {zs : List ByteArray} {k : Nat} {x : ByteArray} (h : zs[k]? = some x) : sumZ (zs.take (k + 1)) = sumZ (zs.take k) + 1 + x.size := by
  rw [map_some h, sumZ_app]; simp only [sumZ]; omega
theorem sumZ_take_le (zs : List ByteArray) (k : Nat) : sumZ (zs.take k) ≤ sumZ zs := by
  have := sumZ_app (zs.take k) (zs.drop k)
  rw [List.take_append_drop] at this
  omega
theorem sumZ_len (zs : List ByteArray) : zs.length ≤ sumZ zs := by
  induction zs with
  | nil => simp
  | cons x r ih => simp only [sumZ, List.length_cons]; omega
theorem joinL_len : ∀ zs : List ByteArray, (joinL (zs.map lst)).length ≤ sumZ zs
  | [] => by simp [joinL]
  | [x] => by simp only [List.map_cons, List.map_nil, joinL, sumZ, lst_len]; omega
  | x :: y :: r => by
    have := joinL_len (y :: r)
    simp only [List.map_cons, joinL, sumZ, List.length_append, List.length_cons, lst_len] at this ⊢
    omega
theorem joinL_step {zs : List ByteArray} {k : Nat} {x : ByteArray} (hk : 1 ≤ k) (h : zs[k]? = some x) : joinL ((zs.take (k + 1)).map lst) = joinL ((zs.take k).map lst) ++ 32 :: lst x := by
  have hl : k < zs.length := (List.getElem?_eq_some_iff.1 h).1
  rw [map_some h, List.map_append, List.map_cons, List.map_nil, joinL_snoc _ _ (by intro e; have := congrArg List.length e; rw [List.length_map, List.length_take, List.length_nil] at this; omega)]
theorem joinA_len : ∀ (l cur : List UInt8), (joinL (wordsA l cur)).length ≤ cur.length + l.length
  | [], cur => by
    unfold wordsA
    split
    · simp [joinL]
    · simp [joinL]
  | b :: t, cur => by
    have h1 := joinA_len t []
    have h2 := joinA_len t (cur ++ [b])
    unfold wordsA
    split
    · split
      · simp at h1 ⊢; omega
      · cases hw : wordsA t [] with
        | nil => simp [joinL]
        | cons y r =>
          rw [hw] at h1
          simp only [joinL, List.length_append, List.length_cons, List.length_nil] at h1 ⊢
          omega
    · split
      · simp [joinL]
      · simp at h2 ⊢; omega
theorem bs_nil : bs [] = ⟨#[]⟩ := rfl
theorem words_as2 (s : ByteArray) (w : World) (hs : s.size ≤ 1100000) (hT : Tabs w) (l : List UInt8) (h : lst s = l) (hv : validD l = true) (hc : ctlL l = false) :
    Calls Tryz.prog 72 #[.string s] w fun e w' => (∃ A c zs, e = .returned (.tuple #[.slice A zs.length c, .int .i64 0]) ∧ Strs w' A zs ∧ zs.map lst = wordsA l [] ∧ zs.length ≤ c) ∧ Below w.heap.size w w' := by
  have := words_any s w hs hT
  unfold WordsAt at this
  rw [h, (wordsV_yes hv hc).1, (wordsV_yes hv hc).2] at this
  exact this.mono fun e w' ⟨⟨A, c, zs, h1, h2, h3, h4, _⟩, hb⟩ => ⟨⟨A, c, zs, h1, h2, h3, h4⟩, hb⟩

theorem join_lib (A : Option Addr) (c : Nat) (zs : List ByteArray) (w : World) (hS : Strs w A zs) (hc : zs.length ≤ c) (hl : sumZ zs ≤ 1100000) :
    Calls Tryz.prog 138 #[.slice A zs.length c, .string ⟨#[32]⟩] w fun e w' => e = .returned (.string (bs (joinL (zs.map lst)))) ∧ Below w.heap.size w w' := by
  cases zs with
  | nil => exact (Any.strings_Join_none Tryz.lays156 Tryz.Builder_Extra_156 A c ⟨#[32]⟩ w).mono fun e w' ⟨he, hw⟩ => ⟨he, hw ▸ Below.refl _ _⟩
  | cons x r =>
    obtain ⟨b, off, hA, hlt, _⟩ := hS 0 x rfl
    subst hA
    have hlen := joinL_len (x :: r)
    have hz := sumZ_len (x :: r)
    rw [joinL_eq] at hlen ⊢
    exact Any.strings_Join Tryz.lays156 Tryz.Builder_Extra_156 b off c (x :: r) ⟨#[32]⟩ w (fun j y hy => by
      obtain ⟨b', off', e, _, hcell⟩ := hS j y hy
      cases e
      exact hcell) hlt (by omega) hc (by refine Nat.le_trans hlen ?_; omega)
theorem join_any (A : Option Addr) (c : Nat) (zs : List ByteArray) (w : World) (hS : Strs w A zs) (hc : zs.length ≤ c) (hl : sumZ zs ≤ 1100000) :
    Calls Tryz.prog 105 #[.slice A zs.length c] w fun e w' => e = .returned (.string (bs (joinL (zs.map lst)))) ∧ Below w.heap.size w w' := by
  have cJ := join_lib A c zs w hS hc hl
  clear hS
  generalize bs (joinL (zs.map lst)) = V at cJ ⊢
  go_enter Tryz.func105, Tryz.ntmps105
  go_wp2_with (go_at_call 138; refine cJ.mono ?_; rintro e w1 ⟨rfl, hb1⟩)
  go_ret
  exact ⟨rfl, hb1⟩

theorem strs_of {W : World} {a : Addr} {len m : Nat} {Sx : Nat → ByteArray} (hlm : len ≤ m) (hcell : ∀ i, i < m → W.cell? (a.add i) = some (.string (Sx i)) ∧ (Sx i).size ≤ maxLen) : Strs W (some a) ((List.range len).map Sx) := by
  intro k x hx
  rw [List.getElem?_map] at hx
  have hk : k < len := by
    rcases Nat.lt_or_ge k len with h | h
    · exact h
    · rw [List.getElem?_eq_none (by simpa using h)] at hx; cases hx
  rw [List.getElem?_range hk] at hx
  obtain rfl : Sx k = x := by simpa using hx
  obtain ⟨b, off, spot⟩ := a
  have h := (hcell k (by omega)).1
  have hspot : spot = none := by simpa [Addr.add] using World.cell?_spot (hcell 0 (by omega)).1
  subst hspot
  rw [Go.WideShapes.add_plain] at h
  exact ⟨b, off, rfl, World.block_lt_of_cell? W _ h, h⟩

end Go.Proofs.YtkcijibkloamkaaGreatDoor.Txt

