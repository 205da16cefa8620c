/- Layer Txt over, for a seat that needs several layers: TxtRName, TxtLines, TxtWords. -/
import Derived.Test.YtkicanegjkemoaaDoorTxtC
import Derived.WalkMore
namespace Go.Proofs.YtkicanegjkemoaaDoor.Txt
set_option maxRecDepth 100000
/-! The document's Name. -/
open Go.RowKit Go.Shelf Go.Lib
set_option linter.unusedVariables false

theorem runeP_le (p : Nat × Nat) (h : p.1 ≤ 1114111) : (runeP p).1 ≤ 1114111 := by unfold runeP; split; simp; exact h
theorem dec_le : ∀ (n : Nat) (l : List UInt8), l.length ≤ n → ∀ p ∈ dec l, p.1 ≤ 1114111
  | 0, l, h, p, hp => by
    have : l = [] := List.eq_nil_of_length_eq_zero (by omega)
    subst this; simp [dec_nil] at hp
  | n + 1, l, h, p, hp => by
    by_cases hne : l = []
    · subst hne; simp [dec_nil] at hp
    · have hw := decodeL_width l
      have hl : 0 < l.length := List.length_pos_iff.2 hne
      rw [dec_step l hne] at hp
      rcases List.mem_cons.1 hp with rfl | hp
      · exact decodeL_rune l
      · exact dec_le n _ (by rw [List.length_drop]; omega) p hp
theorem good_step {D : List (Nat × Nat)} {k : Nat} {p : Nat × Nat} (h : D[k]? = some p) : goodFrom k (D.drop k) = (okAt k p.1 && goodFrom (k + 1) (D.drop (k + 1))) := by
  obtain ⟨hk, hp⟩ := List.getElem?_eq_some_iff.1 h
  rw [List.drop_eq_getElem_cons hk, hp, goodFrom]
theorem rname_elem {l : List UInt8} {k : Nat} {x : Int} (hv : validD l = true) (h : (allI l)[k]? = some x) : ∃ p : Nat × Nat, (dec l)[k]? = some p ∧ x = (p.1 : Int) ∧ p.1 ≤ 1114111 := by
  unfold allI at h
  rw [List.getElem?_map] at h
  cases hd : (dec l)[k]? with
  | none => rw [hd] at h; cases h
  | some p =>
    rw [hd] at h
    have hm := List.mem_of_getElem? hd
    rw [valid_dec _ _ (Nat.le_refl _), List.all_eq_true] at hv
    have hb := hv p hm
    simp only [Bool.not_eq_true'] at hb
    refine ⟨p, rfl, ?_, dec_le _ l (Nat.le_refl _) p hm⟩
    have := Option.some.inj h
    rw [← this, runeV, runeP_no hb]

set_option maxHeartbeats 6400000 in
theorem rname_any (s : ByteArray) (w : World) (hs : s.size ≤ 1100000) (hT : Tabs w) :
    Calls Tryd.prog 32 #[.string s] w fun e w' => e = .returned (.bool (nameD (lst s))) ∧ Below w.heap.size w w' := by
  have HT := Lib.hid hT; clear hT
  have cA := all_any s w hs
  have HE := Lib.hid (nameD_eq (lst s))
  have hlen : (dec (lst s)).length ≤ 1100000 := Nat.le_trans (dec_len _ _ (Nat.le_refl _)) hs
  cases hv : validD (lst s) <;> rw [hv] at cA
  · have HN := Lib.hid (show nameD (lst s) = false from by rw [HE.out, hv]; rfl)
    clear hv
    go_enter Tryd.func32, Tryd.ntmps32
    go_wp2_with (go_at_call 56; refine cA.mono ?_; rintro e w1 ⟨⟨A, c, rfl, hI⟩, hb1⟩)
    go_ret
    exact ⟨by rw [HN.out]; rfl, hb1⟩
  · have HV := Lib.hid hv
    by_cases hz : (dec (lst s)).length = 0
    · have HN := Lib.hid (show nameD (lst s) = false from by rw [HE.out, hz]; simp)
      rw [hz] at cA
      clear hv hz
      go_enter Tryd.func32, Tryd.ntmps32
      go_wp2_with (go_at_call 56; refine cA.mono ?_; rintro e w1 ⟨⟨A, c, rfl, hI⟩, hb1⟩)
      go_ret
      exact ⟨by rw [HN.out]; rfl, hb1⟩
    · have hz0 : (((dec (lst s)).length : Int) == 0) = false := by rw [beq_eq_false_iff_ne]; omega
      by_cases h40 : 40 < (dec (lst s)).length
      · have HN := Lib.hid (show nameD (lst s) = false from by rw [HE.out]; simp; intros; omega)
        clear hv hz
        generalize hL : (dec (lst s)).length = L at cA hz0 h40 hlen
        clear hL
        go_enter Tryd.func32, Tryd.ntmps32
        go_wp2_with (go_at_call 56; refine cA.mono ?_; rintro e w1 ⟨⟨A, c, rfl, hI⟩, hb1⟩)
        go_ret
        exact ⟨by rw [HN.out]; rfl, hb1⟩
      · have HN := Lib.hid (show nameD (lst s) = goodFrom 0 (dec (lst s)) from by rw [HE.out, hv]; simp [hz]; intros; omega)
        have HL := Lib.hid (show (allI (lst s)).length = (dec (lst s)).length from by rw [allI, List.length_map])
        clear hv hz HE
        generalize hL : (dec (lst s)).length = L at cA hz0 h40 hlen HL
        have HL2 := Lib.hid hL; clear hL
        go_enter Tryd.func32, Tryd.ntmps32
        go_wp2_with (go_at_call 56; refine cA.mono ?_; rintro e w1 ⟨⟨A, c, rfl, hI⟩, hb1⟩)
        have HI := Lib.hid hI; clear hI cA
        go_loopw [5] (fun i wr => ∃ k : Nat, i = .int .i64 (k : Int) ∧ k ≤ L ∧ Below w1.heap.size w1 wr ∧ Hid (nameD (lst s) = goodFrom k ((dec (lst s)).drop k))) (fun i _ => L - (intOf i).toNat)
        case atStart => exact ⟨0, rfl, by omega, Below.refl _ _, Lib.hid (by rw [HN.out]; rfl)⟩
        case round =>
          obtain ⟨k, rfl, hk, hbw, hg⟩ := hrel
          by_cases hlt : k < L
          · obtain ⟨b, off, x, rfl, ex, cx⟩ := (HI.out.below hbw).at_ (k := k) (by rw [HL.out]; exact hlt)
            obtain ⟨p, ep, hxp, hple⟩ := rname_elem HV.out ex
            have hg2 := hg.out
            rw [good_step ep] at hg2
            clear ex ep
            generalize p.1 = r at hxp hple hg2
            subst hxp
            have HG := Lib.hid hg2; clear hg2
            have hTw := (HT.out.below hb1).below hbw
            have cL := letter_c (r : Int) wr (by omega) (by omega) hTw
            have cD : ∀ w2, Below wr.heap.size wr w2 → Calls Tryd.prog 58 #[.int .i32 (r : Int)] w2 _ := fun w2 h => digit_c (r : Int) w2 (by omega) (by omega) (hTw.below h)
            have cX : ∀ w2, Below wr.heap.size wr w2 → w2.cell? ⟨b, off + k, none⟩ = some (.int .i64 (r : Int)) := fun w2 h => (h.cell (p := ⟨b, off + k, none⟩) (World.block_lt_of_cell? wr _ cx)).trans cx
            have HX := Lib.hid cX; clear cX
            cases hl : isLetterU (r : Int) <;> rw [hl] at cL
            · by_cases hz : k = 0
              · subst hz
                have HF := Lib.hid (show nameD (lst s) = false from by rw [HG.out]; simp [okAt, hl])
                simp only [Nat.add_zero] at cx
                go_wp2_with (go_at_call 57; refine cL.mono ?_; rintro e w2 ⟨rfl, hb2⟩)
                go_ret
                exact ⟨by rw [HF.out]; rfl, blw (blw hb1 hbw) hb2⟩
              · have hk0 : ((k : Int) == 0) = false := by rw [beq_eq_false_iff_ne]; omega
                cases hd : isDigitU (r : Int) <;> simp only [hd] at cD
                · by_cases e95 : r = 95
                  · subst e95
                    have HF := Lib.hid (show nameD (lst s) = goodFrom (k + 1) ((dec (lst s)).drop (k + 1)) from by rw [HG.out]; simp [okAt, innerR, hz])
                    clear hl hd
                    go_wp2_with (first | (go_at_call 57; refine cL.mono ?_; rintro e w2 ⟨rfl, hb2⟩) | (go_at_call 58; refine (cD _ hb2).mono ?_; rintro e w3 ⟨rfl, hb3⟩; have c3 := HX.out _ (blw hb2 hb3)))
                    go_roundw
                    case rel => exact ⟨k + 1, by go_num, by omega, blw (blw hbw hb2) hb3, HF⟩
                    case measure => simp [intOf]; omega
                  · have f95 : ((r : Int) == 95) = false := by rw [beq_eq_false_iff_ne]; omega
                    by_cases e45 : r = 45
                    · subst e45
                      have HF := Lib.hid (show nameD (lst s) = goodFrom (k + 1) ((dec (lst s)).drop (k + 1)) from by rw [HG.out]; simp [okAt, innerR, hz])
                      clear hl hd e95 f95
                      go_wp2_with (first | (go_at_call 57; refine cL.mono ?_; rintro e w2 ⟨rfl, hb2⟩) | (go_at_call 58; refine (cD _ hb2).mono ?_; rintro e w3 ⟨rfl, hb3⟩; have c3 := HX.out _ (blw hb2 hb3)))
                      go_roundw
                      case rel => exact ⟨k + 1, by go_num, by omega, blw (blw hbw hb2) hb3, HF⟩
                      case measure => simp [intOf]; omega
                    · have f45 : ((r : Int) == 45) = false := by rw [beq_eq_false_iff_ne]; omega
                      by_cases e46 : r = 46
                      · subst e46
                        have HF := Lib.hid (show nameD (lst s) = goodFrom (k + 1) ((dec (lst s)).drop (k + 1)) from by rw [HG.out]; simp [okAt, innerR, hz])
                        clear hl hd e95 f95 e45 f45
                        go_wp2_with (first | (go_at_call 57; refine cL.mono ?_; rintro e w2 ⟨rfl, hb2⟩) | (go_at_call 58; refine (cD _ hb2).mono ?_; rintro e w3 ⟨rfl, hb3⟩; have c3 := HX.out _ (blw hb2 hb3)))
                        go_roundw
                        case rel => exact ⟨k + 1, by go_num, by omega, blw (blw hbw hb2) hb3, HF⟩
                        case measure => simp [intOf]; omega
                      · have f46 : ((r : Int) == 46) = false := by rw [beq_eq_false_iff_ne]; omega
                        have HF := Lib.hid (show nameD (lst s) = false from by rw [HG.out]; simp [okAt, innerR, hl, hd, f95, f45, f46])
                        have g95 : ((r : Int) != 95) = true := by rw [bne, f95]; rfl
                        have g45 : ((r : Int) != 45) = true := by rw [bne, f45]; rfl
                        have g46 : ((r : Int) != 46) = true := by rw [bne, f46]; rfl
                        clear hl hd
                        go_wp2_with (first | (go_at_call 57; refine cL.mono ?_; rintro e w2 ⟨rfl, hb2⟩) | (go_at_call 58; refine (cD _ hb2).mono ?_; rintro e w3 ⟨rfl, hb3⟩; have c3 := HX.out _ (blw hb2 hb3)))
                        go_ret
                        exact ⟨by rw [HF.out]; rfl, blw (blw (blw hb1 hbw) hb2) hb3⟩
                · have HF := Lib.hid (show nameD (lst s) = goodFrom (k + 1) ((dec (lst s)).drop (k + 1)) from by rw [HG.out]; simp [okAt, innerR, hd, hz])
                  clear hl hd
                  go_wp2_with (first | (go_at_call 57; refine cL.mono ?_; rintro e w2 ⟨rfl, hb2⟩) | (go_at_call 58; refine (cD _ hb2).mono ?_; rintro e w3 ⟨rfl, hb3⟩))
                  go_roundw
                  case rel => exact ⟨k + 1, by go_num, by omega, blw (blw hbw hb2) hb3, HF⟩
                  case measure => simp [intOf]; omega
            · have HF := Lib.hid (show nameD (lst s) = goodFrom (k + 1) ((dec (lst s)).drop (k + 1)) from by rw [HG.out]; simp [okAt, hl])
              clear hl
              go_wp2_with (go_at_call 57; refine cL.mono ?_; rintro e w2 ⟨rfl, hb2⟩)
              go_roundw
              case rel => exact ⟨k + 1, by go_num, by omega, blw hbw hb2, HF⟩
              case measure => simp [intOf]; omega
          · have HF := Lib.hid (show nameD (lst s) = true from by rw [hg.out, List.drop_eq_nil_of_le (by rw [HL2.out]; omega)]; rfl)
            go_wp2
            go_ret
            exact ⟨by rw [HF.out]; rfl, blw hb1 hbw⟩

/-! Lines: the program's, and the document's. -/
open Go.RowKit Go.Shelf Go.Lib
set_option linter.unusedVariables false

theorem lst_extract (s : ByteArray) (a b : Nat) : lst (s.extract a b) = ((lst s).take b).drop a := by
  rw [show lst (s.extract a b) = ((lst s).drop a).take (b - a) from extract_data s a b, List.drop_take]
theorem drop_split (l : List UInt8) (pos wd : Nat) : l.drop pos = (l.drop pos).take wd ++ l.drop (pos + wd) := by
  rw [← List.drop_drop, List.take_append_drop]
theorem take_drop_step (l : List UInt8) (pos wd bg : Nat) (hb : bg ≤ pos) (hp : pos ≤ l.length) : (l.take (pos + wd)).drop bg = (l.take pos).drop bg ++ (l.drop pos).take wd := by
  rw [take_step, List.drop_append_of_le_length (by rw [List.length_take]; omega)]
theorem take_drop_nil (l : List UInt8) (k : Nat) : (l.take k).drop k = [] := List.drop_eq_nil_of_le (by rw [List.length_take]; omega)
theorem lines_skip (l : List UInt8) (pos wd bg : Nat) (hb : bg ≤ pos) (hp : pos ≤ l.length) (h : ∀ b ∈ (l.drop pos).take wd, b ≠ 10) :
    linesA (l.drop pos) ((l.take pos).drop bg) = linesA (l.drop (pos + wd)) ((l.take (pos + wd)).drop bg) := by
  rw [take_drop_step l pos wd bg hb hp, ← linesA_run _ _ _ h, ← drop_split]
theorem drop_byte (s : ByteArray) (k : Nat) (h : k < s.size) : (lst s).drop k = s[k] :: (lst s).drop (k + 1) := by
  rw [List.drop_eq_getElem_cons (show k < (lst s).length from h)]; rfl
theorem lines_hit {s : ByteArray} {pos : Nat} (h : pos < s.size) (h10 : s[pos].toNat = 10) (cur : List UInt8) : linesA ((lst s).drop pos) cur = cur :: linesA ((lst s).drop (pos + 1)) [] := by
  rw [drop_byte s pos h, linesA, if_pos (UInt8.toNat_inj.1 (by rw [h10]; rfl))]
theorem one_byte {s : ByteArray} {pos : Nat} (h : pos < s.size) : ((lst s).drop pos).take 1 = [s[pos]] := by
  rw [drop_byte s pos h]; rfl
theorem keep_app {W w2 : World} {k : Nat} {o o2 : Obj} (h : W.heap[k]? = some o) (hb : Below (k + 1) (W.alloc o2) w2) : w2.heap[k]? = some o := by
  have hk := (Array.getElem?_eq_some_iff.1 h).1
  rw [hb.block k (by omega), Below.heap_alloc W o2 k hk, h]
theorem iter_pos {w : World} {k : Nat} {s : ByteArray} {p : Nat} (h : w.heap[k]? = some (.stringIter s p)) : w.iterPos k = p := by simp [World.iterPos, h]
theorem linesV_yes {l : List UInt8} (h : ¬ 60000 < l.length) (hv : validD l = true) : linesV l = linesA l [] ∧ linesE l = 0 := by
  constructor
  · rw [linesV, if_neg h, if_pos hv]
  · rw [linesE, if_neg h, if_pos hv]
theorem linesV_bad {l : List UInt8} (h : ¬ 60000 < l.length) (hv : validD l = false) : linesV l = [] ∧ linesE l = 5 := by
  constructor
  · rw [linesV, if_neg h, if_neg (by rw [hv]; simp)]
  · rw [linesE, if_neg h, if_neg (by rw [hv]; simp)]
theorem linesV_long {l : List UInt8} (h : 60000 < l.length) : linesV l = [] ∧ linesE l = 3 := by
  constructor
  · rw [linesV, if_pos h]
  · rw [linesE, if_pos h]

/-! Words: the program's. -/
open Go.RowKit Go.Shelf Go.Lib
set_option linter.unusedVariables false

theorem gap_of (b : UInt8) : gap b = gapI (b.toNat : Int) := by
  have e : ∀ k : UInt8, (b == k) = (((b.toNat : Nat) : Int) == ((k.toNat : Nat) : Int)) := fun k => by
    by_cases h : b = k
    · subst h; simp
    · rw [beq_eq_false_iff_ne.2 h]
      symm; rw [beq_eq_false_iff_ne]; intro e; exact h (UInt8.toNat_inj.1 (by omega))
  unfold gap gapI
  rw [e, e]; rfl
theorem gapI_high {r : Int} (h : 128 ≤ r) : gapI r = false := by
  unfold gapI
  rw [beq_eq_false_iff_ne.2 (show r ≠ 32 by omega), beq_eq_false_iff_ne.2 (show r ≠ 9 by omega)]; rfl
theorem gap_high {b : UInt8} (h : 128 ≤ b.toNat) : gap b = false := by rw [gap_of]; exact gapI_high (by omega)
theorem words_skip (l : List UInt8) (pos wd bg : Nat) (hb : bg < pos) (hp : pos ≤ l.length) (h : ∀ b ∈ (l.drop pos).take wd, gap b = false) :
    wordsA (l.drop pos) ((l.take pos).drop bg) = wordsA (l.drop (pos + wd)) ((l.take (pos + wd)).drop bg) := by
  rw [take_drop_step l pos wd bg (by omega) hp, ← wordsA_run _ _ _ (by intro e; have := congrArg List.length e; rw [List.length_drop, List.length_take] at this; simp at this; omega) h, ← drop_split]
theorem words_hit {s : ByteArray} {pos : Nat} (h : pos < s.size) (hg : gap s[pos] = true) {cur : List UInt8} (hc : cur ≠ []) : wordsA ((lst s).drop pos) cur = cur :: wordsA ((lst s).drop (pos + 1)) [] := by
  rw [drop_byte s pos h, wordsA, if_pos hg, if_neg hc]
theorem words_blank {s : ByteArray} {pos : Nat} (h : pos < s.size) (hg : gap s[pos] = true) : wordsA ((lst s).drop pos) [] = wordsA ((lst s).drop (pos + 1)) [] := by
  rw [drop_byte s pos h, wordsA, if_pos hg, if_pos rfl]
theorem words_note {s : ByteArray} {pos : Nat} (h : pos < s.size) (h35 : s[pos].toNat = 35) : wordsA ((lst s).drop pos) [] = [] := by
  have e : s[pos] = 35 := UInt8.toNat_inj.1 (by rw [h35]; rfl)
  rw [drop_byte s pos h, wordsA, if_neg (by rw [e]; decide), if_pos ⟨rfl, e⟩]
theorem words_open {l : List UInt8} {pos wd : Nat} (hp : pos + wd ≤ l.length) (h1 : 1 ≤ wd) (h : ∀ b ∈ (l.drop pos).take wd, gap b = false) (hh : ((l.drop pos).take wd).head? ≠ some 35) :
    wordsA (l.drop pos) [] = wordsA (l.drop (pos + wd)) ((l.take (pos + wd)).drop pos) := by
  have e : (l.take (pos + wd)).drop pos = (l.drop pos).take wd := by
    rw [take_drop_step l pos wd pos (Nat.le_refl _) (by omega), take_drop_nil, List.nil_append]
  rw [e, ← wordsA_word ((l.drop pos).take wd) (l.drop (pos + wd)) (by intro e; have := congrArg List.length e; rw [List.length_take, List.length_drop] at this; simp at this; omega) h hh, ← drop_split]
theorem cur_ne {s : ByteArray} {pos bg : Nat} (hb : bg < pos) (hp : pos ≤ s.size) : ((lst s).take pos).drop bg ≠ [] := by
  intro e; have := congrArg List.length e; rw [List.length_drop, List.length_take, lst_len] at this; simp at this; omega
theorem wordsV_yes {l : List UInt8} (hv : validD l = true) (hc : ctlL l = false) : wordsV l = wordsA l [] ∧ wordsE l = 0 := by
  constructor
  · rw [wordsV, if_pos ⟨hv, hc⟩]
  · rw [wordsE, if_pos ⟨hv, hc⟩]
theorem wordsV_bad {l : List UInt8} (hv : validD l = false ∨ ctlL l = true) : wordsV l = [] ∧ wordsE l = 5 := by
  have : ¬ (validD l = true ∧ ctlL l = false) := by rintro ⟨h1, h2⟩; rw [h1, h2] at hv; simp at hv
  constructor
  · rw [wordsV, if_neg this]
  · rw [wordsE, if_neg this]
def WordsAt (w' : World) (e : Ending) (l : List UInt8) : Prop := ∃ A c zs, e = .returned (.tuple #[.slice A zs.length c, .int .i64 (wordsE l)]) ∧ Strs w' A zs ∧ zs.map lst = wordsV l ∧ zs.length ≤ c ∧ Sd w' A c

end Go.Proofs.YtkicanegjkemoaaDoor.Txt

