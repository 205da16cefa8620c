/- The document's Name. -/
import Derived.Test.YtejmofekbeaoeaaDoorTxtAll
namespace Go.Proofs.YtejmofekbeaoeaaDoor
open Go.RowKit Go.Shelf Go.Lib
set_option linter.unusedVariables false

theorem runeP_le (p : Nat × Nat) (h : p.1 ≤ 1114111) : (runeP p).1 ≤ 1114111 := by unfold runeP; split; simp; exact h
theorem dec_le : ∀ (n : Nat) (l : List UInt8), l.length ≤ n → ∀ p ∈ dec l, p.1 ≤ 1114111
  | 0, l, h, p, hp => by
    have : l = [] := List.eq_nil_of_length_eq_zero (by omega)
    subst this; simp [dec_nil] at hp
  | n + 1, l, h, p, hp => by
    by_cases hne : l = []
    · subst hne; simp [dec_nil] at hp
    · have hw := decodeL_width l
      have hl : 0 < l.length := List.length_pos_iff.2 hne
      rw [dec_step l hne] at hp
      rcases List.mem_cons.1 hp with rfl | hp
      · exact decodeL_rune l
      · exact dec_le n _ (by rw [List.length_drop]; omega) p hp
theorem good_step {D : List (Nat × Nat)} {k : Nat} {p : Nat × Nat} (h : D[k]? = some p) : goodFrom k (D.drop k) = (okAt k p.1 && goodFrom (k + 1) (D.drop (k + 1))) := by
  obtain ⟨hk, hp⟩ := List.getElem?_eq_some_iff.1 h
  rw [List.drop_eq_getElem_cons hk, hp, goodFrom]
theorem rname_elem {l : List UInt8} {k : Nat} {x : Int} (hv : validD l = true) (h : (allI l)[k]? = some x) : ∃ p : Nat × Nat, (dec l)[k]? = some p ∧ x = (p.1 : Int) ∧ p.1 ≤ 1114111 := by
  unfold allI at h
  rw [List.getElem?_map] at h
  cases hd : (dec l)[k]? with
  | none => rw [hd] at h; cases h
  | some p =>
    rw [hd] at h
    have hm := List.mem_of_getElem? hd
    rw [valid_dec _ _ (Nat.le_refl _), List.all_eq_true] at hv
    have hb := hv p hm
    simp only [Bool.not_eq_true'] at hb
    refine ⟨p, rfl, ?_, dec_le _ l (Nat.le_refl _) p hm⟩
    have := Option.some.inj h
    rw [← this, runeV, runeP_no hb]

set_option maxHeartbeats 6400000 in
theorem rname_any (s : ByteArray) (w : World) (hs : s.size ≤ 1100000) (hT : Tabs w) :
    Calls Tryd.prog 18 #[.string s] w fun e w' => e = .returned (.bool (nameD (lst s))) ∧ Below w.heap.size w w' := by
  have HT := Lib.hid hT; clear hT
  have cA := all_any s w hs
  have HE := Lib.hid (nameD_eq (lst s))
  have hlen : (dec (lst s)).length ≤ 1100000 := Nat.le_trans (dec_len _ _ (Nat.le_refl _)) hs
  cases hv : validD (lst s) <;> rw [hv] at cA
  · have HN := Lib.hid (show nameD (lst s) = false from by rw [HE.out, hv]; rfl)
    clear hv
    go_enter Tryd.func18, Tryd.ntmps18
    go_wp2_with (go_at_call 16; refine cA.mono ?_; rintro e w1 ⟨⟨A, c, rfl, hI⟩, hb1⟩)
    go_ret
    exact ⟨by rw [HN.out]; rfl, hb1⟩
  · have HV := Lib.hid hv
    by_cases hz : (dec (lst s)).length = 0
    · have HN := Lib.hid (show nameD (lst s) = false from by rw [HE.out, hz]; simp)
      rw [hz] at cA
      clear hv hz
      go_enter Tryd.func18, Tryd.ntmps18
      go_wp2_with (go_at_call 16; refine cA.mono ?_; rintro e w1 ⟨⟨A, c, rfl, hI⟩, hb1⟩)
      go_ret
      exact ⟨by rw [HN.out]; rfl, hb1⟩
    · have hz0 : (((dec (lst s)).length : Int) == 0) = false := by rw [beq_eq_false_iff_ne]; omega
      by_cases h40 : 40 < (dec (lst s)).length
      · have HN := Lib.hid (show nameD (lst s) = false from by rw [HE.out]; simp; intros; omega)
        clear hv hz
        generalize hL : (dec (lst s)).length = L at cA hz0 h40 hlen
        clear hL
        go_enter Tryd.func18, Tryd.ntmps18
        go_wp2_with (go_at_call 16; refine cA.mono ?_; rintro e w1 ⟨⟨A, c, rfl, hI⟩, hb1⟩)
        go_ret
        exact ⟨by rw [HN.out]; rfl, hb1⟩
      · have HN := Lib.hid (show nameD (lst s) = goodFrom 0 (dec (lst s)) from by rw [HE.out, hv]; simp [hz]; intros; omega)
        have HL := Lib.hid (show (allI (lst s)).length = (dec (lst s)).length from by rw [allI, List.length_map])
        clear hv hz HE
        generalize hL : (dec (lst s)).length = L at cA hz0 h40 hlen HL
        have HL2 := Lib.hid hL; clear hL
        go_enter Tryd.func18, Tryd.ntmps18
        go_wp2_with (go_at_call 16; refine cA.mono ?_; rintro e w1 ⟨⟨A, c, rfl, hI⟩, hb1⟩)
        have HI := Lib.hid hI; clear hI cA
        go_loopw [5] (fun i wr => ∃ k : Nat, i = .int .i64 (k : Int) ∧ k ≤ L ∧ Below w1.heap.size w1 wr ∧ Hid (nameD (lst s) = goodFrom k ((dec (lst s)).drop k))) (fun i _ => L - (intOf i).toNat)
        case atStart => exact ⟨0, rfl, by omega, Below.refl _ _, Lib.hid (by rw [HN.out]; rfl)⟩
        case round =>
          obtain ⟨k, rfl, hk, hbw, hg⟩ := hrel
          by_cases hlt : k < L
          · obtain ⟨b, off, x, rfl, ex, cx⟩ := (HI.out.below hbw).at_ (k := k) (by rw [HL.out]; exact hlt)
            obtain ⟨p, ep, hxp, hple⟩ := rname_elem HV.out ex
            have hg2 := hg.out
            rw [good_step ep] at hg2
            clear ex ep
            generalize p.1 = r at hxp hple hg2
            subst hxp
            have HG := Lib.hid hg2; clear hg2
            have hTw := (HT.out.below hb1).below hbw
            have cL := letter_c (r : Int) wr (by omega) (by omega) hTw
            have cD : ∀ w2, Below wr.heap.size wr w2 → Calls Tryd.prog 30 #[.int .i32 (r : Int)] w2 _ := fun w2 h => digit_c (r : Int) w2 (by omega) (by omega) (hTw.below h)
            have cX : ∀ w2, Below wr.heap.size wr w2 → w2.cell? ⟨b, off + k, none⟩ = some (.int .i64 (r : Int)) := fun w2 h => (h.cell (p := ⟨b, off + k, none⟩) (World.block_lt_of_cell? wr _ cx)).trans cx
            have HX := Lib.hid cX; clear cX
            cases hl : isLetterU (r : Int) <;> rw [hl] at cL
            · by_cases hz : k = 0
              · subst hz
                have HF := Lib.hid (show nameD (lst s) = false from by rw [HG.out]; simp [okAt, hl])
                simp only [Nat.add_zero] at cx
                go_wp2_with (go_at_call 28; refine cL.mono ?_; rintro e w2 ⟨rfl, hb2⟩)
                go_ret
                exact ⟨by rw [HF.out]; rfl, blw (blw hb1 hbw) hb2⟩
              · have hk0 : ((k : Int) == 0) = false := by rw [beq_eq_false_iff_ne]; omega
                cases hd : isDigitU (r : Int) <;> simp only [hd] at cD
                · by_cases e95 : r = 95
                  · subst e95
                    have HF := Lib.hid (show nameD (lst s) = goodFrom (k + 1) ((dec (lst s)).drop (k + 1)) from by rw [HG.out]; simp [okAt, innerR, hz])
                    clear hl hd
                    go_wp2_with (first | (go_at_call 28; refine cL.mono ?_; rintro e w2 ⟨rfl, hb2⟩) | (go_at_call 30; refine (cD _ hb2).mono ?_; rintro e w3 ⟨rfl, hb3⟩; have c3 := HX.out _ (blw hb2 hb3)))
                    go_roundw
                    case rel => exact ⟨k + 1, by go_num, by omega, blw (blw hbw hb2) hb3, HF⟩
                    case measure => simp [intOf]; omega
                  · have f95 : ((r : Int) == 95) = false := by rw [beq_eq_false_iff_ne]; omega
                    by_cases e45 : r = 45
                    · subst e45
                      have HF := Lib.hid (show nameD (lst s) = goodFrom (k + 1) ((dec (lst s)).drop (k + 1)) from by rw [HG.out]; simp [okAt, innerR, hz])
                      clear hl hd e95 f95
                      go_wp2_with (first | (go_at_call 28; refine cL.mono ?_; rintro e w2 ⟨rfl, hb2⟩) | (go_at_call 30; refine (cD _ hb2).mono ?_; rintro e w3 ⟨rfl, hb3⟩; have c3 := HX.out _ (blw hb2 hb3)))
                      go_roundw
                      case rel => exact ⟨k + 1, by go_num, by omega, blw (blw hbw hb2) hb3, HF⟩
                      case measure => simp [intOf]; omega
                    · have f45 : ((r : Int) == 45) = false := by rw [beq_eq_false_iff_ne]; omega
                      by_cases e46 : r = 46
                      · subst e46
                        have HF := Lib.hid (show nameD (lst s) = goodFrom (k + 1) ((dec (lst s)).drop (k + 1)) from by rw [HG.out]; simp [okAt, innerR, hz])
                        clear hl hd e95 f95 e45 f45
                        go_wp2_with (first | (go_at_call 28; refine cL.mono ?_; rintro e w2 ⟨rfl, hb2⟩) | (go_at_call 30; refine (cD _ hb2).mono ?_; rintro e w3 ⟨rfl, hb3⟩; have c3 := HX.out _ (blw hb2 hb3)))
                        go_roundw
                        case rel => exact ⟨k + 1, by go_num, by omega, blw (blw hbw hb2) hb3, HF⟩
                        case measure => simp [intOf]; omega
                      · have f46 : ((r : Int) == 46) = false := by rw [beq_eq_false_iff_ne]; omega
                        have HF := Lib.hid (show nameD (lst s) = false from by rw [HG.out]; simp [okAt, innerR, hl, hd, f95, f45, f46])
                        have g95 : ((r : Int) != 95) = true := by rw [bne, f95]; rfl
                        have g45 : ((r : Int) != 45) = true := by rw [bne, f45]; rfl
                        have g46 : ((r : Int) != 46) = true := by rw [bne, f46]; rfl
                        clear hl hd
                        go_wp2_with (first | (go_at_call 28; refine cL.mono ?_; rintro e w2 ⟨rfl, hb2⟩) | (go_at_call 30; refine (cD _ hb2).mono ?_; rintro e w3 ⟨rfl, hb3⟩; have c3 := HX.out _ (blw hb2 hb3)))
                        go_ret
                        exact ⟨by rw [HF.out]; rfl, blw (blw (blw hb1 hbw) hb2) hb3⟩
                · have HF := Lib.hid (show nameD (lst s) = goodFrom (k + 1) ((dec (lst s)).drop (k + 1)) from by rw [HG.out]; simp [okAt, innerR, hd, hz])
                  clear hl hd
                  go_wp2_with (first | (go_at_call 28; refine cL.mono ?_; rintro e w2 ⟨rfl, hb2⟩) | (go_at_call 30; refine (cD _ hb2).mono ?_; rintro e w3 ⟨rfl, hb3⟩))
                  go_roundw
                  case rel => exact ⟨k + 1, by go_num, by omega, blw (blw hbw hb2) hb3, HF⟩
                  case measure => simp [intOf]; omega
            · have HF := Lib.hid (show nameD (lst s) = goodFrom (k + 1) ((dec (lst s)).drop (k + 1)) from by rw [HG.out]; simp [okAt, hl])
              clear hl
              go_wp2_with (go_at_call 28; refine cL.mono ?_; rintro e w2 ⟨rfl, hb2⟩)
              go_roundw
              case rel => exact ⟨k + 1, by go_num, by omega, blw hbw hb2, HF⟩
              case measure => simp [intOf]; omega
          · have HF := Lib.hid (show nameD (lst s) = true from by rw [hg.out, List.drop_eq_nil_of_le (by rw [HL2.out]; omega)]; rfl)
            go_wp2
            go_ret
            exact ⟨by rw [HF.out]; rfl, blw hb1 hbw⟩

end Go.Proofs.YtejmofekbeaoeaaDoor
