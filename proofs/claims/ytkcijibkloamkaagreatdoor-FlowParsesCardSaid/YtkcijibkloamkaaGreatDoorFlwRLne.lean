/- Of the document's Parse: one line. -/
import Derived.Test.YtkcijibkloamkaaGreatDoorFlwLneP

import Derived.Test.YtkcijibkloamkaaGreatDoorFlwRLnk
import Derived.Test.YtkcijibkloamkaaGreatDoorTxtE
namespace Go.Proofs.YtkcijibkloamkaaGreatDoor
open Go.RowKit
open Dag (Ints Own1 Sl)
open Txt (nameD sameS wordsE wordsV)
open Clk (readE readV)
set_option linter.unusedVariables false
set_option maxRecDepth 100000

set_option maxHeartbeats 6400000 in
theorem dline_any (s : St) (H : List (List UInt8)) (hR : Rl H s) (hI : Inv s) (w : World) (A : Option Addr) (c : Nat) (F : FlowD) (hF : s.flow = F) (h : TT w A c F.tasks) (hm : F.tasks.length ≤ 100000) (nm : Bool) (hnm : s.had 0 = nm) (HA : Option Addr) (hh hc : Nat) (hH : H.length = hh) (hhm : hh ≤ 100000) (hW : Words w HA hc H) (hTy : TypS w HA) (l : List UInt8) (hl : l.length ≤ 60000) (hT : Txt.Tabs w) :
    Calls Tryz.prog 36 #[.agg #[.string (sb F.name), .int .i64 F.deadline, .int .i64 F.priority, .slice A F.tasks.length c, .bool nm, .slice HA hh hc, .int .i64 0], .string (sb l)] w (RetLn H (lineSt s l) w) := by
  have hB0 := blw (al w (rO F A c nm HA hh hc 0)) (al (w.alloc (rO F A c nm HA hh hc 0)) (.cells zero7 67))
  have hO0 := keep_obj (al (w.alloc (rO F A c nm HA hh hc 0)) (.cells zero7 67)) (heap_alloc_new w (rO F A c nm HA hh hc 0))
  have hR0 := alloc_at (W := w.alloc (rO F A c nm HA hh hc 0)) (o := .cells zero7 67) (g := w.heap.size + 1) (by simp)
  have HT := Lib.hid h; have HW := Lib.hid hW; have HTY := Lib.hid hTy; have HHL := Lib.hid hH; have HTB := Lib.hid hT; have HRL := Lib.hid hR; have HIV := Lib.hid hI; have HFF := Lib.hid hF; have HNM := Lib.hid hnm
  clear h hW hTy hH hT hR hI hF hnm
  go_enter Tryz.func36, Tryz.ntmps36
  go_wp2_with fail
  unfold rO zero7 at hB0 hO0 hR0
  generalize (w.alloc (.cells #[.string (sb F.name), .int .i64 F.deadline, .int .i64 F.priority, .slice A F.tasks.length c, .bool nm, .slice HA hh hc, .int .i64 0] 67)).alloc (.cells #[.string ⟨#[]⟩, .int .i64 0, .int .i64 0, .slice none 0 0, .bool false, .slice none 0 0, .int .i64 0] 67) = W0 at hB0 hO0 hR0 ⊢
  have HB0 := Lib.hid hB0
  have HO0 : Hid (W0.heap[w.heap.size]? = some (rO F A c nm HA hh hc 0)) := Lib.hid hO0
  have HR0 : Hid (W0.heap[w.heap.size + 1]? = some (.cells zero7 67 (0, 0))) := Lib.hid hR0
  clear hB0 hO0 hR0
  generalize eG : w.heap.size = g at HO0 HR0 ⊢
  refine (Txt.rwords_any (sb l) W0 (by rw [sb_size]; omega)).mono ?_
  rintro e w1 ⟨⟨LA, lc, zs, rfl, hS1, hz, hlz, hd⟩, hb1⟩
  rw [show Txt.lst (sb l) = l from sb_list l] at hz ⊢
  have HW1 := Lib.hid (words_of hS1 hz hlz hd)
  have HZL := Lib.hid (show zs.length = (wordsV l).length from by rw [← hz, List.length_map])
  have HB1 := Lib.hid (blw HB0.out hb1)
  have HO1 := Lib.hid (keep_obj hb1 HO0.out)
  have HR1 := Lib.hid (keep_obj hb1 HR0.out)
  clear hS1 hz hlz hd hb1 HB0 HO0 HR0
  have hm1 : (wordsV l).length ≤ 60001 := by
    unfold wordsV
    split
    · exact Nat.le_trans (Txt.wordsA_len l []) (by omega)
    · simp
  have HMW : Hid (∀ x ∈ wordsV l, x.length ≤ 1100000) := Lib.hid fun x hx => Nat.le_trans (wordsV_mem hx) (by omega)
  obtain ⟨m, hm0⟩ : ∃ m, zs.length = m := ⟨_, rfl⟩
  rw [hm0]
  rw [hm0] at HZL
  clear hm0
  by_cases he : wordsE l = 0
  case neg =>
    obtain ⟨x, hx⟩ : ∃ x, wordsE l = x := ⟨_, rfl⟩
    have HN := Lib.hid (show lineSt s l = .error x from by rw [ln_err he, hx])
    have hx0 : x ≠ 0 := by rw [← hx]; exact he
    have hxn : (x != 0) = true := by simp [hx0]
    rw [hx]
    clear he hx HW1 HZL HMW hm1
    have HRS : Hid ((w1.setCell ⟨g, 6, none⟩ (.int .i64 x)).heap[g + 1]? = some (.cells zero7 67 (0, 0))) := Lib.hid ((Dag.blk_other (by omega)).trans HR1.out)
    obtain ⟨p0, p1, p2, p3, p4, p5, p6, hp⟩ := rO_cells HO1.out
    have pf := Dag.blk_frozen HO1.out 6
    go_wp2_with (refine wpList_storeA rfl 67 _ _ rfl (g + 1) #[.string (sb F.name), .int .i64 F.deadline, .int .i64 F.priority, .slice A F.tasks.length c, .bool nm, .slice HA hh hc, .int .i64 x] zero7 _ rfl rfl HRS.out rfl info_R (rO_one F A c nm HA hh hc x) ?_; intro w3 hp3; have HP3 := Lib.hid hp3; clear hp3)
    refine bodyPost_ret (results_cell_row rfl _ _ _ _ _ _ _ rfl HP3.out.blk Tryz.underlying67 rfl info_R) rfl ?_
    exact retLn_err HN.out hx0 (HP3.out.below (HB1.out.setCell (by rw [eG]; exact Nat.le_refl _) _) (by omega)) F A c nm HA hh hc
  have HLE := Lib.hid he
  rw [he]
  clear he
  cases hwv : wordsV l with
  | nil =>
    have hm0 : m = 0 := by have := HZL.out; rw [hwv] at this; simpa using this
    subst hm0
    have HN := Lib.hid (ln_none (s := s) HLE.out hwv)
    have HLI := Lib.hid (rline_any [] 0 rfl w1 LA lc (by rw [← hwv]; exact HW1.out) (fun s hs => by simp at hs) (by omega))
    clear hwv
    go_wp2_with fail
    refine HLI.out.mono ?_
    rintro e w2 ⟨hb2, A2, c2, rfl, hW2⟩
    have HB2 := Lib.hid (blw HB1.out hb2)
    have HO2 := Lib.hid (keep_obj hb2 HO1.out)
    have HR2 := Lib.hid (keep_obj hb2 HR1.out)
    clear hb2 hW2 HLI HO1 HR1 HB1
    have gE : ((sb (lineKw [])).toList == []) = true := by rw [sb_toList]; decide
    have HRS : Hid ((w2.setCell ⟨g, 6, none⟩ (.int .i64 0)).heap[g + 1]? = some (.cells zero7 67 (0, 0))) := Lib.hid ((Dag.blk_other (by omega)).trans HR2.out)
    obtain ⟨p0, p1, p2, p3, p4, p5, p6, hp⟩ := rO_cells HO2.out
    have pf := Dag.blk_frozen HO2.out 6
    rw [show lineE [] = 0 from rfl]
    go_wp2_with (refine wpList_storeA rfl 67 _ _ rfl (g + 1) #[.string (sb F.name), .int .i64 F.deadline, .int .i64 F.priority, .slice A F.tasks.length c, .bool nm, .slice HA hh hc, .int .i64 0] zero7 _ rfl rfl HRS.out rfl info_R (rO_one F A c nm HA hh hc 0) ?_; intro w3 hp3; have HP3 := Lib.hid hp3; clear hp3)
    refine bodyPost_ret (results_cell_row rfl _ _ _ _ _ _ _ rfl HP3.out.blk Tryz.underlying67 rfl info_R) rfl ?_
    have hb3 := HP3.out.below (HB2.out.setCell (p := ⟨g, 6, none⟩) (by rw [eG]; exact Nat.le_refl _) (.int .i64 0)) (show w.heap.size ≤ g + 1 by omega)
    exact retLn_ok HN.out HFF.out HNM.out HRL.out HHL.out (by have := HHL.out; omega) hb3 rfl (HT.out.below hb3) ⟨HW.out.below hb3, HTY.out.below hb3⟩
  | cons a t =>
    have hm0 : t.length + 1 = m := by have := HZL.out; rw [hwv] at this; simpa using this.symm
    have HAD := Lib.hid (ln_word (s := s) HLE.out hwv)
    have HMM := Lib.hid (show ∀ x ∈ a :: t, x.length ≤ 1100000 from by rw [← hwv]; exact HMW.out)
    have hm5 : m ≤ 60001 := by have := HZL.out; omega
    have HLI := Lib.hid (rline_any (a :: t) m (by simpa using hm0) w1 LA lc (by rw [← hwv]; exact HW1.out) (fun x hx => Nat.le_trans (HMM.out x hx) (by decide)) (by omega))
    clear hwv HW1 HZL HMW hm1
    go_wp2_with fail
    refine HLI.out.mono ?_
    rintro e w2 ⟨hb2, A2, c2, rfl, hW2⟩
    have HB2 := Lib.hid (blw HB1.out hb2)
    have HO2 := Lib.hid (keep_obj hb2 HO1.out)
    have HR2 := Lib.hid (keep_obj hb2 HR1.out)
    have hlg : g + 1 < w2.heap.size := Dag.blk_lt HR2.out
    have hwg : w.heap.size ≤ g := by rw [eG]; exact Nat.le_refl _
    cases hc : classD a t with
    | none =>
      have HN := Lib.hid (show lineSt s l = .error 50 from by rw [HAD.out, addW_none hc])
      obtain ⟨q1, q2, q3⟩ := lineW_none hc
      rw [q1, q2, q3]
      clear hb2 hW2 HLI HO1 HR1 HB1 hc q1 q2 q3
      have HRS : Hid ((w2.setCell ⟨g, 6, none⟩ (.int .i64 50)).heap[g + 1]? = some (.cells zero7 67 (0, 0))) := Lib.hid ((Dag.blk_other (by omega)).trans HR2.out)
      obtain ⟨p0, p1, p2, p3, p4, p5, p6, hp⟩ := rO_cells HO2.out
      have pf := Dag.blk_frozen HO2.out 6
      go_wp2_with (refine wpList_storeA rfl 67 _ _ rfl (g + 1) #[.string (sb F.name), .int .i64 F.deadline, .int .i64 F.priority, .slice A F.tasks.length c, .bool nm, .slice HA hh hc, .int .i64 50] zero7 _ rfl rfl HRS.out rfl info_R (rO_one F A c nm HA hh hc 50) ?_; intro w3 hp3; have HP3 := Lib.hid hp3; clear hp3)
      refine bodyPost_ret (results_cell_row rfl _ _ _ _ _ _ _ rfl HP3.out.blk Tryz.underlying67 rfl info_R) rfl ?_
      exact retLn_err HN.out (by decide) (HP3.out.below (HB2.out.setCell (by rw [eG]; exact Nat.le_refl _) _) (by omega)) F A c nm HA hh hc
    | some p =>
      obtain ⟨k, x⟩ := p
      have hk9 := classD_lt hc
      obtain ⟨q1, q2, q3⟩ := lineW_some hc
      rw [q2] at hW2
      rw [q1, q2, q3]
      have HX := Lib.hid hW2
      have HAK := Lib.hid (show lineSt s l = addSt s k x from by rw [HAD.out, addW_some hc])
      have HM := Lib.hid (classD_mem hc (n := 1100000) (by decide) HMM.out)
      have HLN : Hid (k ≠ 8 → (x.length : Int) = wordsN k) := Lib.hid fun h8 => (classD_len hc h8).1
      have HFM : Hid (k = 8 → famD t = some x) := Lib.hid fun e => by subst e; exact classD_fam hc
      have HXL : Hid (k = 8 → x.length ≤ 60001) := Lib.hid fun e => by obtain ⟨q, _, _, _, h4, _⟩ := fam_idx (HFM.out e); omega
      clear hb2 hW2 HLI HO1 HR1 HB1 hc q1 q2 q3 HMM HAD
      have hk_cases : k = 0 ∨ k = 1 ∨ k = 2 ∨ k = 3 ∨ k = 4 ∨ k = 5 ∨ k = 6 ∨ k = 7 ∨ k = 8 := by omega
      clear hk9
      rcases hk_cases with rfl | rfl | rfl | rfl | rfl | rfl | rfl | rfl | rfl
      · have gE : ((sb (kwB 0)).toList == []) = false := by rw [sb_toList]; decide
        have gW : ((sb (kwB 0)).toList == [87, 79, 82, 75, 70, 76, 79, 87]) = true := by rw [sb_toList]; decide
        have gJ : ((sb (kwB 0)).toList == [74, 79, 66]) = false := by rw [sb_toList]; decide
        have gD : ((sb (kwB 0)).toList == [68, 69, 65, 68, 76, 73, 78, 69]) = false := by rw [sb_toList]; decide
        have gP : ((sb (kwB 0)).toList == [80, 82, 73, 79, 82, 73, 84, 89]) = false := by rw [sb_toList]; decide
        have gA : ((sb (kwB 0)).toList == [80, 65, 82, 69, 78, 84]) = false := by rw [sb_toList]; decide
        obtain ⟨x0, rfl⟩ := len_one (HLN.out (by decide))
        obtain ⟨bw, ow, y, rfl, hy, hcw⟩ := HX.out.at_ (k := 0) (by simp)
        rw [List.getElem?_cons_zero] at hy; injection hy with hy; subst hy
        rw [Nat.add_zero] at hcw
        have hla := HM.out x0 (by simp)
        have hlb := World.block_lt_of_cell? w2 _ hcw
        cases nm with
        | true =>
          have HN := Lib.hid (show lineSt s l = .error 51 from by rw [HAK.out, addSt_0]; unfold beginSt; rw [if_pos HNM.out])
          have HRS : Hid (((w2.setCell ⟨g, 6, none⟩ (.int .i64 50)).setCell ⟨g, 6, none⟩ (.int .i64 51)).heap[g + 1]? = some (.cells zero7 67 (0, 0))) := Lib.hid ((Dag.blk_other (by omega)).trans ((Dag.blk_other (by omega)).trans HR2.out))
          have HOS : Hid (((w2.setCell ⟨g, 6, none⟩ (.int .i64 50)).setCell ⟨g, 6, none⟩ (.int .i64 51)).heap[g]? = some (rO F A c true HA hh hc 51)) := Lib.hid (rO_set6 (rO_set6 HO2.out 50) 51)
          obtain ⟨p0, p1, p2, p3, p4, p5, p6, hp⟩ := rO_cells HO2.out
          have pf := Dag.blk_frozen HO2.out 6
          go_wp2_with (first
            | (refine wpList_loadA rfl 67 _ rfl g #[.string (sb F.name), .int .i64 F.deadline, .int .i64 F.priority, .slice A F.tasks.length c, .bool true, .slice HA hh hc, .int .i64 51] 67 rfl HOS.out _ Tryz.underlying67 rfl info_R ?_)
            | (refine wpList_storeA rfl 67 _ _ rfl (g + 1) #[.string (sb F.name), .int .i64 F.deadline, .int .i64 F.priority, .slice A F.tasks.length c, .bool true, .slice HA hh hc, .int .i64 51] zero7 _ rfl rfl HRS.out rfl info_R (rO_one F A c true HA hh hc 51) ?_; intro w9 hp9; have HP9 := Lib.hid hp9; clear hp9))
          refine bodyPost_ret (results_cell_row rfl _ _ _ _ _ _ _ rfl HP9.out.blk Tryz.underlying67 rfl info_R) rfl ?_
          exact retLn_err HN.out (by decide) (HP9.out.below ((HB2.out.setCell hwg _).setCell hwg _) (by omega)) F A c true HA hh hc
        | false =>
          obtain ⟨p0, p1, p2, p3, p4, p5, p6, hp⟩ := rO_cells HO2.out
          have HNA := Lib.hid (rnm_any x0 w2 hla (HTB.out.below HB2.out))
          cases hnm2 : nameD x0 with
          | false =>
            rw [hnm2] at HNA
            have HN := Lib.hid (show lineSt s l = .error 5 from by rw [HAK.out, addSt_0]; unfold beginSt; rw [if_neg (by rw [HNM.out]; decide), if_pos hnm2])
            clear hnm2
            go_wp2_with (first
              | (go_at_call 83; refine HNA.out.mono ?_; rintro e w3 ⟨rfl, hb3⟩; have HB3 := Lib.hid (blw HB2.out hb3); have HO3 := Lib.hid (keep_obj hb3 HO2.out); have HR3 := Lib.hid (keep_obj hb3 HR2.out); clear hb3 p0 p1 p2 p3 p4 p5 p6 hp; obtain ⟨p0, p1, p2, p3, p4, p5, p6, hp⟩ := rO_cells HO3.out; have pf := Dag.blk_frozen HO3.out 6; have HRS : Hid ((w3.setCell ⟨g, 6, none⟩ (.int .i64 5)).heap[g + 1]? = some (.cells zero7 67 (0, 0))) := Lib.hid ((Dag.blk_other (by omega)).trans HR3.out))
              | (refine wpList_storeA rfl 67 _ _ rfl (g + 1) #[.string (sb F.name), .int .i64 F.deadline, .int .i64 F.priority, .slice A F.tasks.length c, .bool false, .slice HA hh hc, .int .i64 5] zero7 _ rfl rfl HRS.out rfl info_R (rO_one F A c false HA hh hc 5) ?_; intro w9 hp9; have HP9 := Lib.hid hp9; clear hp9))
            refine bodyPost_ret (results_cell_row rfl _ _ _ _ _ _ _ rfl HP9.out.blk Tryz.underlying67 rfl info_R) rfl ?_
            exact retLn_err HN.out (by decide) (HP9.out.below (HB3.out.setCell hwg _) (by omega)) F A c false HA hh hc
          | true =>
            rw [hnm2] at HNA
            have HN := Lib.hid (show lineSt s l = .ok { s with name := x0, had := upB s.had 0 } from by rw [HAK.out, addSt_0]; unfold beginSt; rw [if_neg (by rw [HNM.out]; decide), if_neg (by rw [hnm2]; decide)])
            clear hnm2
            go_wp2_with (first
              | (go_at_call 83; refine HNA.out.mono ?_; rintro e w3 ⟨rfl, hb3⟩; have HB3 := Lib.hid (blw HB2.out hb3); have HO3 := Lib.hid (keep_obj hb3 HO2.out); have HR3 := Lib.hid (keep_obj hb3 HR2.out); have hcw3 := keep_cell hb3 hcw; have hlb3 := World.block_lt_of_cell? w3 _ hcw3; clear hb3 p0 p1 p2 p3 p4 p5 p6 hp; obtain ⟨p0, p1, p2, p3, p4, p5, p6, hp⟩ := rO_cells HO3.out; have pf := Dag.blk_frozen HO3.out 0; have pf4 := Dag.blk_frozen HO3.out 4; have HRS : Hid (((w3.setCell ⟨g, 0, none⟩ (.string (sb x0))).setCell ⟨g, 4, none⟩ (.bool true)).heap[g + 1]? = some (.cells zero7 67 (0, 0))) := Lib.hid ((Dag.blk_other (by omega)).trans ((Dag.blk_other (by omega)).trans HR3.out)))
              | (refine wpList_storeA rfl 67 _ _ rfl (g + 1) #[.string (sb x0), .int .i64 F.deadline, .int .i64 F.priority, .slice A F.tasks.length c, .bool true, .slice HA hh hc, .int .i64 0] zero7 _ rfl rfl HRS.out rfl info_R (rO_one { F with name := x0 } A c true HA hh hc 0) ?_; intro w9 hp9; have HP9 := Lib.hid hp9; clear hp9))
            refine bodyPost_ret (results_cell_row rfl _ _ _ _ _ _ _ rfl HP9.out.blk Tryz.underlying67 rfl info_R) rfl ?_
            have hb9 := HP9.out.below ((HB3.out.setCell (p := ⟨g, 0, none⟩) hwg (.string (sb x0))).setCell (p := ⟨g, 4, none⟩) hwg (.bool true)) (show w.heap.size ≤ g + 1 by omega)
            exact retLn_ok (F := { F with name := x0 }) HN.out (by rw [← HFF.out]; rfl) (by simp [upB]) (HRL.out.begin x0) HHL.out (by have := HHL.out; omega) hb9 rfl (HT.out.below hb9) ⟨HW.out.below hb9, HTY.out.below hb9⟩
      · have gE : ((sb (kwB 1)).toList == []) = false := by rw [sb_toList]; decide
        have gW : ((sb (kwB 1)).toList == [87, 79, 82, 75, 70, 76, 79, 87]) = false := by rw [sb_toList]; decide
        have gJ : ((sb (kwB 1)).toList == [74, 79, 66]) = false := by rw [sb_toList]; decide
        have gD : ((sb (kwB 1)).toList == [68, 69, 65, 68, 76, 73, 78, 69]) = true := by rw [sb_toList]; decide
        have gP : ((sb (kwB 1)).toList == [80, 82, 73, 79, 82, 73, 84, 89]) = false := by rw [sb_toList]; decide
        have gA : ((sb (kwB 1)).toList == [80, 65, 82, 69, 78, 84]) = false := by rw [sb_toList]; decide
        cases nm with
        | false =>
          have HN := Lib.hid (show lineSt s l = .error 50 from by rw [HAK.out, addSt_no (by decide) HNM.out])
          have HRS : Hid ((w2.setCell ⟨g, 6, none⟩ (.int .i64 50)).heap[g + 1]? = some (.cells zero7 67 (0, 0))) := Lib.hid ((Dag.blk_other (by omega)).trans HR2.out)
          obtain ⟨p0, p1, p2, p3, p4, p5, p6, hp⟩ := rO_cells HO2.out
          have pf := Dag.blk_frozen HO2.out 6
          go_wp2_with (refine wpList_storeA rfl 67 _ _ rfl (g + 1) #[.string (sb F.name), .int .i64 F.deadline, .int .i64 F.priority, .slice A F.tasks.length c, .bool false, .slice HA hh hc, .int .i64 50] zero7 _ rfl rfl HRS.out rfl info_R (rO_one F A c false HA hh hc 50) ?_; intro w9 hp9; have HP9 := Lib.hid hp9; clear hp9)
          refine bodyPost_ret (results_cell_row rfl _ _ _ _ _ _ _ rfl HP9.out.blk Tryz.underlying67 rfl info_R) rfl ?_
          exact retLn_err HN.out (by decide) (HP9.out.below (HB2.out.setCell hwg _) (by omega)) F A c false HA hh hc
        | true =>
          obtain ⟨x0, rfl⟩ := len_one (HLN.out (by decide))
          obtain ⟨bw, ow, y, rfl, hy, hcw⟩ := HX.out.at_ (k := 0) (by simp)
          rw [List.getElem?_cons_zero] at hy; injection hy with hy; subst hy
          rw [Nat.add_zero] at hcw
          have hla := HM.out x0 (by simp)
          have hlb := World.block_lt_of_cell? w2 _ hcw
          have HST := Lib.hid (show lineSt s l = setSt s 1 x0 from by rw [HAK.out, addSt_12 s x0 1 (by decide) HNM.out])
          have HHD := Lib.hid (HRL.out.h1)
          obtain ⟨p0, p1, p2, p3, p4, p5, p6, hp⟩ := rO_cells HO2.out
          go_wp2_with fail
          refine (once_any F A c true HA hh hc 0 H HHL.out (by omega) _ (HW.out.below HB2.out) (kwB 1)).mono ?_
          rintro e w3 ⟨hb3, h3⟩
          have HB3 := Lib.hid (blw HB2.out hb3)
          have HO3 := Lib.hid (keep_obj hb3 HO2.out)
          have HR3 := Lib.hid (keep_obj hb3 HR2.out)
          have hcw3 := keep_cell hb3 hcw
          have hlb3 := World.block_lt_of_cell? w3 _ hcw3
          clear hb3 p0 p1 p2 p3 p4 p5 p6 hp hcw
          rcases h3 with ⟨hin, rfl⟩ | ⟨hout, HA2, hc2, rfl, hW3, hTy3⟩
          · have HN := Lib.hid (show lineSt s l = .error 51 from by rw [HST.out]; unfold setSt; rw [if_pos (HHD.out.1 hin)])
            clear hin
            go_wp2_with (first
              | (refine wpList_storeA rfl 67 _ _ rfl g #[.string (sb F.name), .int .i64 F.deadline, .int .i64 F.priority, .slice A F.tasks.length c, .bool true, .slice HA hh hc, .int .i64 51] #[.string (sb F.name), .int .i64 F.deadline, .int .i64 F.priority, .slice A F.tasks.length c, .bool true, .slice HA hh hc, .int .i64 0] _ rfl rfl HO3.out rfl info_R (rO_one F A c true HA hh hc 51) ?_; intro w4 hp4; have HO4 : Hid (w4.heap[g]? = some (rO F A c true HA hh hc 51)) := Lib.hid hp4.blk; have HR4 := Lib.hid ((hp4.other (g + 1) (by omega)).trans HR3.out); have HB4 := Lib.hid (hp4.below HB3.out (by omega)); clear hp4; obtain ⟨p0, p1, p2, p3, p4, p5, p6, hp⟩ := rO_cells HO4.out)
              | (refine wpList_storeA rfl 67 _ _ rfl (g + 1) #[.string (sb F.name), .int .i64 F.deadline, .int .i64 F.priority, .slice A F.tasks.length c, .bool true, .slice HA hh hc, .int .i64 51] zero7 _ rfl rfl HR4.out rfl info_R (rO_one F A c true HA hh hc 51) ?_; intro w9 hp9; have HP9 := Lib.hid hp9; clear hp9))
            refine bodyPost_ret (results_cell_row rfl _ _ _ _ _ _ _ rfl HP9.out.blk Tryz.underlying67 rfl info_R) rfl ?_
            exact retLn_err HN.out (by decide) (HP9.out.below HB4.out (by omega)) F A c true HA hh hc
          · have HOUT := Lib.hid hout; have HWK := Lib.hid fun (W : World) (hk : Kept [9] w3 W) => hW3.keptT hTy3 hk
            clear hout hW3 hTy3
            go_wp2_with (refine wpList_storeA rfl 67 _ _ rfl g #[.string (sb F.name), .int .i64 F.deadline, .int .i64 F.priority, .slice A F.tasks.length c, .bool true, .slice HA2 (hh + 1) hc2, .int .i64 0] #[.string (sb F.name), .int .i64 F.deadline, .int .i64 F.priority, .slice A F.tasks.length c, .bool true, .slice HA hh hc, .int .i64 0] _ rfl rfl HO3.out rfl info_R (rO_one F A c true HA2 (hh + 1) hc2 0) ?_; intro w4 hp4; have HO4 : Hid (w4.heap[g]? = some (rO F A c true HA2 (hh + 1) hc2 0)) := Lib.hid hp4.blk; have HR4 := Lib.hid ((hp4.other (g + 1) (by omega)).trans HR3.out); have HB4 := Lib.hid (hp4.below HB3.out (by omega)); have HK4 : Hid (Kept [9] w3 w4) := Lib.hid ((kept_putR hp4 HO3.out).sub (by simp)); have hcw4 : w4.cell? ⟨bw, ow, none⟩ = some (.string (sb x0)) := rO_str HO3.out HO4.out (fun b hb => hp4.other b hb) hcw3; have hlb4 := World.block_lt_of_cell? w4 _ hcw4; clear hp4; obtain ⟨p0, p1, p2, p3, p4, p5, p6, hp⟩ := rO_cells HO4.out)
            refine (rnumber_any x0 0 1099511627775 _ (Nat.le_trans hla (by decide))).mono ?_
            rintro e w5 ⟨rfl, hb5⟩
            have HB5 := Lib.hid (blw HB4.out hb5)
            have HK5 : Hid (Kept [9] w3 w5) := Lib.hid (HK4.out.trans (Kept.below hb5))
            have HO5 := Lib.hid (keep_obj hb5 HO4.out)
            have HR5 := Lib.hid (keep_obj hb5 HR4.out)
            clear hb5 p0 p1 p2 p3 p4 p5 p6 hp hcw3 hcw4 hlb3 hlb4 HB4 HO4 HR4 HK4
            obtain ⟨N, hN⟩ : ∃ N, numR 0 1099511627775 x0 = N := ⟨_, rfl⟩
            have HNE := Lib.hid (show numE 1 x0 = N from hN)
            rw [hN]
            obtain ⟨y, hy⟩ : ∃ y, (if N = 0 then readV x0 else 0) = y := ⟨_, rfl⟩
            have HY := Lib.hid hy
            rw [hy]
            clear hN hy
            obtain ⟨p0, p1, p2, p3, p4, p5, p6, hp⟩ := rO_cells HO5.out
            have pf := Dag.blk_frozen HO5.out 1
            have pf6 := Dag.blk_frozen HO5.out 6
            have HRS : Hid (((w5.setCell ⟨g, 1, none⟩ (.int .i64 y)).setCell ⟨g, 6, none⟩ (.int .i64 N)).heap[g + 1]? = some (.cells zero7 67 (0, 0))) := Lib.hid ((Dag.blk_other (by omega)).trans ((Dag.blk_other (by omega)).trans HR5.out))
            have HK6 : Hid (Kept [9] w3 ((w5.setCell ⟨g, 1, none⟩ (.int .i64 y)).setCell ⟨g, 6, none⟩ (.int .i64 N))) := Lib.hid (HK5.out.trans ((Kept.set (show w5.heap[g]? = some (rO F A c true HA2 (hh + 1) hc2 0) from HO5.out) (by decide)).trans (Kept.set (show (w5.setCell ⟨g, 1, none⟩ (.int .i64 y)).heap[g]? = some (.cells (#[.string (sb F.name), .int .i64 y, .int .i64 F.priority, .slice A F.tasks.length c, .bool true, .slice HA2 (hh + 1) hc2, .int .i64 0]) 67 (0, 0)) from by rw [Dag.blk_set HO5.out]; simp) (by decide))))
            go_wp2_with (refine wpList_storeA rfl 67 _ _ rfl (g + 1) #[.string (sb F.name), .int .i64 y, .int .i64 F.priority, .slice A F.tasks.length c, .bool true, .slice HA2 (hh + 1) hc2, .int .i64 N] zero7 _ rfl rfl HRS.out rfl info_R (rO_one { F with deadline := y } A c true HA2 (hh + 1) hc2 N) ?_; intro w9 hp9; have HP9 := Lib.hid hp9; have HK9 := Lib.hid (HK6.out.trans ((kept_putR hp9 HRS.out).sub (by simp))); clear hp9)
            refine bodyPost_ret (results_cell_row rfl _ _ _ _ _ _ _ rfl HP9.out.blk Tryz.underlying67 rfl info_R) rfl ?_
            have hb9 := HP9.out.below ((HB5.out.setCell (p := ⟨g, 1, none⟩) hwg (.int .i64 y)).setCell (p := ⟨g, 6, none⟩) hwg (.int .i64 N)) (show w.heap.size ≤ g + 1 by omega)
            have hno : ¬ s.had 1 = true := fun e => HOUT.out (HHD.out.2 e)
            by_cases h0 : N = 0
            · have hyv : y = readV x0 := by rw [← HY.out, if_pos h0]
              have HN : lineSt s l = .ok { s with deadline := readV x0, had := upB s.had 1 } := by
                rw [HST.out]; unfold setSt; rw [if_neg hno, HNE.out, if_neg (fun e => e h0)]; rfl
              subst h0 hyv
              exact retLn_ok (F := { F with deadline := readV x0 }) HN (by rw [← HFF.out]; rfl) (by have := HNM.out; simpa [upB] using this) (HRL.out.set (k := 1) (by decide) rfl rfl) (by rw [List.length_append, HHL.out]; rfl) (by have := HHL.out; omega) hb9 rfl (HT.out.below hb9) (HWK.out _ HK9.out)
            · have HN : lineSt s l = .error N := by
                rw [HST.out]; unfold setSt; rw [if_neg hno, HNE.out, if_pos h0]
              exact retLn_err HN h0 hb9 { F with deadline := y } A c true HA2 (hh + 1) hc2
      · have gE : ((sb (kwB 2)).toList == []) = false := by rw [sb_toList]; decide
        have gW : ((sb (kwB 2)).toList == [87, 79, 82, 75, 70, 76, 79, 87]) = false := by rw [sb_toList]; decide
        have gJ : ((sb (kwB 2)).toList == [74, 79, 66]) = false := by rw [sb_toList]; decide
        have gD : ((sb (kwB 2)).toList == [68, 69, 65, 68, 76, 73, 78, 69]) = false := by rw [sb_toList]; decide
        have gP : ((sb (kwB 2)).toList == [80, 82, 73, 79, 82, 73, 84, 89]) = true := by rw [sb_toList]; decide
        have gA : ((sb (kwB 2)).toList == [80, 65, 82, 69, 78, 84]) = false := by rw [sb_toList]; decide
        cases nm with
        | false =>
          have HN := Lib.hid (show lineSt s l = .error 50 from by rw [HAK.out, addSt_no (by decide) HNM.out])
          have HRS : Hid ((w2.setCell ⟨g, 6, none⟩ (.int .i64 50)).heap[g + 1]? = some (.cells zero7 67 (0, 0))) := Lib.hid ((Dag.blk_other (by omega)).trans HR2.out)
          obtain ⟨p0, p1, p2, p3, p4, p5, p6, hp⟩ := rO_cells HO2.out
          have pf := Dag.blk_frozen HO2.out 6
          go_wp2_with (refine wpList_storeA rfl 67 _ _ rfl (g + 1) #[.string (sb F.name), .int .i64 F.deadline, .int .i64 F.priority, .slice A F.tasks.length c, .bool false, .slice HA hh hc, .int .i64 50] zero7 _ rfl rfl HRS.out rfl info_R (rO_one F A c false HA hh hc 50) ?_; intro w9 hp9; have HP9 := Lib.hid hp9; clear hp9)
          refine bodyPost_ret (results_cell_row rfl _ _ _ _ _ _ _ rfl HP9.out.blk Tryz.underlying67 rfl info_R) rfl ?_
          exact retLn_err HN.out (by decide) (HP9.out.below (HB2.out.setCell hwg _) (by omega)) F A c false HA hh hc
        | true =>
          obtain ⟨x0, rfl⟩ := len_one (HLN.out (by decide))
          obtain ⟨bw, ow, y, rfl, hy, hcw⟩ := HX.out.at_ (k := 0) (by simp)
          rw [List.getElem?_cons_zero] at hy; injection hy with hy; subst hy
          rw [Nat.add_zero] at hcw
          have hla := HM.out x0 (by simp)
          have hlb := World.block_lt_of_cell? w2 _ hcw
          have HST := Lib.hid (show lineSt s l = setSt s 2 x0 from by rw [HAK.out, addSt_12 s x0 2 (by decide) HNM.out])
          have HHD := Lib.hid (HRL.out.h2)
          obtain ⟨p0, p1, p2, p3, p4, p5, p6, hp⟩ := rO_cells HO2.out
          go_wp2_with fail
          refine (once_any F A c true HA hh hc 0 H HHL.out (by omega) _ (HW.out.below HB2.out) (kwB 2)).mono ?_
          rintro e w3 ⟨hb3, h3⟩
          have HB3 := Lib.hid (blw HB2.out hb3)
          have HO3 := Lib.hid (keep_obj hb3 HO2.out)
          have HR3 := Lib.hid (keep_obj hb3 HR2.out)
          have hcw3 := keep_cell hb3 hcw
          have hlb3 := World.block_lt_of_cell? w3 _ hcw3
          clear hb3 p0 p1 p2 p3 p4 p5 p6 hp hcw
          rcases h3 with ⟨hin, rfl⟩ | ⟨hout, HA2, hc2, rfl, hW3, hTy3⟩
          · have HN := Lib.hid (show lineSt s l = .error 51 from by rw [HST.out]; unfold setSt; rw [if_pos (HHD.out.1 hin)])
            clear hin
            go_wp2_with (first
              | (refine wpList_storeA rfl 67 _ _ rfl g #[.string (sb F.name), .int .i64 F.deadline, .int .i64 F.priority, .slice A F.tasks.length c, .bool true, .slice HA hh hc, .int .i64 51] #[.string (sb F.name), .int .i64 F.deadline, .int .i64 F.priority, .slice A F.tasks.length c, .bool true, .slice HA hh hc, .int .i64 0] _ rfl rfl HO3.out rfl info_R (rO_one F A c true HA hh hc 51) ?_; intro w4 hp4; have HO4 : Hid (w4.heap[g]? = some (rO F A c true HA hh hc 51)) := Lib.hid hp4.blk; have HR4 := Lib.hid ((hp4.other (g + 1) (by omega)).trans HR3.out); have HB4 := Lib.hid (hp4.below HB3.out (by omega)); clear hp4; obtain ⟨p0, p1, p2, p3, p4, p5, p6, hp⟩ := rO_cells HO4.out)
              | (refine wpList_storeA rfl 67 _ _ rfl (g + 1) #[.string (sb F.name), .int .i64 F.deadline, .int .i64 F.priority, .slice A F.tasks.length c, .bool true, .slice HA hh hc, .int .i64 51] zero7 _ rfl rfl HR4.out rfl info_R (rO_one F A c true HA hh hc 51) ?_; intro w9 hp9; have HP9 := Lib.hid hp9; clear hp9))
            refine bodyPost_ret (results_cell_row rfl _ _ _ _ _ _ _ rfl HP9.out.blk Tryz.underlying67 rfl info_R) rfl ?_
            exact retLn_err HN.out (by decide) (HP9.out.below HB4.out (by omega)) F A c true HA hh hc
          · have HOUT := Lib.hid hout; have HWK := Lib.hid fun (W : World) (hk : Kept [9] w3 W) => hW3.keptT hTy3 hk
            clear hout hW3 hTy3
            go_wp2_with (refine wpList_storeA rfl 67 _ _ rfl g #[.string (sb F.name), .int .i64 F.deadline, .int .i64 F.priority, .slice A F.tasks.length c, .bool true, .slice HA2 (hh + 1) hc2, .int .i64 0] #[.string (sb F.name), .int .i64 F.deadline, .int .i64 F.priority, .slice A F.tasks.length c, .bool true, .slice HA hh hc, .int .i64 0] _ rfl rfl HO3.out rfl info_R (rO_one F A c true HA2 (hh + 1) hc2 0) ?_; intro w4 hp4; have HO4 : Hid (w4.heap[g]? = some (rO F A c true HA2 (hh + 1) hc2 0)) := Lib.hid hp4.blk; have HR4 := Lib.hid ((hp4.other (g + 1) (by omega)).trans HR3.out); have HB4 := Lib.hid (hp4.below HB3.out (by omega)); have HK4 : Hid (Kept [9] w3 w4) := Lib.hid ((kept_putR hp4 HO3.out).sub (by simp)); have hcw4 : w4.cell? ⟨bw, ow, none⟩ = some (.string (sb x0)) := rO_str HO3.out HO4.out (fun b hb => hp4.other b hb) hcw3; have hlb4 := World.block_lt_of_cell? w4 _ hcw4; clear hp4; obtain ⟨p0, p1, p2, p3, p4, p5, p6, hp⟩ := rO_cells HO4.out)
            refine (rnumber_any x0 0 1000 _ (Nat.le_trans hla (by decide))).mono ?_
            rintro e w5 ⟨rfl, hb5⟩
            have HB5 := Lib.hid (blw HB4.out hb5)
            have HK5 : Hid (Kept [9] w3 w5) := Lib.hid (HK4.out.trans (Kept.below hb5))
            have HO5 := Lib.hid (keep_obj hb5 HO4.out)
            have HR5 := Lib.hid (keep_obj hb5 HR4.out)
            clear hb5 p0 p1 p2 p3 p4 p5 p6 hp hcw3 hcw4 hlb3 hlb4 HB4 HO4 HR4 HK4
            obtain ⟨N, hN⟩ : ∃ N, numR 0 1000 x0 = N := ⟨_, rfl⟩
            have HNE := Lib.hid (show numE 2 x0 = N from hN)
            rw [hN]
            obtain ⟨y, hy⟩ : ∃ y, (if N = 0 then readV x0 else 0) = y := ⟨_, rfl⟩
            have HY := Lib.hid hy
            rw [hy]
            clear hN hy
            obtain ⟨p0, p1, p2, p3, p4, p5, p6, hp⟩ := rO_cells HO5.out
            have pf := Dag.blk_frozen HO5.out 2
            have pf6 := Dag.blk_frozen HO5.out 6
            have HRS : Hid (((w5.setCell ⟨g, 2, none⟩ (.int .i64 y)).setCell ⟨g, 6, none⟩ (.int .i64 N)).heap[g + 1]? = some (.cells zero7 67 (0, 0))) := Lib.hid ((Dag.blk_other (by omega)).trans ((Dag.blk_other (by omega)).trans HR5.out))
            have HK6 : Hid (Kept [9] w3 ((w5.setCell ⟨g, 2, none⟩ (.int .i64 y)).setCell ⟨g, 6, none⟩ (.int .i64 N))) := Lib.hid (HK5.out.trans ((Kept.set (show w5.heap[g]? = some (rO F A c true HA2 (hh + 1) hc2 0) from HO5.out) (by decide)).trans (Kept.set (show (w5.setCell ⟨g, 2, none⟩ (.int .i64 y)).heap[g]? = some (.cells (#[.string (sb F.name), .int .i64 F.deadline, .int .i64 y, .slice A F.tasks.length c, .bool true, .slice HA2 (hh + 1) hc2, .int .i64 0]) 67 (0, 0)) from by rw [Dag.blk_set HO5.out]; simp) (by decide))))
            go_wp2_with (refine wpList_storeA rfl 67 _ _ rfl (g + 1) #[.string (sb F.name), .int .i64 F.deadline, .int .i64 y, .slice A F.tasks.length c, .bool true, .slice HA2 (hh + 1) hc2, .int .i64 N] zero7 _ rfl rfl HRS.out rfl info_R (rO_one { F with priority := y } A c true HA2 (hh + 1) hc2 N) ?_; intro w9 hp9; have HP9 := Lib.hid hp9; have HK9 := Lib.hid (HK6.out.trans ((kept_putR hp9 HRS.out).sub (by simp))); clear hp9)
            refine bodyPost_ret (results_cell_row rfl _ _ _ _ _ _ _ rfl HP9.out.blk Tryz.underlying67 rfl info_R) rfl ?_
            have hb9 := HP9.out.below ((HB5.out.setCell (p := ⟨g, 2, none⟩) hwg (.int .i64 y)).setCell (p := ⟨g, 6, none⟩) hwg (.int .i64 N)) (show w.heap.size ≤ g + 1 by omega)
            have hno : ¬ s.had 2 = true := fun e => HOUT.out (HHD.out.2 e)
            by_cases h0 : N = 0
            · have hyv : y = readV x0 := by rw [← HY.out, if_pos h0]
              have HN : lineSt s l = .ok { s with priority := readV x0, had := upB s.had 2 } := by
                rw [HST.out]; unfold setSt; rw [if_neg hno, HNE.out, if_neg (fun e => e h0)]; rfl
              subst h0 hyv
              exact retLn_ok (F := { F with priority := readV x0 }) HN (by rw [← HFF.out]; rfl) (by have := HNM.out; simpa [upB] using this) (HRL.out.set (k := 2) (by decide) rfl rfl) (by rw [List.length_append, HHL.out]; rfl) (by have := HHL.out; omega) hb9 rfl (HT.out.below hb9) (HWK.out _ HK9.out)
            · have HN : lineSt s l = .error N := by
                rw [HST.out]; unfold setSt; rw [if_neg hno, HNE.out, if_pos h0]
              exact retLn_err HN h0 hb9 { F with priority := y } A c true HA2 (hh + 1) hc2
      · have gE : ((sb (kwB 3)).toList == []) = false := by rw [sb_toList]; decide
        have gW : ((sb (kwB 3)).toList == [87, 79, 82, 75, 70, 76, 79, 87]) = false := by rw [sb_toList]; decide
        have gJ : ((sb (kwB 3)).toList == [74, 79, 66]) = true := by rw [sb_toList]; decide
        have gD : ((sb (kwB 3)).toList == [68, 69, 65, 68, 76, 73, 78, 69]) = false := by rw [sb_toList]; decide
        have gP : ((sb (kwB 3)).toList == [80, 82, 73, 79, 82, 73, 84, 89]) = false := by rw [sb_toList]; decide
        have gA : ((sb (kwB 3)).toList == [80, 65, 82, 69, 78, 84]) = false := by rw [sb_toList]; decide
        cases nm with
        | false =>
          have HN := Lib.hid (show lineSt s l = .error 50 from by rw [HAK.out, addSt_no (by decide) HNM.out])
          have HRS : Hid ((w2.setCell ⟨g, 6, none⟩ (.int .i64 50)).heap[g + 1]? = some (.cells zero7 67 (0, 0))) := Lib.hid ((Dag.blk_other (by omega)).trans HR2.out)
          obtain ⟨p0, p1, p2, p3, p4, p5, p6, hp⟩ := rO_cells HO2.out
          have pf := Dag.blk_frozen HO2.out 6
          go_wp2_with (refine wpList_storeA rfl 67 _ _ rfl (g + 1) #[.string (sb F.name), .int .i64 F.deadline, .int .i64 F.priority, .slice A F.tasks.length c, .bool false, .slice HA hh hc, .int .i64 50] zero7 _ rfl rfl HRS.out rfl info_R (rO_one F A c false HA hh hc 50) ?_; intro w9 hp9; have HP9 := Lib.hid hp9; clear hp9)
          refine bodyPost_ret (results_cell_row rfl _ _ _ _ _ _ _ rfl HP9.out.blk Tryz.underlying67 rfl info_R) rfl ?_
          exact retLn_err HN.out (by decide) (HP9.out.below (HB2.out.setCell hwg _) (by omega)) F A c false HA hh hc
        | true =>
          obtain ⟨x0, rfl⟩ := len_one (HLN.out (by decide))
          obtain ⟨bw, ow, y, rfl, hy, hcw⟩ := HX.out.at_ (k := 0) (by simp)
          rw [List.getElem?_cons_zero] at hy; injection hy with hy; subst hy
          rw [Nat.add_zero] at hcw
          have hla := HM.out x0 (by simp)
          have hlb := World.block_lt_of_cell? w2 _ hcw
          have HST := Lib.hid (show lineSt s l = jobSt s x0 from by rw [HAK.out, addSt_3 s x0 HNM.out])
          have HNA := Lib.hid (rnm_any x0 w2 hla (HTB.out.below HB2.out))
          obtain ⟨p0, p1, p2, p3, p4, p5, p6, hp⟩ := rO_cells HO2.out
          cases hnm2 : nameD x0 with
          | false =>
            rw [hnm2] at HNA
            have HN := Lib.hid (show lineSt s l = .error 5 from by rw [HST.out]; unfold jobSt; rw [if_pos (by unfold taskName; rw [hnm2]; rfl)])
            clear hnm2
            go_wp2_with (first
              | (go_at_call 83; refine HNA.out.mono ?_; rintro e w3 ⟨rfl, hb3⟩; have HB3 := Lib.hid (blw HB2.out hb3); have HO3 := Lib.hid (keep_obj hb3 HO2.out); have HR3 := Lib.hid (keep_obj hb3 HR2.out); have hcw3 := keep_cell hb3 hcw; have hlb3 := World.block_lt_of_cell? w3 _ hcw3; clear hb3 p0 p1 p2 p3 p4 p5 p6 hp; obtain ⟨p0, p1, p2, p3, p4, p5, p6, hp⟩ := rO_cells HO3.out; have pf := Dag.blk_frozen HO3.out 6; have HRS : Hid ((w3.setCell ⟨g, 6, none⟩ (.int .i64 5)).heap[g + 1]? = some (.cells zero7 67 (0, 0))) := Lib.hid ((Dag.blk_other (by omega)).trans HR3.out))
              | (refine wpList_storeA rfl 67 _ _ rfl (g + 1) #[.string (sb F.name), .int .i64 F.deadline, .int .i64 F.priority, .slice A F.tasks.length c, .bool true, .slice HA hh hc, .int .i64 5] zero7 _ rfl rfl HRS.out rfl info_R (rO_one F A c true HA hh hc 5) ?_; intro w9 hp9; have HP9 := Lib.hid hp9; clear hp9))
            refine bodyPost_ret (results_cell_row rfl _ _ _ _ _ _ _ rfl HP9.out.blk Tryz.underlying67 rfl info_R) rfl ?_
            exact retLn_err HN.out (by decide) (HP9.out.below (HB3.out.setCell hwg _) (by omega)) F A c true HA hh hc
          | true =>
            rw [hnm2] at HNA
            cases his : sameS x0 childW with
            | true =>
              have HIS := Lib.hid his
              have HN := Lib.hid (show lineSt s l = .error 5 from by rw [HST.out]; unfold jobSt; rw [if_pos (by unfold taskName; rw [hnm2, his]; rfl)])
              clear hnm2 his
              go_wp2_with (first
                | (go_at_call 83; refine HNA.out.mono ?_; rintro e w3 ⟨rfl, hb3⟩; have HB3 := Lib.hid (blw HB2.out hb3); have HO3 := Lib.hid (keep_obj hb3 HO2.out); have HR3 := Lib.hid (keep_obj hb3 HR2.out); have hcw3 := keep_cell hb3 hcw; have hlb3 := World.block_lt_of_cell? w3 _ hcw3; clear hb3 p0 p1 p2 p3 p4 p5 p6 hp; obtain ⟨p0, p1, p2, p3, p4, p5, p6, hp⟩ := rO_cells HO3.out)
                | (go_at_call 84; refine (ris6_any x0 childW w3 (Nat.le_trans hla (by decide)) (by decide)).mono ?_; rintro e w4 ⟨he4, hb4⟩; rw [HIS.out] at he4; subst he4; have HB4 := Lib.hid (blw HB3.out hb4); have HO4 := Lib.hid (keep_obj hb4 HO3.out); have HR4 := Lib.hid (keep_obj hb4 HR3.out); have hcw4 := keep_cell hb4 hcw3; have hlb4 := World.block_lt_of_cell? w4 _ hcw4; clear hb4 p0 p1 p2 p3 p4 p5 p6 hp; obtain ⟨p0, p1, p2, p3, p4, p5, p6, hp⟩ := rO_cells HO4.out; have pf := Dag.blk_frozen HO4.out 6; have HRS : Hid ((w4.setCell ⟨g, 6, none⟩ (.int .i64 5)).heap[g + 1]? = some (.cells zero7 67 (0, 0))) := Lib.hid ((Dag.blk_other (by omega)).trans HR4.out))
                | (refine wpList_storeA rfl 67 _ _ rfl (g + 1) #[.string (sb F.name), .int .i64 F.deadline, .int .i64 F.priority, .slice A F.tasks.length c, .bool true, .slice HA hh hc, .int .i64 5] zero7 _ rfl rfl HRS.out rfl info_R (rO_one F A c true HA hh hc 5) ?_; intro w9 hp9; have HP9 := Lib.hid hp9; clear hp9))
              refine bodyPost_ret (results_cell_row rfl _ _ _ _ _ _ _ rfl HP9.out.blk Tryz.underlying67 rfl info_R) rfl ?_
              exact retLn_err HN.out (by decide) (HP9.out.below (HB4.out.setCell hwg _) (by omega)) F A c true HA hh hc
            | false =>
              have HIS := Lib.hid his
              have HTN := Lib.hid (show taskName x0 = true from by unfold taskName; rw [hnm2, his]; rfl)
              clear hnm2 his
              go_wp2_with (first
                | (go_at_call 83; refine HNA.out.mono ?_; rintro e w3 ⟨rfl, hb3⟩; have HB3 := Lib.hid (blw HB2.out hb3); have HO3 := Lib.hid (keep_obj hb3 HO2.out); have HR3 := Lib.hid (keep_obj hb3 HR2.out); have hcw3 := keep_cell hb3 hcw; have hlb3 := World.block_lt_of_cell? w3 _ hcw3; clear hb3 p0 p1 p2 p3 p4 p5 p6 hp; obtain ⟨p0, p1, p2, p3, p4, p5, p6, hp⟩ := rO_cells HO3.out)
                | (go_at_call 84; refine (ris6_any x0 childW w3 (Nat.le_trans hla (by decide)) (by decide)).mono ?_; rintro e w4 ⟨he4, hb4⟩; rw [HIS.out] at he4; subst he4; have HB4 := Lib.hid (blw HB3.out hb4); have HO4 := Lib.hid (keep_obj hb4 HO3.out); have HR4 := Lib.hid (keep_obj hb4 HR3.out); have hcw4 := keep_cell hb4 hcw3; have hlb4 := World.block_lt_of_cell? w4 _ hcw4; clear hb4 p0 p1 p2 p3 p4 p5 p6 hp; obtain ⟨p0, p1, p2, p3, p4, p5, p6, hp⟩ := rO_cells HO4.out))
              have s0 : w4.drew.cell? ⟨g, 0, none⟩ = some (.string (sb F.name)) ∧ w4.drew.cell? ⟨g, 1, none⟩ = some (.int .i64 F.deadline) ∧ w4.drew.cell? ⟨g, 2, none⟩ = some (.int .i64 F.priority) ∧ w4.drew.cell? ⟨g, 3, none⟩ = some (.slice A F.tasks.length c) ∧ w4.drew.cell? ⟨bw, ow, none⟩ = some (.string (sb x0)) := ⟨p0, p1, p2, p3, hcw4⟩
              have HFI := Lib.hid (rfind_any F A c w4.drew (HT.out.tasks.below (blw HB4.out (drew_below w4))) x0)
              by_cases hmem : x0 ∈ names F.tasks
              · have HN := Lib.hid (show lineSt s l = .error 51 from by rw [HST.out]; unfold jobSt; rw [if_neg (by rw [HTN.out]; decide), if_pos (by have h := hmem; rwa [← HFF.out, flow_nms] at h)])
                have hf0 : 0 ≤ findI F.tasks x0 := by unfold findI; rw [if_pos hmem]; omega
                obtain ⟨fi, hfi⟩ : ∃ fi, findI F.tasks x0 = fi := ⟨_, rfl⟩
                rw [hfi] at HFI hf0
                clear hmem hfi
                go_region_held3 (fun (W : World) => W.cell? ⟨g, 0, none⟩ = some (.string (sb F.name)) ∧ W.cell? ⟨g, 1, none⟩ = some (.int .i64 F.deadline) ∧ W.cell? ⟨g, 2, none⟩ = some (.int .i64 F.priority) ∧ W.cell? ⟨g, 3, none⟩ = some (.slice A F.tasks.length c) ∧ W.cell? ⟨bw, ow, none⟩ = some (.string (sb x0))) (first | exact s0 | exact s1) (first
                  | (go_at_call 85; refine HFI.out.mono ?_; rintro e w5 ⟨rfl, hb5⟩; have HX5 := Lib.hid (blw (drew_below w4) hb5); have s1 : w5.cell? ⟨g, 0, none⟩ = some (.string (sb F.name)) ∧ w5.cell? ⟨g, 1, none⟩ = some (.int .i64 F.deadline) ∧ w5.cell? ⟨g, 2, none⟩ = some (.int .i64 F.priority) ∧ w5.cell? ⟨g, 3, none⟩ = some (.slice A F.tasks.length c) ∧ w5.cell? ⟨bw, ow, none⟩ = some (.string (sb x0)) := ⟨keep_cell HX5.out p0, keep_cell HX5.out p1, keep_cell HX5.out p2, keep_cell HX5.out p3, keep_cell HX5.out hcw4⟩; clear hb5))
                all_goals
                  clear p0 p1 p2 p3 p4 p5 p6 hp s0 s1
                  have HB5 := Lib.hid (blw HB4.out HX5.out)
                  have HO5 := Lib.hid (keep_obj HX5.out HO4.out)
                  have HR5 := Lib.hid (keep_obj HX5.out HR4.out)
                  obtain ⟨p0, p1, p2, p3, p4, p5, p6, hp⟩ := rO_cells HO5.out
                  have pf := Dag.blk_frozen HO5.out 6
                  have HRS : Hid ((w5.setCell ⟨g, 6, none⟩ (.int .i64 51)).heap[g + 1]? = some (.cells zero7 67 (0, 0))) := Lib.hid ((Dag.blk_other (by omega)).trans HR5.out)
                  go_wp2_with (refine wpList_storeA rfl 67 _ _ rfl (g + 1) #[.string (sb F.name), .int .i64 F.deadline, .int .i64 F.priority, .slice A F.tasks.length c, .bool true, .slice HA hh hc, .int .i64 51] zero7 _ rfl rfl HRS.out rfl info_R (rO_one F A c true HA hh hc 51) ?_; intro w9 hp9; have HP9 := Lib.hid hp9; clear hp9)
                  refine bodyPost_ret (results_cell_row rfl _ _ _ _ _ _ _ rfl HP9.out.blk Tryz.underlying67 rfl info_R) rfl ?_
                  exact retLn_err HN.out (by decide) (HP9.out.below (HB5.out.setCell hwg _) (by omega)) F A c true HA hh hc
              · have hnp : x0 ∉ namesP s.tasks := fun h => hmem (by rw [← HFF.out, flow_nms]; exact h)
                have HN := Lib.hid (show lineSt s l = .ok { s with tasks := s.tasks ++ [newTask x0] } from by rw [HST.out]; unfold jobSt; rw [if_neg (by rw [HTN.out]; decide), if_neg hnp])
                have HNP := Lib.hid hnp
                have hf := findI_none (ts := F.tasks) (s := x0) hmem
                rw [hf] at HFI
                clear hmem hf hnp
                go_region_held3 (fun (W : World) => W.cell? ⟨g, 0, none⟩ = some (.string (sb F.name)) ∧ W.cell? ⟨g, 1, none⟩ = some (.int .i64 F.deadline) ∧ W.cell? ⟨g, 2, none⟩ = some (.int .i64 F.priority) ∧ W.cell? ⟨g, 3, none⟩ = some (.slice A F.tasks.length c) ∧ W.cell? ⟨bw, ow, none⟩ = some (.string (sb x0))) (first | exact s0 | exact s1) (first
                  | (go_at_call 85; refine HFI.out.mono ?_; rintro e w5 ⟨rfl, hb5⟩; have HX5 := Lib.hid (blw (drew_below w4) hb5); have s1 : w5.cell? ⟨g, 0, none⟩ = some (.string (sb F.name)) ∧ w5.cell? ⟨g, 1, none⟩ = some (.int .i64 F.deadline) ∧ w5.cell? ⟨g, 2, none⟩ = some (.int .i64 F.priority) ∧ w5.cell? ⟨g, 3, none⟩ = some (.slice A F.tasks.length c) ∧ w5.cell? ⟨bw, ow, none⟩ = some (.string (sb x0)) := ⟨keep_cell HX5.out p0, keep_cell HX5.out p1, keep_cell HX5.out p2, keep_cell HX5.out p3, keep_cell HX5.out hcw4⟩; clear hb5))
                all_goals
                  clear p0 p1 p2 p3 p4 p5 p6 hp s0 s1
                  have HB5 := Lib.hid (blw HB4.out HX5.out)
                  have HO5 := Lib.hid (keep_obj HX5.out HO4.out)
                  have HR5 := Lib.hid (keep_obj HX5.out HR4.out)
                  have hcw5 := keep_cell HX5.out hcw4
                  obtain ⟨p0, p1, p2, p3, p4, p5, p6, hp⟩ := rO_cells HO5.out
                  obtain ⟨Lx, hLx, hTLx⟩ := HT.out.below HB5.out
                  have HLX := Lib.hid hLx; have HTLX := Lib.hid hTLx
                  have hg5 : g + 1 < w5.heap.size := Dag.blk_lt HR5.out
                  have hLn : Lx.length = F.tasks.length := by have := congrArg List.length hLx; rwa [List.length_map] at this
                  clear hLx hTLx
                  go_wp2_with (first
                    | (at_builtin; refine wpList_tasks rfl _ _ rfl rfl A F.tasks.length c Lx hLn rfl HTLX.out (by omega) ?_; intro A6 c6 w6 ho6 hb6; have HO6 := Lib.hid (keep_obj hb6 HO5.out); have HR6 := Lib.hid (keep_obj hb6 HR5.out); have HB6 := Lib.hid (blw HB5.out hb6); have HX6 := Lib.hid hb6; have HL6 := Lib.hid ho6; have hcw6 := keep_cell hb6 hcw5; have hlb6 := World.block_lt_of_cell? w6 _ hcw6; clear p0 p1 p2 p3 p4 p5 p6 hp ho6 hb6; obtain ⟨p0, p1, p2, p3, p4, p5, p6, hp⟩ := rO_cells HO6.out)
                    | (at_builtin; refine wpList_apn rfl _ _ 23 48 (.agg #[.string ⟨#[]⟩, .int .i64 0, .int .i64 0, .int .i64 0, .bool false, .slice none 0 0]) 6 72 Tryz.underlying23 info_task rfl (by decide) (by decide) rfl w5.heap.size A6 F.tasks.length c6 (flat tkC Lx) rfl (HL6.out.below (al _ _)) w6.heap.size 1 (tkC (⟨x0, 1, 1, 0, false, []⟩, none, 0)) rfl rfl ⟨_, heap_alloc_new w6 _⟩ (tkC_one _) (by omega) (by have := HX6.out.size; simp; omega) ?_; intro A9 c9 w7 ho7 hg7 hb7; have H67 := Lib.hid (((al w6 _).mono HX6.out.size).trans hb7); have HL7 := Lib.hid ho7; have HO7 := Lib.hid ((H67.out.block g (by omega)).trans HO6.out); have HR7 := Lib.hid ((H67.out.block (g + 1) (by omega)).trans HR6.out); have HB7 := Lib.hid (HB6.out.trans (H67.out.mono HB5.out.size)); have HRS : Hid ((w7.setCell ⟨g, 3, none⟩ (.slice A9 (F.tasks.length + 1) c9)).heap[g + 1]? = some (.cells zero7 67 (0, 0))) := Lib.hid ((Dag.blk_other (by omega)).trans HR7.out); clear ho7 hg7 hb7 p0 p1 p2 p3 p4 p5 p6 hp; obtain ⟨p0, p1, p2, p3, p4, p5, p6, hp⟩ := rO_cells HO7.out; have pf := Dag.blk_frozen HO7.out 3)
                    | (refine wpList_storeA rfl 67 _ _ rfl (g + 1) #[.string (sb F.name), .int .i64 F.deadline, .int .i64 F.priority, .slice A9 (F.tasks.length + 1) c9, .bool true, .slice HA hh hc, .int .i64 0] zero7 _ rfl rfl HRS.out rfl info_R (by simp [Value.oneCell']) ?_; intro w9 hp9; have HP9 := Lib.hid hp9; clear hp9))
                  refine bodyPost_ret (results_cell_row rfl _ _ _ _ _ _ _ rfl HP9.out.blk Tryz.underlying67 rfl info_R) rfl ?_
                  have hb9 := HP9.out.below (HB7.out.setCell (p := ⟨g, 3, none⟩) hwg (.slice A9 (F.tasks.length + 1) c9)) (show w.heap.size ≤ g + 1 by omega)
                  have hK : ∀ b, b < w5.heap.size → b ≠ g → b ≠ g + 1 → w9.heap[b]? = w5.heap[b]? := fun b h1 h2 h3 => (HP9.out.other b h3).trans ((Dag.blk_other h2).trans ((H67.out.block b h1).trans (HX6.out.block b h1)))
                  have hl2 : (Lx ++ [((⟨x0, 1, 1, 0, false, []⟩ : TaskD), (none : Option Addr), 0)]).length = F.tasks.length + 1 := by rw [List.length_append, hLn]; rfl
                  have hL7 := HL7.out
                  rw [show flat tkC Lx ++ tkC (⟨x0, 1, 1, 0, false, []⟩, none, 0) = flat tkC (Lx ++ [(⟨x0, 1, 1, 0, false, []⟩, none, 0)]) from by rw [flatC]; simp [flat], ← hl2] at hL7
                  have hTL : TL w9 A9 c9 (Lx ++ [(⟨x0, 1, 1, 0, false, []⟩, none, 0)]) := by
                    refine TL.own (hL7.keep fun b cs hb => ?_) (fun y hy => ?_) (fun y hy => ?_)
                    · have h1 : b ≠ g := ty_ne hb HO7.out (by decide)
                      have h2 : b ≠ g + 1 := ty_ne hb HR7.out (by decide)
                      exact (HP9.out.other b h2).trans (Dag.blk_other h1)
                    · rcases List.mem_append.1 hy with hy | hy
                      · refine (HTLX.out.2.2.1 y hy).keep fun b cs hb => hK b (Dag.blk_lt hb) (ty_ne hb HO5.out (by decide)) (ty_ne hb HR5.out (by decide))
                      · rw [List.mem_singleton] at hy; subst hy
                        exact ⟨Sl.empty _, fun a ha => by cases ha⟩
                    · rcases List.mem_append.1 hy with hy | hy
                      · exact HTLX.out.2.1 y hy
                      · rw [List.mem_singleton] at hy; subst hy
                        exact Nat.le_trans hla (by decide)
                  exact retLn_ok (F := { F with tasks := F.tasks ++ [⟨x0, 1, 1, 0, false, []⟩] }) HN.out (by rw [flow_job HIV.out, HFF.out]) HNM.out (HRL.out.job HNP.out) HHL.out (by have := HHL.out; omega) hb9 (by simp) ⟨_, by rw [List.map_append, HLX.out]; rfl, hTL⟩ ⟨HW.out.below hb9, HTY.out.below hb9⟩
      · have gE : ((sb (kwB 4)).toList == []) = false := by rw [sb_toList]; decide
        have gW : ((sb (kwB 4)).toList == [87, 79, 82, 75, 70, 76, 79, 87]) = false := by rw [sb_toList]; decide
        have gJ : ((sb (kwB 4)).toList == [74, 79, 66]) = false := by rw [sb_toList]; decide
        have gD : ((sb (kwB 4)).toList == [68, 69, 65, 68, 76, 73, 78, 69]) = false := by rw [sb_toList]; decide
        have gP : ((sb (kwB 4)).toList == [80, 82, 73, 79, 82, 73, 84, 89]) = false := by rw [sb_toList]; decide
        have gA : ((sb (kwB 4)).toList == [80, 65, 82, 69, 78, 84]) = false := by rw [sb_toList]; decide
        cases nm with
        | false =>
          have HN := Lib.hid (show lineSt s l = .error 50 from by rw [HAK.out, addSt_no (by decide) HNM.out])
          have HRS : Hid ((w2.setCell ⟨g, 6, none⟩ (.int .i64 50)).heap[g + 1]? = some (.cells zero7 67 (0, 0))) := Lib.hid ((Dag.blk_other (by omega)).trans HR2.out)
          obtain ⟨p0, p1, p2, p3, p4, p5, p6, hp⟩ := rO_cells HO2.out
          have pf := Dag.blk_frozen HO2.out 6
          go_wp2_with (refine wpList_storeA rfl 67 _ _ rfl (g + 1) #[.string (sb F.name), .int .i64 F.deadline, .int .i64 F.priority, .slice A F.tasks.length c, .bool false, .slice HA hh hc, .int .i64 50] zero7 _ rfl rfl HRS.out rfl info_R (rO_one F A c false HA hh hc 50) ?_; intro w9 hp9; have HP9 := Lib.hid hp9; clear hp9)
          refine bodyPost_ret (results_cell_row rfl _ _ _ _ _ _ _ rfl HP9.out.blk Tryz.underlying67 rfl info_R) rfl ?_
          exact retLn_err HN.out (by decide) (HP9.out.below (HB2.out.setCell hwg _) (by omega)) F A c false HA hh hc
        | true =>
          obtain ⟨x0, x1, rfl⟩ := len_two (HLN.out (by decide))
          have HST := Lib.hid (show lineSt s l = taskSt s 4 x0 [x1] from by rw [HAK.out, addSt_k s x0 [x1] 4 (by decide) HNM.out])
          obtain ⟨E, hE⟩ : ∃ E : Int, E = if 4 = 7 then 0 else numR (leastN 4) (mostN 4) x1 := ⟨_, rfl⟩
          obtain ⟨xv, hxv⟩ : ∃ xv : Int, xv = readV x1 := ⟨_, rfl⟩
          have HEE := Lib.hid hE; have HXV := Lib.hid hxv
          have HTK := Lib.hid (task_any F A c w2 (HT.out.below HB2.out) (by omega) true HA hh hc H HHL.out (by omega) (HW.out.below HB2.out) 4 (by decide) A2 c2 x0 [x1] 2 rfl HX.out (HM.out x0 (by simp)) x1 (Lib.hid fun _ => rfl) (HM.out x1 (by simp)) E xv HEE HXV)
          clear hE hxv
          obtain ⟨p0, p1, p2, p3, p4, p5, p6, hp⟩ := rO_cells HO2.out
          go_wp2_with fail
          refine HTK.out.mono ?_
          rintro e w3 ⟨hb3, h3⟩
          have HB3 := Lib.hid (blw HB2.out hb3)
          have HR3 := Lib.hid (keep_obj hb3 HR2.out)
          clear hb3 p0 p1 p2 p3 p4 p5 p6 hp HTK
          rcases h3 with ⟨hno, rfl⟩ | ⟨hin, htg, rfl⟩ | ⟨v, tk, htv, hfi, hout, A3, c3, HA3, hc3, rfl, hW3, hTy3, hTT3⟩
          · have HN := Lib.hid (show lineSt s l = .error 52 from by rw [HST.out]; exact task_bad0 (by rw [HFF.out]; exact hno))
            clear hno
            go_wp2_with (refine wpList_storeA rfl 67 _ _ rfl (g + 1) #[.string (sb F.name), .int .i64 F.deadline, .int .i64 F.priority, .slice A F.tasks.length c, .bool true, .slice HA hh hc, .int .i64 52] zero7 _ rfl rfl HR3.out rfl info_R (rO_one F A c true HA hh hc 52) ?_; intro w9 hp9; have HP9 := Lib.hid hp9; clear hp9)
            refine bodyPost_ret (results_cell_row rfl _ _ _ _ _ _ _ rfl HP9.out.blk Tryz.underlying67 rfl info_R) rfl ?_
            exact retLn_err HN.out (by decide) (HP9.out.below HB3.out (by omega)) F A c true HA hh hc
          · have HN := Lib.hid (show lineSt s l = .error 51 from by rw [HST.out]; exact task_bad1 HRL.out (by decide) (by rw [HFF.out]; exact hin) htg)
            clear hin htg
            go_wp2_with (refine wpList_storeA rfl 67 _ _ rfl (g + 1) #[.string (sb F.name), .int .i64 F.deadline, .int .i64 F.priority, .slice A F.tasks.length c, .bool true, .slice HA hh hc, .int .i64 51] zero7 _ rfl rfl HR3.out rfl info_R (rO_one F A c true HA hh hc 51) ?_; intro w9 hp9; have HP9 := Lib.hid hp9; clear hp9)
            refine bodyPost_ret (results_cell_row rfl _ _ _ _ _ _ _ rfl HP9.out.blk Tryz.underlying67 rfl info_R) rfl ?_
            exact retLn_err HN.out (by decide) (HP9.out.below HB3.out (by omega)) F A c true HA hh hc
          · have HG := Lib.hid (task_good HRL.out (k := 4) (r := [x1]) (b := x1) (x := xv) (E := E) (by decide) (by rw [HFF.out]; exact htv) (by rw [HFF.out]; exact hfi) hout (fun _ => rfl) HEE.out HXV.out)
            have HW3 := Lib.hid hW3; have HTY3 := Lib.hid hTy3; have HTT3 := Lib.hid hTT3
            clear htv hfi hout hW3 hTy3 hTT3
            go_wp2_with (refine wpList_storeA rfl 67 _ _ rfl (g + 1) #[.string (sb F.name), .int .i64 F.deadline, .int .i64 F.priority, .slice A3 F.tasks.length c3, .bool true, .slice HA3 (hh + 1) hc3, .int .i64 E] zero7 _ rfl rfl HR3.out rfl info_R (rO_one F A3 c3 true HA3 (hh + 1) hc3 E) ?_; intro w9 hp9; have HP9 := Lib.hid hp9; have HK9 := Lib.hid (kept_putR3 hp9 HR3.out); clear hp9)
            refine bodyPost_ret (results_cell_row rfl _ _ _ _ _ _ _ rfl HP9.out.blk Tryz.underlying67 rfl info_R) rfl ?_
            have hb9 := HP9.out.below HB3.out (show w.heap.size ≤ g + 1 by omega)
            by_cases h0 : E = 0
            · obtain ⟨s', e1, e2, e3, e4⟩ := HG.out.2 h0
              rw [HFF.out] at e4
              subst h0
              exact retLn_ok (by rw [HST.out]; exact e1) e4 (by rw [e3]; exact HNM.out) e2 (by rw [List.length_append, HHL.out]; rfl) (by have := HHL.out; omega) hb9 (by simp) ((HTT3.out rfl).kept (HK9.out.sub (by simp))) (HW3.out.keptT HTY3.out (HK9.out.sub (by simp)))
            · exact retLn_err (by rw [HST.out]; exact HG.out.1 h0) h0 hb9 F A3 c3 true HA3 (hh + 1) hc3
      · have gE : ((sb (kwB 5)).toList == []) = false := by rw [sb_toList]; decide
        have gW : ((sb (kwB 5)).toList == [87, 79, 82, 75, 70, 76, 79, 87]) = false := by rw [sb_toList]; decide
        have gJ : ((sb (kwB 5)).toList == [74, 79, 66]) = false := by rw [sb_toList]; decide
        have gD : ((sb (kwB 5)).toList == [68, 69, 65, 68, 76, 73, 78, 69]) = false := by rw [sb_toList]; decide
        have gP : ((sb (kwB 5)).toList == [80, 82, 73, 79, 82, 73, 84, 89]) = false := by rw [sb_toList]; decide
        have gA : ((sb (kwB 5)).toList == [80, 65, 82, 69, 78, 84]) = false := by rw [sb_toList]; decide
        cases nm with
        | false =>
          have HN := Lib.hid (show lineSt s l = .error 50 from by rw [HAK.out, addSt_no (by decide) HNM.out])
          have HRS : Hid ((w2.setCell ⟨g, 6, none⟩ (.int .i64 50)).heap[g + 1]? = some (.cells zero7 67 (0, 0))) := Lib.hid ((Dag.blk_other (by omega)).trans HR2.out)
          obtain ⟨p0, p1, p2, p3, p4, p5, p6, hp⟩ := rO_cells HO2.out
          have pf := Dag.blk_frozen HO2.out 6
          go_wp2_with (refine wpList_storeA rfl 67 _ _ rfl (g + 1) #[.string (sb F.name), .int .i64 F.deadline, .int .i64 F.priority, .slice A F.tasks.length c, .bool false, .slice HA hh hc, .int .i64 50] zero7 _ rfl rfl HRS.out rfl info_R (rO_one F A c false HA hh hc 50) ?_; intro w9 hp9; have HP9 := Lib.hid hp9; clear hp9)
          refine bodyPost_ret (results_cell_row rfl _ _ _ _ _ _ _ rfl HP9.out.blk Tryz.underlying67 rfl info_R) rfl ?_
          exact retLn_err HN.out (by decide) (HP9.out.below (HB2.out.setCell hwg _) (by omega)) F A c false HA hh hc
        | true =>
          obtain ⟨x0, x1, rfl⟩ := len_two (HLN.out (by decide))
          have HST := Lib.hid (show lineSt s l = taskSt s 5 x0 [x1] from by rw [HAK.out, addSt_k s x0 [x1] 5 (by decide) HNM.out])
          obtain ⟨E, hE⟩ : ∃ E : Int, E = if 5 = 7 then 0 else numR (leastN 5) (mostN 5) x1 := ⟨_, rfl⟩
          obtain ⟨xv, hxv⟩ : ∃ xv : Int, xv = readV x1 := ⟨_, rfl⟩
          have HEE := Lib.hid hE; have HXV := Lib.hid hxv
          have HTK := Lib.hid (task_any F A c w2 (HT.out.below HB2.out) (by omega) true HA hh hc H HHL.out (by omega) (HW.out.below HB2.out) 5 (by decide) A2 c2 x0 [x1] 2 rfl HX.out (HM.out x0 (by simp)) x1 (Lib.hid fun _ => rfl) (HM.out x1 (by simp)) E xv HEE HXV)
          clear hE hxv
          obtain ⟨p0, p1, p2, p3, p4, p5, p6, hp⟩ := rO_cells HO2.out
          go_wp2_with fail
          refine HTK.out.mono ?_
          rintro e w3 ⟨hb3, h3⟩
          have HB3 := Lib.hid (blw HB2.out hb3)
          have HR3 := Lib.hid (keep_obj hb3 HR2.out)
          clear hb3 p0 p1 p2 p3 p4 p5 p6 hp HTK
          rcases h3 with ⟨hno, rfl⟩ | ⟨hin, htg, rfl⟩ | ⟨v, tk, htv, hfi, hout, A3, c3, HA3, hc3, rfl, hW3, hTy3, hTT3⟩
          · have HN := Lib.hid (show lineSt s l = .error 52 from by rw [HST.out]; exact task_bad0 (by rw [HFF.out]; exact hno))
            clear hno
            go_wp2_with (refine wpList_storeA rfl 67 _ _ rfl (g + 1) #[.string (sb F.name), .int .i64 F.deadline, .int .i64 F.priority, .slice A F.tasks.length c, .bool true, .slice HA hh hc, .int .i64 52] zero7 _ rfl rfl HR3.out rfl info_R (rO_one F A c true HA hh hc 52) ?_; intro w9 hp9; have HP9 := Lib.hid hp9; clear hp9)
            refine bodyPost_ret (results_cell_row rfl _ _ _ _ _ _ _ rfl HP9.out.blk Tryz.underlying67 rfl info_R) rfl ?_
            exact retLn_err HN.out (by decide) (HP9.out.below HB3.out (by omega)) F A c true HA hh hc
          · have HN := Lib.hid (show lineSt s l = .error 51 from by rw [HST.out]; exact task_bad1 HRL.out (by decide) (by rw [HFF.out]; exact hin) htg)
            clear hin htg
            go_wp2_with (refine wpList_storeA rfl 67 _ _ rfl (g + 1) #[.string (sb F.name), .int .i64 F.deadline, .int .i64 F.priority, .slice A F.tasks.length c, .bool true, .slice HA hh hc, .int .i64 51] zero7 _ rfl rfl HR3.out rfl info_R (rO_one F A c true HA hh hc 51) ?_; intro w9 hp9; have HP9 := Lib.hid hp9; clear hp9)
            refine bodyPost_ret (results_cell_row rfl _ _ _ _ _ _ _ rfl HP9.out.blk Tryz.underlying67 rfl info_R) rfl ?_
            exact retLn_err HN.out (by decide) (HP9.out.below HB3.out (by omega)) F A c true HA hh hc
          · have HG := Lib.hid (task_good HRL.out (k := 5) (r := [x1]) (b := x1) (x := xv) (E := E) (by decide) (by rw [HFF.out]; exact htv) (by rw [HFF.out]; exact hfi) hout (fun _ => rfl) HEE.out HXV.out)
            have HW3 := Lib.hid hW3; have HTY3 := Lib.hid hTy3; have HTT3 := Lib.hid hTT3
            clear htv hfi hout hW3 hTy3 hTT3
            go_wp2_with (refine wpList_storeA rfl 67 _ _ rfl (g + 1) #[.string (sb F.name), .int .i64 F.deadline, .int .i64 F.priority, .slice A3 F.tasks.length c3, .bool true, .slice HA3 (hh + 1) hc3, .int .i64 E] zero7 _ rfl rfl HR3.out rfl info_R (rO_one F A3 c3 true HA3 (hh + 1) hc3 E) ?_; intro w9 hp9; have HP9 := Lib.hid hp9; have HK9 := Lib.hid (kept_putR3 hp9 HR3.out); clear hp9)
            refine bodyPost_ret (results_cell_row rfl _ _ _ _ _ _ _ rfl HP9.out.blk Tryz.underlying67 rfl info_R) rfl ?_
            have hb9 := HP9.out.below HB3.out (show w.heap.size ≤ g + 1 by omega)
            by_cases h0 : E = 0
            · obtain ⟨s', e1, e2, e3, e4⟩ := HG.out.2 h0
              rw [HFF.out] at e4
              subst h0
              exact retLn_ok (by rw [HST.out]; exact e1) e4 (by rw [e3]; exact HNM.out) e2 (by rw [List.length_append, HHL.out]; rfl) (by have := HHL.out; omega) hb9 (by simp) ((HTT3.out rfl).kept (HK9.out.sub (by simp))) (HW3.out.keptT HTY3.out (HK9.out.sub (by simp)))
            · exact retLn_err (by rw [HST.out]; exact HG.out.1 h0) h0 hb9 F A3 c3 true HA3 (hh + 1) hc3
      · have gE : ((sb (kwB 6)).toList == []) = false := by rw [sb_toList]; decide
        have gW : ((sb (kwB 6)).toList == [87, 79, 82, 75, 70, 76, 79, 87]) = false := by rw [sb_toList]; decide
        have gJ : ((sb (kwB 6)).toList == [74, 79, 66]) = false := by rw [sb_toList]; decide
        have gD : ((sb (kwB 6)).toList == [68, 69, 65, 68, 76, 73, 78, 69]) = false := by rw [sb_toList]; decide
        have gP : ((sb (kwB 6)).toList == [80, 82, 73, 79, 82, 73, 84, 89]) = false := by rw [sb_toList]; decide
        have gA : ((sb (kwB 6)).toList == [80, 65, 82, 69, 78, 84]) = false := by rw [sb_toList]; decide
        cases nm with
        | false =>
          have HN := Lib.hid (show lineSt s l = .error 50 from by rw [HAK.out, addSt_no (by decide) HNM.out])
          have HRS : Hid ((w2.setCell ⟨g, 6, none⟩ (.int .i64 50)).heap[g + 1]? = some (.cells zero7 67 (0, 0))) := Lib.hid ((Dag.blk_other (by omega)).trans HR2.out)
          obtain ⟨p0, p1, p2, p3, p4, p5, p6, hp⟩ := rO_cells HO2.out
          have pf := Dag.blk_frozen HO2.out 6
          go_wp2_with (refine wpList_storeA rfl 67 _ _ rfl (g + 1) #[.string (sb F.name), .int .i64 F.deadline, .int .i64 F.priority, .slice A F.tasks.length c, .bool false, .slice HA hh hc, .int .i64 50] zero7 _ rfl rfl HRS.out rfl info_R (rO_one F A c false HA hh hc 50) ?_; intro w9 hp9; have HP9 := Lib.hid hp9; clear hp9)
          refine bodyPost_ret (results_cell_row rfl _ _ _ _ _ _ _ rfl HP9.out.blk Tryz.underlying67 rfl info_R) rfl ?_
          exact retLn_err HN.out (by decide) (HP9.out.below (HB2.out.setCell hwg _) (by omega)) F A c false HA hh hc
        | true =>
          obtain ⟨x0, x1, rfl⟩ := len_two (HLN.out (by decide))
          have HST := Lib.hid (show lineSt s l = taskSt s 6 x0 [x1] from by rw [HAK.out, addSt_k s x0 [x1] 6 (by decide) HNM.out])
          obtain ⟨E, hE⟩ : ∃ E : Int, E = if 6 = 7 then 0 else numR (leastN 6) (mostN 6) x1 := ⟨_, rfl⟩
          obtain ⟨xv, hxv⟩ : ∃ xv : Int, xv = readV x1 := ⟨_, rfl⟩
          have HEE := Lib.hid hE; have HXV := Lib.hid hxv
          have HTK := Lib.hid (task_any F A c w2 (HT.out.below HB2.out) (by omega) true HA hh hc H HHL.out (by omega) (HW.out.below HB2.out) 6 (by decide) A2 c2 x0 [x1] 2 rfl HX.out (HM.out x0 (by simp)) x1 (Lib.hid fun _ => rfl) (HM.out x1 (by simp)) E xv HEE HXV)
          clear hE hxv
          obtain ⟨p0, p1, p2, p3, p4, p5, p6, hp⟩ := rO_cells HO2.out
          go_wp2_with fail
          refine HTK.out.mono ?_
          rintro e w3 ⟨hb3, h3⟩
          have HB3 := Lib.hid (blw HB2.out hb3)
          have HR3 := Lib.hid (keep_obj hb3 HR2.out)
          clear hb3 p0 p1 p2 p3 p4 p5 p6 hp HTK
          rcases h3 with ⟨hno, rfl⟩ | ⟨hin, htg, rfl⟩ | ⟨v, tk, htv, hfi, hout, A3, c3, HA3, hc3, rfl, hW3, hTy3, hTT3⟩
          · have HN := Lib.hid (show lineSt s l = .error 52 from by rw [HST.out]; exact task_bad0 (by rw [HFF.out]; exact hno))
            clear hno
            go_wp2_with (refine wpList_storeA rfl 67 _ _ rfl (g + 1) #[.string (sb F.name), .int .i64 F.deadline, .int .i64 F.priority, .slice A F.tasks.length c, .bool true, .slice HA hh hc, .int .i64 52] zero7 _ rfl rfl HR3.out rfl info_R (rO_one F A c true HA hh hc 52) ?_; intro w9 hp9; have HP9 := Lib.hid hp9; clear hp9)
            refine bodyPost_ret (results_cell_row rfl _ _ _ _ _ _ _ rfl HP9.out.blk Tryz.underlying67 rfl info_R) rfl ?_
            exact retLn_err HN.out (by decide) (HP9.out.below HB3.out (by omega)) F A c true HA hh hc
          · have HN := Lib.hid (show lineSt s l = .error 51 from by rw [HST.out]; exact task_bad1 HRL.out (by decide) (by rw [HFF.out]; exact hin) htg)
            clear hin htg
            go_wp2_with (refine wpList_storeA rfl 67 _ _ rfl (g + 1) #[.string (sb F.name), .int .i64 F.deadline, .int .i64 F.priority, .slice A F.tasks.length c, .bool true, .slice HA hh hc, .int .i64 51] zero7 _ rfl rfl HR3.out rfl info_R (rO_one F A c true HA hh hc 51) ?_; intro w9 hp9; have HP9 := Lib.hid hp9; clear hp9)
            refine bodyPost_ret (results_cell_row rfl _ _ _ _ _ _ _ rfl HP9.out.blk Tryz.underlying67 rfl info_R) rfl ?_
            exact retLn_err HN.out (by decide) (HP9.out.below HB3.out (by omega)) F A c true HA hh hc
          · have HG := Lib.hid (task_good HRL.out (k := 6) (r := [x1]) (b := x1) (x := xv) (E := E) (by decide) (by rw [HFF.out]; exact htv) (by rw [HFF.out]; exact hfi) hout (fun _ => rfl) HEE.out HXV.out)
            have HW3 := Lib.hid hW3; have HTY3 := Lib.hid hTy3; have HTT3 := Lib.hid hTT3
            clear htv hfi hout hW3 hTy3 hTT3
            go_wp2_with (refine wpList_storeA rfl 67 _ _ rfl (g + 1) #[.string (sb F.name), .int .i64 F.deadline, .int .i64 F.priority, .slice A3 F.tasks.length c3, .bool true, .slice HA3 (hh + 1) hc3, .int .i64 E] zero7 _ rfl rfl HR3.out rfl info_R (rO_one F A3 c3 true HA3 (hh + 1) hc3 E) ?_; intro w9 hp9; have HP9 := Lib.hid hp9; have HK9 := Lib.hid (kept_putR3 hp9 HR3.out); clear hp9)
            refine bodyPost_ret (results_cell_row rfl _ _ _ _ _ _ _ rfl HP9.out.blk Tryz.underlying67 rfl info_R) rfl ?_
            have hb9 := HP9.out.below HB3.out (show w.heap.size ≤ g + 1 by omega)
            by_cases h0 : E = 0
            · obtain ⟨s', e1, e2, e3, e4⟩ := HG.out.2 h0
              rw [HFF.out] at e4
              subst h0
              exact retLn_ok (by rw [HST.out]; exact e1) e4 (by rw [e3]; exact HNM.out) e2 (by rw [List.length_append, HHL.out]; rfl) (by have := HHL.out; omega) hb9 (by simp) ((HTT3.out rfl).kept (HK9.out.sub (by simp))) (HW3.out.keptT HTY3.out (HK9.out.sub (by simp)))
            · exact retLn_err (by rw [HST.out]; exact HG.out.1 h0) h0 hb9 F A3 c3 true HA3 (hh + 1) hc3
      · have gE : ((sb (kwB 7)).toList == []) = false := by rw [sb_toList]; decide
        have gW : ((sb (kwB 7)).toList == [87, 79, 82, 75, 70, 76, 79, 87]) = false := by rw [sb_toList]; decide
        have gJ : ((sb (kwB 7)).toList == [74, 79, 66]) = false := by rw [sb_toList]; decide
        have gD : ((sb (kwB 7)).toList == [68, 69, 65, 68, 76, 73, 78, 69]) = false := by rw [sb_toList]; decide
        have gP : ((sb (kwB 7)).toList == [80, 82, 73, 79, 82, 73, 84, 89]) = false := by rw [sb_toList]; decide
        have gA : ((sb (kwB 7)).toList == [80, 65, 82, 69, 78, 84]) = false := by rw [sb_toList]; decide
        cases nm with
        | false =>
          have HN := Lib.hid (show lineSt s l = .error 50 from by rw [HAK.out, addSt_no (by decide) HNM.out])
          have HRS : Hid ((w2.setCell ⟨g, 6, none⟩ (.int .i64 50)).heap[g + 1]? = some (.cells zero7 67 (0, 0))) := Lib.hid ((Dag.blk_other (by omega)).trans HR2.out)
          obtain ⟨p0, p1, p2, p3, p4, p5, p6, hp⟩ := rO_cells HO2.out
          have pf := Dag.blk_frozen HO2.out 6
          go_wp2_with (refine wpList_storeA rfl 67 _ _ rfl (g + 1) #[.string (sb F.name), .int .i64 F.deadline, .int .i64 F.priority, .slice A F.tasks.length c, .bool false, .slice HA hh hc, .int .i64 50] zero7 _ rfl rfl HRS.out rfl info_R (rO_one F A c false HA hh hc 50) ?_; intro w9 hp9; have HP9 := Lib.hid hp9; clear hp9)
          refine bodyPost_ret (results_cell_row rfl _ _ _ _ _ _ _ rfl HP9.out.blk Tryz.underlying67 rfl info_R) rfl ?_
          exact retLn_err HN.out (by decide) (HP9.out.below (HB2.out.setCell hwg _) (by omega)) F A c false HA hh hc
        | true =>
          obtain ⟨x0, rfl⟩ := len_one (HLN.out (by decide))
          obtain ⟨x1, hx1⟩ : ∃ x1, x0 = x1 := ⟨_, rfl⟩
          have HST := Lib.hid (show lineSt s l = taskSt s 7 x0 [] from by rw [HAK.out, addSt_k s x0 [] 7 (by decide) HNM.out])
          obtain ⟨E, hE⟩ : ∃ E : Int, E = if 7 = 7 then 0 else numR (leastN 7) (mostN 7) x1 := ⟨_, rfl⟩
          obtain ⟨xv, hxv⟩ : ∃ xv : Int, xv = readV x1 := ⟨_, rfl⟩
          have HEE := Lib.hid hE; have HXV := Lib.hid hxv
          have HTK := Lib.hid (task_any F A c w2 (HT.out.below HB2.out) (by omega) true HA hh hc H HHL.out (by omega) (HW.out.below HB2.out) 7 (by decide) A2 c2 x0 [] 1 rfl HX.out (HM.out x0 (by simp)) x1 (Lib.hid fun h => absurd rfl h) (by rw [← hx1]; exact HM.out x0 (by simp)) E xv HEE HXV)
          clear hE hxv
          obtain ⟨p0, p1, p2, p3, p4, p5, p6, hp⟩ := rO_cells HO2.out
          go_wp2_with fail
          refine HTK.out.mono ?_
          rintro e w3 ⟨hb3, h3⟩
          have HB3 := Lib.hid (blw HB2.out hb3)
          have HR3 := Lib.hid (keep_obj hb3 HR2.out)
          clear hb3 p0 p1 p2 p3 p4 p5 p6 hp HTK
          rcases h3 with ⟨hno, rfl⟩ | ⟨hin, htg, rfl⟩ | ⟨v, tk, htv, hfi, hout, A3, c3, HA3, hc3, rfl, hW3, hTy3, hTT3⟩
          · have HN := Lib.hid (show lineSt s l = .error 52 from by rw [HST.out]; exact task_bad0 (by rw [HFF.out]; exact hno))
            clear hno
            go_wp2_with (refine wpList_storeA rfl 67 _ _ rfl (g + 1) #[.string (sb F.name), .int .i64 F.deadline, .int .i64 F.priority, .slice A F.tasks.length c, .bool true, .slice HA hh hc, .int .i64 52] zero7 _ rfl rfl HR3.out rfl info_R (rO_one F A c true HA hh hc 52) ?_; intro w9 hp9; have HP9 := Lib.hid hp9; clear hp9)
            refine bodyPost_ret (results_cell_row rfl _ _ _ _ _ _ _ rfl HP9.out.blk Tryz.underlying67 rfl info_R) rfl ?_
            exact retLn_err HN.out (by decide) (HP9.out.below HB3.out (by omega)) F A c true HA hh hc
          · have HN := Lib.hid (show lineSt s l = .error 51 from by rw [HST.out]; exact task_bad1 HRL.out (by decide) (by rw [HFF.out]; exact hin) htg)
            clear hin htg
            go_wp2_with (refine wpList_storeA rfl 67 _ _ rfl (g + 1) #[.string (sb F.name), .int .i64 F.deadline, .int .i64 F.priority, .slice A F.tasks.length c, .bool true, .slice HA hh hc, .int .i64 51] zero7 _ rfl rfl HR3.out rfl info_R (rO_one F A c true HA hh hc 51) ?_; intro w9 hp9; have HP9 := Lib.hid hp9; clear hp9)
            refine bodyPost_ret (results_cell_row rfl _ _ _ _ _ _ _ rfl HP9.out.blk Tryz.underlying67 rfl info_R) rfl ?_
            exact retLn_err HN.out (by decide) (HP9.out.below HB3.out (by omega)) F A c true HA hh hc
          · have HG := Lib.hid (task_good HRL.out (k := 7) (r := []) (b := x1) (x := xv) (E := E) (by decide) (by rw [HFF.out]; exact htv) (by rw [HFF.out]; exact hfi) hout (fun h => absurd rfl h) HEE.out HXV.out)
            have HW3 := Lib.hid hW3; have HTY3 := Lib.hid hTy3; have HTT3 := Lib.hid hTT3
            clear htv hfi hout hW3 hTy3 hTT3
            go_wp2_with (refine wpList_storeA rfl 67 _ _ rfl (g + 1) #[.string (sb F.name), .int .i64 F.deadline, .int .i64 F.priority, .slice A3 F.tasks.length c3, .bool true, .slice HA3 (hh + 1) hc3, .int .i64 E] zero7 _ rfl rfl HR3.out rfl info_R (rO_one F A3 c3 true HA3 (hh + 1) hc3 E) ?_; intro w9 hp9; have HP9 := Lib.hid hp9; have HK9 := Lib.hid (kept_putR3 hp9 HR3.out); clear hp9)
            refine bodyPost_ret (results_cell_row rfl _ _ _ _ _ _ _ rfl HP9.out.blk Tryz.underlying67 rfl info_R) rfl ?_
            have hb9 := HP9.out.below HB3.out (show w.heap.size ≤ g + 1 by omega)
            by_cases h0 : E = 0
            · obtain ⟨s', e1, e2, e3, e4⟩ := HG.out.2 h0
              rw [HFF.out] at e4
              subst h0
              exact retLn_ok (by rw [HST.out]; exact e1) e4 (by rw [e3]; exact HNM.out) e2 (by rw [List.length_append, HHL.out]; rfl) (by have := HHL.out; omega) hb9 (by simp) ((HTT3.out rfl).kept (HK9.out.sub (by simp))) (HW3.out.keptT HTY3.out (HK9.out.sub (by simp)))
            · exact retLn_err (by rw [HST.out]; exact HG.out.1 h0) h0 hb9 F A3 c3 true HA3 (hh + 1) hc3
      · have gE : ((sb (kwB 8)).toList == []) = false := by rw [sb_toList]; decide
        have gW : ((sb (kwB 8)).toList == [87, 79, 82, 75, 70, 76, 79, 87]) = false := by rw [sb_toList]; decide
        have gJ : ((sb (kwB 8)).toList == [74, 79, 66]) = false := by rw [sb_toList]; decide
        have gD : ((sb (kwB 8)).toList == [68, 69, 65, 68, 76, 73, 78, 69]) = false := by rw [sb_toList]; decide
        have gP : ((sb (kwB 8)).toList == [80, 82, 73, 79, 82, 73, 84, 89]) = false := by rw [sb_toList]; decide
        have gA : ((sb (kwB 8)).toList == [80, 65, 82, 69, 78, 84]) = true := by rw [sb_toList]; decide
        cases nm with
        | false =>
          have HN := Lib.hid (show lineSt s l = .error 50 from by rw [HAK.out, addSt_no (by decide) HNM.out])
          have HRS : Hid ((w2.setCell ⟨g, 6, none⟩ (.int .i64 50)).heap[g + 1]? = some (.cells zero7 67 (0, 0))) := Lib.hid ((Dag.blk_other (by omega)).trans HR2.out)
          obtain ⟨p0, p1, p2, p3, p4, p5, p6, hp⟩ := rO_cells HO2.out
          have pf := Dag.blk_frozen HO2.out 6
          go_wp2_with (refine wpList_storeA rfl 67 _ _ rfl (g + 1) #[.string (sb F.name), .int .i64 F.deadline, .int .i64 F.priority, .slice A F.tasks.length c, .bool false, .slice HA hh hc, .int .i64 50] zero7 _ rfl rfl HRS.out rfl info_R (rO_one F A c false HA hh hc 50) ?_; intro w9 hp9; have HP9 := Lib.hid hp9; clear hp9)
          refine bodyPost_ret (results_cell_row rfl _ _ _ _ _ _ _ rfl HP9.out.blk Tryz.underlying67 rfl info_R) rfl ?_
          exact retLn_err HN.out (by decide) (HP9.out.below (HB2.out.setCell hwg _) (by omega)) F A c false HA hh hc
        | true =>
          obtain ⟨ps, cs, hxe, hps, hcs, htk, hdr⟩ := fam_cut (HFM.out rfl)
          have HST := Lib.hid (show lineSt s l = parSt s x from by rw [HAK.out, addSt_8 s x HNM.out])
          have HTD := Lib.hid (And.intro htk hdr)
          obtain ⟨nx, hnx⟩ : ∃ nx, x.length = nx := ⟨_, rfl⟩
          have hnx6 : nx ≤ 60001 := by rw [← hnx]; exact HXL.out rfl
          have HLK := Lib.hid (dlinks_any F A c w2 (HT.out.below HB2.out) (by omega) true HA hh hc ps cs hps hcs A2 c2 nx (by rw [← hxe, hnx]) (by omega) (by rw [← hxe]; exact HX.out) (by rw [← hxe]; exact HM.out))
          rw [hnx]
          clear hxe hps hcs htk hdr hnx
          obtain ⟨p0, p1, p2, p3, p4, p5, p6, hp⟩ := rO_cells HO2.out
          go_wp2_with fail
          refine HLK.out.mono ?_
          rintro e w3 ⟨hb3, h3⟩
          have HB3 := Lib.hid (blw HB2.out hb3)
          have HR3 := Lib.hid (keep_obj hb3 HR2.out)
          clear p0 p1 p2 p3 p4 p5 p6 hp HLK
          rcases h3 with ⟨hno, rfl⟩ | ⟨hall, A3, c3, rfl, hTT3⟩
          · have HN := Lib.hid (show lineSt s l = .error 52 from by rw [HST.out]; exact par_bad HTD.out.1 HTD.out.2 (by rw [HFF.out]; exact hno))
            clear hno
            go_wp2_with (refine wpList_storeA rfl 67 _ _ rfl (g + 1) #[.string (sb F.name), .int .i64 F.deadline, .int .i64 F.priority, .slice A F.tasks.length c, .bool true, .slice HA hh hc, .int .i64 52] zero7 _ rfl rfl HR3.out rfl info_R (rO_one F A c true HA hh hc 52) ?_; intro w9 hp9; have HP9 := Lib.hid hp9; clear hp9)
            refine bodyPost_ret (results_cell_row rfl _ _ _ _ _ _ _ rfl HP9.out.blk Tryz.underlying67 rfl info_R) rfl ?_
            exact retLn_err HN.out (by decide) (HP9.out.below HB3.out (by omega)) F A c true HA hh hc
          · have HG := Lib.hid (par_good (s := s) HTD.out.1 HTD.out.2 (by rw [HFF.out]; exact hall))
            have HTT3 := Lib.hid hTT3
            clear hall hTT3
            go_wp2_with (refine wpList_storeA rfl 67 _ _ rfl (g + 1) #[.string (sb F.name), .int .i64 F.deadline, .int .i64 F.priority, .slice A3 F.tasks.length c3, .bool true, .slice HA hh hc, .int .i64 0] zero7 _ rfl rfl HR3.out rfl info_R (rO_one F A3 c3 true HA hh hc 0) ?_; intro w9 hp9; have HP9 := Lib.hid hp9; have HK9 := Lib.hid (kept_putR3 hp9 HR3.out); clear hp9)
            refine bodyPost_ret (results_cell_row rfl _ _ _ _ _ _ _ rfl HP9.out.blk Tryz.underlying67 rfl info_R) rfl ?_
            have hb9 := HP9.out.below HB3.out (show w.heap.size ≤ g + 1 by omega)
            obtain ⟨lk, e1, e2⟩ := HG.out
            rw [HFF.out] at e2
            exact retLn_ok (by rw [HST.out]; exact e1) e2 HNM.out (HRL.out.link lk) HHL.out (by have := HHL.out; omega) hb9 (links_len _ _ _) (HTT3.out.kept (HK9.out.sub (by simp))) ⟨HW.out.below hb9, HTY.out.below hb9⟩
end Go.Proofs.YtkcijibkloamkaaGreatDoor

