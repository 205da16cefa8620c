/- Of the document's Parse: how far a text was read; had, number, once. -/
import Derived.Test.YtkcijibkloamkaaGreatDoorFlwDoc
import Derived.Test.YtkcijibkloamkaaGreatDoorFlwRNum
import Derived.Test.YtkcijibkloamkaaGreatDoorFlwRLin
import Derived.Test.YtkcijibkloamkaaGreatDoorFlwFork
namespace Go.Proofs.YtkcijibkloamkaaGreatDoor
open Go.RowKit
open Dag (Own1 Sl)
open Clk (readE readV)
set_option linter.unusedVariables false
set_option maxRecDepth 100000

theorem info_R : (Tryz.prog.info? 67).map (·.size) = some 7 := by kernel_rfl
def rO (F : FlowD) (A : Option Addr) (c : Nat) (nm : Bool) (HA : Option Addr) (hn hc : Nat) (E : Int) : Obj := .cells #[.string (sb F.name), .int .i64 F.deadline, .int .i64 F.priority, .slice A F.tasks.length c, .bool nm, .slice HA hn hc, .int .i64 E] 67
def zero7 : Array Value := #[.string ⟨#[]⟩, .int .i64 0, .int .i64 0, .slice none 0 0, .bool false, .slice none 0 0, .int .i64 0]
theorem rO_one (F : FlowD) (A : Option Addr) (c : Nat) (nm : Bool) (HA : Option Addr) (hn hc : Nat) (E : Int) : (#[.string (sb F.name), .int .i64 F.deadline, .int .i64 F.priority, .slice A F.tasks.length c, .bool nm, .slice HA hn hc, .int .i64 E] : Array Value).all (·.oneCell') = true := by simp [Value.oneCell']
theorem rO_cells {w : World} {b : Nat} {F : FlowD} {A : Option Addr} {c : Nat} {nm : Bool} {HA : Option Addr} {hn hc : Nat} {E : Int} (h : w.heap[b]? = some (rO F A c nm HA hn hc E)) :
    w.cell? ⟨b, 0, none⟩ = some (.string (sb F.name)) ∧ w.cell? ⟨b, 1, none⟩ = some (.int .i64 F.deadline) ∧ w.cell? ⟨b, 2, none⟩ = some (.int .i64 F.priority) ∧ w.cell? ⟨b, 3, none⟩ = some (.slice A F.tasks.length c) ∧
      w.cell? ⟨b, 4, none⟩ = some (.bool nm) ∧ w.cell? ⟨b, 5, none⟩ = some (.slice HA hn hc) ∧ w.cell? ⟨b, 6, none⟩ = some (.int .i64 E) ∧ b < w.heap.size := by
  unfold rO at h
  exact ⟨(Dag.blk_cell h 0).trans rfl, (Dag.blk_cell h 1).trans rfl, (Dag.blk_cell h 2).trans rfl, (Dag.blk_cell h 3).trans rfl, (Dag.blk_cell h 4).trans rfl, (Dag.blk_cell h 5).trans rfl, (Dag.blk_cell h 6).trans rfl, Dag.blk_lt h⟩

set_option maxHeartbeats 1600000 in
theorem had_any (F : FlowD) (A : Option Addr) (c : Nat) (nm : Bool) (HA : Option Addr) (hn hc : Nat) (E : Int) (H : List (List UInt8)) (hH : H.length = hn) (w : World) (hW : Words w HA hc H) (s : List UInt8) :
    Calls Tryz.prog 126 #[.agg #[.string (sb F.name), .int .i64 F.deadline, .int .i64 F.priority, .slice A F.tasks.length c, .bool nm, .slice HA hn hc, .int .i64 E], .string (sb s)] w fun e w' => e = .returned (.bool (decide (s ∈ H))) ∧ Below w.heap.size w w' := by
  subst hH
  have hlm := hW.lenI
  have HW := Lib.hid hW; clear hW
  go_enter Tryz.func126, Tryz.ntmps126
  go_wp2
  go_loopw [5] (fun i wr => ∃ (k : Nat), k ≤ H.length ∧ i = .int .i64 k ∧ Hid (Below w.heap.size w wr) ∧ Hid (wr.heap[w.heap.size]? = some (rO F A c nm HA H.length hc E)) ∧ Hid (s ∉ H.take k)) (fun i _ => H.length - (intOf i).toNat)
  case atStart => exact ⟨0, Nat.zero_le _, rfl, Lib.hid (al _ _), Lib.hid (heap_alloc_new w _), Lib.hid (by simp)⟩
  case round =>
    obtain ⟨k, hk, rfl, HB, HO, HN⟩ := hrel
    obtain ⟨p0, p1, p2, p3, p4, p5, p6, hp⟩ := rO_cells HO.out
    clear p0 p1 p2 p3 p4 p6
    by_cases hlt : k < H.length
    · obtain ⟨b, off, x, rfl, hx, hc0⟩ := (HW.out.below HB.out).at_ hlt
      by_cases hts : x = s
      · have hne := beq_list hts
        have HF : Hid (decide (s ∈ H) = true) := Lib.hid (decide_eq_true (by rw [← hts]; exact List.mem_of_getElem? hx))
        clear hts hx
        go_wp2
        go_ret
        exact ⟨by rw [HF.out]; rfl, HB.out⟩
      · have hne := bne_list hts
        have HN2 : Hid (s ∉ H.take (k + 1)) := Lib.hid (by
          rw [List.take_add_one, hx, List.mem_append]
          rintro (h | h)
          · exact HN.out h
          · simp at h; exact hts h.symm)
        clear hts hx
        go_wp2
        go_roundw
        case rel => exact ⟨k + 1, by omega, by go_num, HB, HO, HN2⟩
        case measure => simp [intOf]; omega
    · obtain rfl : k = H.length := by omega
      have HF : Hid (decide (s ∈ H) = false) := Lib.hid (decide_eq_false (by have := HN.out; rwa [List.take_length] at this))
      go_wp2
      go_ret
      exact ⟨by rw [HF.out]; rfl, HB.out⟩
def numR (lo hi : Int) (s : List UInt8) : Int := if readE s ≠ 0 then readE s else if inR lo hi (readV s) = true then 0 else 2
set_option maxHeartbeats 1600000 in
theorem rnumber_any (s : List UInt8) (lo hi : Int) (w : World) (hs : s.length ≤ maxLen) :
    Calls Tryz.prog 87 #[.string (sb s), .int .i64 lo, .int .i64 hi] w fun e w' => e = .returned (.tuple #[.int .i64 (if numR lo hi s = 0 then readV s else 0), .int .i64 (numR lo hi s)]) ∧ Below w.heap.size w w' := by
  have hr := Clk.rread_any (sb s) w (by rw [sb_size]; exact hs)
  rw [sb_list] at hr
  obtain ⟨v, hv⟩ : ∃ v, readV s = v := ⟨_, rfl⟩
  obtain ⟨e0, he⟩ : ∃ e, readE s = e := ⟨_, rfl⟩
  have hnum : numR lo hi s = if e0 ≠ 0 then e0 else if inR lo hi v = true then 0 else 2 := by unfold numR; rw [he, hv]
  rw [hv, he] at hr
  rw [hv]
  have HR := Lib.hid hr
  clear hr hs hv he
  by_cases h0 : e0 = 0
  · rw [if_neg (by simp [h0])] at hnum
    subst h0
    by_cases h1 : v < lo
    · rw [if_neg (by unfold inR; rw [decide_eq_false (by omega)]; simp)] at hnum
      rw [hnum, if_neg (by decide)]
      clear hnum
      go_enter Tryz.func87, Tryz.ntmps87
      go_wp2_with fail
      refine HR.out.mono ?_
      rintro e w1 ⟨rfl, rfl⟩
      go_wp2
      go_ret2
      exact ⟨rfl, Below.refl _ _⟩
    · by_cases h2 : hi < v
      · rw [if_neg (by unfold inR; rw [decide_eq_false (show ¬ v ≤ hi by omega)]; simp)] at hnum
        rw [hnum, if_neg (by decide)]
        clear hnum
        go_enter Tryz.func87, Tryz.ntmps87
        go_wp2_with fail
        refine HR.out.mono ?_
        rintro e w1 ⟨rfl, rfl⟩
        go_wp2
        go_ret2
        exact ⟨rfl, Below.refl _ _⟩
      · rw [if_pos (by unfold inR; rw [decide_eq_true (show lo ≤ v by omega), decide_eq_true (show v ≤ hi by omega)]; rfl)] at hnum
        rw [hnum, if_pos rfl]
        clear hnum
        go_enter Tryz.func87, Tryz.ntmps87
        go_wp2_with fail
        refine HR.out.mono ?_
        rintro e w1 ⟨rfl, rfl⟩
        go_wp2
        go_ret2
        exact ⟨rfl, Below.refl _ _⟩
  · rw [if_pos h0] at hnum
    rw [hnum, if_neg h0]
    have g0 : (e0 != 0) = true := by simp [h0]
    clear hnum h0
    go_enter Tryz.func87, Tryz.ntmps87
    go_wp2_with fail
    refine HR.out.mono ?_
    rintro e w1 ⟨rfl, rfl⟩
    go_wp2
    go_ret2
    exact ⟨rfl, Below.refl _ _⟩
theorem rO_set5 {w : World} {b : Nat} {F : FlowD} {A : Option Addr} {c : Nat} {nm : Bool} {HA : Option Addr} {hn hc : Nat} {E : Int} (h : w.heap[b]? = some (rO F A c nm HA hn hc E)) (HA' : Option Addr) (hn' hc' : Nat) :
    (w.setCell ⟨b, 5, none⟩ (.slice HA' hn' hc')).heap[b]? = some (rO F A c nm HA' hn' hc' E) := by
  rw [Dag.blk_set h]; simp [rO]
theorem rO_set6 {w : World} {b : Nat} {F : FlowD} {A : Option Addr} {c : Nat} {nm : Bool} {HA : Option Addr} {hn hc : Nat} {E : Int} (h : w.heap[b]? = some (rO F A c nm HA hn hc E)) (E' : Int) :
    (w.setCell ⟨b, 6, none⟩ (.int .i64 E')).heap[b]? = some (rO F A c nm HA hn hc E') := by
  rw [Dag.blk_set h]; simp [rO]
def RetOnce (F : FlowD) (A : Option Addr) (c : Nat) (nm : Bool) (HA : Option Addr) (hn hc : Nat) (E : Int) (H : List (List UInt8)) (s : List UInt8) (w : World) (e : Ending) (w' : World) : Prop :=
  Below w.heap.size w w' ∧ ((s ∈ H ∧ e = .returned (.agg #[.string (sb F.name), .int .i64 F.deadline, .int .i64 F.priority, .slice A F.tasks.length c, .bool nm, .slice HA hn hc, .int .i64 51])) ∨ (s ∉ H ∧ ∃ HA' hc', e = .returned (.agg #[.string (sb F.name), .int .i64 F.deadline, .int .i64 F.priority, .slice A F.tasks.length c, .bool nm, .slice HA' (hn + 1) hc', .int .i64 E]) ∧ Words w' HA' hc' (H ++ [s]) ∧ TypS w' HA'))

set_option maxHeartbeats 3200000 in
theorem once_any (F : FlowD) (A : Option Addr) (c : Nat) (nm : Bool) (HA : Option Addr) (hn hc : Nat) (E : Int) (H : List (List UInt8)) (hH : H.length = hn) (hm : hn ≤ 1000000) (w : World) (hW : Words w HA hc H) (s : List UInt8) :
    Calls Tryz.prog 86 #[.agg #[.string (sb F.name), .int .i64 F.deadline, .int .i64 F.priority, .slice A F.tasks.length c, .bool nm, .slice HA hn hc, .int .i64 E], .string (sb s)] w (RetOnce F A c nm HA hn hc E H s w) := by
  have hB0 := blw (al w (rO F A c nm HA hn hc E)) (al (w.alloc (rO F A c nm HA hn hc E)) (.cells zero7 67))
  have HC := Lib.hid (had_any F A c nm HA hn hc E H hH _ (hW.below hB0) s)
  have HO0 := Lib.hid (keep_obj (al (w.alloc (rO F A c nm HA hn hc E)) (.cells zero7 67)) (heap_alloc_new w (rO F A c nm HA hn hc E)))
  have HR0 := Lib.hid (alloc_at (W := w.alloc (rO F A c nm HA hn hc E)) (o := .cells zero7 67) (g := w.heap.size + 1) (by simp))
  have HB0 := Lib.hid hB0
  have HW := Lib.hid hW; have HL := Lib.hid hH
  clear hB0 hW hH
  by_cases hmem : s ∈ H
  · rw [decide_eq_true hmem] at HC
    have HM := Lib.hid hmem
    clear hmem
    go_enter Tryz.func86, Tryz.ntmps86
    go_wp2_with fail
    refine HC.out.mono ?_
    clear HC
    rintro e w1 ⟨rfl, hb1⟩
    have HO1 := Lib.hid (keep_obj hb1 HO0.out)
    have HB1 := Lib.hid (blw HB0.out hb1)
    have HRS : Hid ((w1.setCell ⟨w.heap.size, 6, none⟩ (.int .i64 51)).heap[w.heap.size + 1]? = some (.cells zero7 67 (0, 0))) := Lib.hid ((Dag.blk_other (by omega)).trans (keep_obj hb1 HR0.out))
    clear hb1 HO0 HR0 HB0
    obtain ⟨p0, p1, p2, p3, p4, p5, p6, hp⟩ := rO_cells HO1.out
    have pf := Dag.blk_frozen HO1.out 6
    go_wp2_with (refine wpList_storeA rfl 67 _ _ rfl (w.heap.size + 1) #[.string (sb F.name), .int .i64 F.deadline, .int .i64 F.priority, .slice A F.tasks.length c, .bool nm, .slice HA hn hc, .int .i64 51] zero7 _ rfl rfl HRS.out rfl info_R (rO_one F A c nm HA hn hc 51) ?_; intro w3 hp3; have HP3 := Lib.hid hp3; clear hp3)
    refine bodyPost_ret (results_cell_row rfl _ _ _ _ _ _ _ rfl HP3.out.blk Tryz.underlying67 rfl info_R) rfl ?_
    exact ⟨HP3.out.below (HB1.out.setCell (Nat.le_refl _) _) (by omega), Or.inl ⟨HM.out, rfl⟩⟩
  · rw [decide_eq_false hmem] at HC
    have HM := Lib.hid hmem
    clear hmem
    go_enter Tryz.func86, Tryz.ntmps86
    go_wp2_with fail
    refine HC.out.mono ?_
    clear HC
    rintro e w1 ⟨rfl, hb1⟩
    have HO1 := Lib.hid (keep_obj hb1 HO0.out)
    have HR1 := Lib.hid (keep_obj hb1 HR0.out)
    have HB1 := Lib.hid (blw HB0.out hb1)
    clear hb1 HO0 HR0 HB0
    obtain ⟨p0, p1, p2, p3, p4, p5, p6, hp⟩ := rO_cells HO1.out
    have HW1 := Lib.hid (HW.out.below HB1.out)
    go_wp2_with (first
      | (at_builtin; refine Dag.wpList_appg rfl _ _ 51 9 (.string ⟨#[]⟩) 16 Tryz.underlying51 info_str rfl (by decide) rfl w1.heap.size (.slice none 0 0) [] rfl (Own1.nil _ _ _) HA hc hn (strs H) (by rw [strs_len, HL.out]) rfl HW1.out (strs_one H) (by rw [strs_len, HL.out]; simp; omega) (Nat.le_refl _) ?_; intro l2 A8 c8 w2 el ho8 hg8 _ hb8; rw [List.nil_append] at el; subst el; rw [strs_len, HL.out] at ho8 ⊢; have HO8 := Lib.hid ho8; have HB8 := Lib.hid hb8; clear ho8 hg8 hb8)
      | (at_builtin; refine Dag.wpList_appg rfl _ _ 51 9 (.string ⟨#[]⟩) 16 Tryz.underlying51 info_str rfl (by decide) rfl w1.heap.size (.slice A8 hn c8) (strs H) rfl (by exact HO8.out.below (al _ _)) (some ⟨w2.heap.size, 0, none⟩) 1 1 [.string (sb s)] rfl rfl (Sl.one rfl) (by simp [Value.oneCell']) (by rw [strs_len, HL.out]; simp; omega) (by have := HB8.out.size; simp; omega) ?_; intro l3 A9 c9 w9 el ho9 hg9 _ hb9; have hll2 : l3.length = hn + 1 := (by rw [el, List.length_append, strs_len, HL.out]; rfl); rw [hll2] at ho9; rw [hll2]; have EL := Lib.hid el; have HO9 := Lib.hid ho9; have hb19 := (HB8.out.trans ((al w2 _).mono HB8.out.size)).trans hb9; have HC9 := Lib.hid (keep_obj hb19 HO1.out); have HB9 := Lib.hid hb19; have HRS : Hid ((w9.setCell ⟨w.heap.size, 5, none⟩ (.slice A9 (hn + 1) c9)).heap[w.heap.size + 1]? = some (.cells zero7 67 (0, 0))) := Lib.hid ((Dag.blk_other (by omega)).trans (keep_obj hb19 HR1.out)); clear p0 p1 p2 p3 p4 p5 p6 hp el ho9 hg9 hb9 hll2 hb19; obtain ⟨p0, p1, p2, p3, p4, p5, p6, hp⟩ := rO_cells HC9.out; have pf := Dag.blk_frozen HC9.out 5)
      | (refine wpList_storeA rfl 67 _ _ rfl (w.heap.size + 1) #[.string (sb F.name), .int .i64 F.deadline, .int .i64 F.priority, .slice A F.tasks.length c, .bool nm, .slice A9 (hn + 1) c9, .int .i64 E] zero7 _ rfl rfl HRS.out rfl info_R (rO_one F A c nm A9 (hn + 1) c9 E) ?_; intro w3 hp3; have HP3 := Lib.hid hp3; clear hp3))
    refine bodyPost_ret (results_cell_row rfl _ _ _ _ _ _ _ rfl HP3.out.blk Tryz.underlying67 rfl info_R) rfl ?_
    have hlt1 := Dag.blk_lt HR1.out
    have hb9 := (HB1.out.trans (HB9.out.mono HB1.out.size)).setCell (p := ⟨w.heap.size, 5, none⟩) (Nat.le_refl _) (.slice A9 (hn + 1) c9)
    refine ⟨HP3.out.below hb9 (by omega), Or.inr ⟨HM.out, A9, c9, rfl, ?_⟩⟩
    have h1 := HO9.out
    rw [EL.out] at h1
    have h2 : Own1 w9 w1.heap.size 9 (.slice A9 (hn + 1) c9) (strs (H ++ [s])) := by rw [strs_app]; exact h1
    have h3 := Own1.keep (w' := w3) h2 fun b hb => by
      have := (Own1.lt h2 hb).1
      exact (HP3.out.other b (by omega)).trans (Dag.blk_other (by omega))
    exact ⟨(Own1.sl h3).2, typS_own h3⟩
end Go.Proofs.YtkcijibkloamkaaGreatDoor

