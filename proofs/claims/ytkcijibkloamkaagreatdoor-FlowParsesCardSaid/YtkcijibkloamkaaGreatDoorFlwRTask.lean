/- Of the document's Parse: task: a line of one task. -/
import Derived.Test.YtkcijibkloamkaaGreatDoorFlwRWith
namespace Go.Proofs.YtkcijibkloamkaaGreatDoor
open Go.RowKit
open Dag (Ints Own1 Sl)
open Clk (readE readV)
set_option linter.unusedVariables false
set_option maxRecDepth 100000

theorem rO_setF {w : World} {g : Nat} {F : FlowD} {A : Option Addr} {c : Nat} {nm : Bool} {HA : Option Addr} {hn hc : Nat} {E : Int} (h : w.heap[g]? = some (rO F A c nm HA hn hc E)) (A' : Option Addr) (c' : Nat) :
    (w.setCells g 0 [.string (sb F.name), .int .i64 F.deadline, .int .i64 F.priority, .slice A' F.tasks.length c']).heap[g]? = some (rO F A' c' nm HA hn hc E) := by
  show ((((w.setCell ⟨g, 0, none⟩ (.string (sb F.name))).setCell ⟨g, 1, none⟩ (.int .i64 F.deadline)).setCell ⟨g, 2, none⟩ (.int .i64 F.priority)).setCell ⟨g, 3, none⟩ (.slice A' F.tasks.length c')).heap[g]? = _
  rw [Dag.blk_set (Dag.blk_set (Dag.blk_set (Dag.blk_set h _ _) _ _) _ _) _ _]
  simp [rO]
def putD (t : TaskD) (k : Nat) (x : Int) : TaskD := match k with
  | 4 => { t with nodes := x }
  | 5 => { t with wall := x }
  | 6 => { t with retry := x }
  | _ => { t with done := true }
theorem kept_putR {w w' : World} {b : Nat} {cs cur : Array Value} (hp : PutA w w' b cs 67) (hb : w.heap[b]? = some (Obj.cells cur 67 (0, 0))) : Kept [9, 48] w w' := fun ty hty k cs' hk => hp.other k (ty_ne hk hb (by
  rintro rfl
  revert hty
  decide))
theorem rO_there {w : World} {g : Nat} {F : FlowD} {A : Option Addr} {c : Nat} {nm : Bool} {HA : Option Addr} {hn hc : Nat} {E : Int} (h : w.heap[g]? = some (rO F A c nm HA hn hc E)) : w.there g 0 4 := fun j hj => by
  have h' := h
  unfold rO at h'
  refine ⟨?_, Dag.blk_frozen h' _⟩
  rw [Nat.zero_add, Dag.blk_cell h' j]
  match j, hj with
  | 0, _ => rfl
  | 1, _ => rfl
  | 2, _ => rfl
  | 3, _ => rfl
  | j + 4, h => omega
theorem kept_setCells {tys : List TypeId} {w : World} {g o : Nat} {vs : List Value} {cs : Array Value} {t : TypeId} (h : w.heap[g]? = some (Obj.cells cs t (0, 0))) (ht : t ∉ tys) : Kept tys w (w.setCells g o vs) := fun ty hty b cs' hb =>
  setCells_other g vs o w b (ty_ne hb h (fun e => ht (e ▸ hty)))
def RetTask (F : FlowD) (A : Option Addr) (c : Nat) (nm : Bool) (HA : Option Addr) (hh hc : Nat) (H : List (List UInt8)) (kk : Nat) (a : List UInt8) (E : Int) (x : Int) (w : World) (e : Ending) (w' : World) : Prop :=
  Below w.heap.size w w' ∧ ((a ∉ names F.tasks ∧ e = .returned (.agg #[.string (sb F.name), .int .i64 F.deadline, .int .i64 F.priority, .slice A F.tasks.length c, .bool nm, .slice HA hh hc, .int .i64 52])) ∨ (a ∈ names F.tasks ∧ tag kk a ∈ H ∧ e = .returned (.agg #[.string (sb F.name), .int .i64 F.deadline, .int .i64 F.priority, .slice A F.tasks.length c, .bool nm, .slice HA hh hc, .int .i64 51])) ∨
    (∃ (v : Nat) (t : TaskD), F.tasks[v]? = some t ∧ findI F.tasks a = (v : Int) ∧ tag kk a ∉ H ∧ ∃ A' c' HA' hc', e = .returned (.agg #[.string (sb F.name), .int .i64 F.deadline, .int .i64 F.priority, .slice A' F.tasks.length c', .bool nm, .slice HA' (hh + 1) hc', .int .i64 E]) ∧ Words w' HA' hc' (H ++ [tag kk a]) ∧ TypS w' HA' ∧ (E = 0 → TT w' A' c' (F.tasks.set v (putD t kk x)))))
theorem sb_catN (a b : List UInt8) : sb a ++ sb b = sb (a ++ b) := by apply ByteArray.ext; simp [sb]
theorem tag_cat (kk : Nat) (a : List UInt8) : sb (kwB kk) ++ ⟨#[32]⟩ ++ sb a = sb (tag kk a) := by
  rw [show (⟨#[32]⟩ : ByteArray) = sb [32] from rfl, sb_catN, sb_catN]
  congr 1
  simp [tag]

set_option maxHeartbeats 3200000 in
theorem task_any (F : FlowD) (A : Option Addr) (c : Nat) (w : World) (h : TT w A c F.tasks) (hm : F.tasks.length ≤ 1000000) (nm : Bool) (HA : Option Addr) (hh hc : Nat) (H : List (List UInt8)) (hH : H.length = hh) (hhm : hh ≤ 1000000) (hW : Words w HA hc H)
    (kk : Nat) (hkk : kk = 4 ∨ kk = 5 ∨ kk = 6 ∨ kk = 7) (LA : Option Addr) (lc : Nat) (a : List UInt8) (rest : List (List UInt8)) (nL : Nat) (hnL : (a :: rest).length = nL) (hL : Words w LA lc (a :: rest)) (ha : a.length ≤ 1100000) (b : List UInt8) (hb : Hid (kk ≠ 7 → rest[0]? = some b)) (hbz : b.length ≤ 1100000) (E x : Int) (hE : Hid (E = if kk = 7 then 0 else numR (leastN kk) (mostN kk) b)) (hx : Hid (x = readV b)) :
    Calls Tryz.prog 89 #[.agg #[.string (sb F.name), .int .i64 F.deadline, .int .i64 F.priority, .slice A F.tasks.length c, .bool nm, .slice HA hh hc, .int .i64 0], .string (sb (kwB kk)), .slice LA nL lc] w (RetTask F A c nm HA hh hc H kk a E x w) := by
  have hB0 := blw (al w (rO F A c nm HA hh hc 0)) (al (w.alloc (rO F A c nm HA hh hc 0)) (.cells zero7 67))
  have hO0 := keep_obj (al (w.alloc (rO F A c nm HA hh hc 0)) (.cells zero7 67)) (heap_alloc_new w (rO F A c nm HA hh hc 0))
  have hR0 := alloc_at (W := w.alloc (rO F A c nm HA hh hc 0)) (o := .cells zero7 67) (g := w.heap.size + 1) (by simp)
  have HT := Lib.hid h; have HW := Lib.hid hW; have HHL := Lib.hid hH
  obtain ⟨bl, ol, s0, eL, hx0, hl0⟩ := hL.at_ (k := 0) (by simp)
  subst eL
  simp only [List.getElem?_cons_zero, Option.some.injEq] at hx0
  subst hx0
  rw [Nat.add_zero] at hl0
  have HL0 := Lib.hid hl0; have HLW := Lib.hid hL; have HNL := Lib.hid hnL
  have hnp : 0 < nL := by rw [← hnL]; simp
  have HC := Lib.hid fun W (hW : Below w.heap.size w W) => rfind_any F A c W (h.tasks.below hW) a
  have hkz : (sb (kwB kk)).size ≤ 20 := by rw [sb_size]; have := kwB_le kk; omega
  have haz : (sb a).size ≤ 1100000 := by rw [sb_size]; exact ha
  have h32 : (⟨#[32]⟩ : ByteArray).size = 1 := rfl
  have ha1 : ∀ W : World, (Op.stringOp .add (sb (kwB kk)) ⟨#[32]⟩).run Tryz.prog W = .ok (.string (sb (kwB kk) ++ ⟨#[32]⟩)) W := fun W => run_string_add_sum W _ _ (by rw [h32]; omega)
  have ha2 : ∀ W : World, (Op.stringOp .add (sb (kwB kk) ++ ⟨#[32]⟩) (sb a)).run Tryz.prog W = .ok (.string (sb (tag kk a))) W := fun W => by rw [← tag_cat]; exact run_string_add_sum W _ _ (by rw [ByteArray.size_append, h32]; omega)
  clear h hW hL hl0 hH hnL h32
  go_enter Tryz.func89, Tryz.ntmps89
  go_wp2_with fail
  unfold rO zero7 at hB0 hO0 hR0
  generalize (w.alloc (.cells #[.string (sb F.name), .int .i64 F.deadline, .int .i64 F.priority, .slice A F.tasks.length c, .bool nm, .slice HA hh hc, .int .i64 0] 67)).alloc (.cells #[.string ⟨#[]⟩, .int .i64 0, .int .i64 0, .slice none 0 0, .bool false, .slice none 0 0, .int .i64 0] 67) = W0 at hB0 hO0 hR0 ⊢
  have HB0 := Lib.hid hB0
  have HO0 : Hid (W0.heap[w.heap.size]? = some (rO F A c nm HA hh hc 0)) := Lib.hid hO0
  have HR0 : Hid (W0.heap[w.heap.size + 1]? = some (.cells zero7 67 (0, 0))) := Lib.hid hR0
  clear hB0 hO0 hR0
  generalize eG : w.heap.size = g at HO0 HR0 ⊢
  obtain ⟨p0, p1, p2, p3, p4, p5, p6, hp⟩ := rO_cells HO0.out
  have pl : W0.cell? ⟨bl, ol, none⟩ = some (.string (sb a)) := keep_cell HB0.out HL0.out
  have s0 : W0.drew.cell? ⟨g, 0, none⟩ = some (.string (sb F.name)) ∧ W0.drew.cell? ⟨g, 1, none⟩ = some (.int .i64 F.deadline) ∧ W0.drew.cell? ⟨g, 2, none⟩ = some (.int .i64 F.priority) ∧ W0.drew.cell? ⟨g, 3, none⟩ = some (.slice A F.tasks.length c) ∧ W0.drew.cell? ⟨bl, ol, none⟩ = some (.string (sb a)) := ⟨p0, p1, p2, p3, pl⟩
  by_cases hmem : a ∈ names F.tasks
  case neg =>
    have hf := findI_none (ts := F.tasks) (s := a) hmem
    have HMM := Lib.hid hmem
    rw [hf] at HC
    clear hf hmem ha1 ha2 hkz haz
    go_region_held3 (fun (W : World) => W.cell? ⟨g, 0, none⟩ = some (.string (sb F.name)) ∧ W.cell? ⟨g, 1, none⟩ = some (.int .i64 F.deadline) ∧ W.cell? ⟨g, 2, none⟩ = some (.int .i64 F.priority) ∧ W.cell? ⟨g, 3, none⟩ = some (.slice A F.tasks.length c) ∧ W.cell? ⟨bl, ol, none⟩ = some (.string (sb a))) (first | exact s0 | exact s1) (first
      | (go_at_call 85; refine (HC.out _ (blw HB0.out (drew_below _))).mono ?_; rintro e w1 ⟨rfl, hb1⟩; have HX1 := Lib.hid (blw (drew_below W0) hb1); have s1 : w1.cell? ⟨g, 0, none⟩ = some (.string (sb F.name)) ∧ w1.cell? ⟨g, 1, none⟩ = some (.int .i64 F.deadline) ∧ w1.cell? ⟨g, 2, none⟩ = some (.int .i64 F.priority) ∧ w1.cell? ⟨g, 3, none⟩ = some (.slice A F.tasks.length c) ∧ w1.cell? ⟨bl, ol, none⟩ = some (.string (sb a)) := ⟨keep_cell HX1.out p0, keep_cell HX1.out p1, keep_cell HX1.out p2, keep_cell HX1.out p3, keep_cell HX1.out pl⟩; have HB1 := Lib.hid (blw HB0.out HX1.out); clear hb1))
    all_goals
      clear p0 p1 p2 p3 p4 p5 p6 hp pl s0 s1
      have HO1 := Lib.hid (keep_obj HX1.out HO0.out)
      have HRS : Hid ((w1.setCell ⟨g, 6, none⟩ (.int .i64 52)).heap[g + 1]? = some (.cells zero7 67 (0, 0))) := Lib.hid ((Dag.blk_other (by omega)).trans (keep_obj HX1.out HR0.out))
      clear HO0 HR0
      obtain ⟨p0, p1, p2, p3, p4, p5, p6, hp⟩ := rO_cells HO1.out
      have pf := Dag.blk_frozen HO1.out 6
      go_wp2_with (refine wpList_storeA rfl 67 _ _ rfl (g + 1) #[.string (sb F.name), .int .i64 F.deadline, .int .i64 F.priority, .slice A F.tasks.length c, .bool nm, .slice HA hh hc, .int .i64 52] zero7 _ rfl rfl HRS.out rfl info_R (rO_one F A c nm HA hh hc 52) ?_; intro w3 hp3; have HP3 := Lib.hid hp3; clear hp3)
      refine bodyPost_ret (results_cell_row rfl _ _ _ _ _ _ _ rfl HP3.out.blk Tryz.underlying67 rfl info_R) rfl ?_
      exact ⟨HP3.out.below (HB1.out.setCell (by rw [eG]; exact Nat.le_refl _) _) (by omega), Or.inl ⟨HMM.out, rfl⟩⟩
  obtain ⟨v, t, htv, hta, hf⟩ : ∃ (v : Nat) (t : TaskD), F.tasks[v]? = some t ∧ t.name = a ∧ findI F.tasks a = (v : Int) := by
    have hlt := List.idxOf_lt_length_of_mem hmem
    have hlt2 : (names F.tasks).idxOf a < F.tasks.length := by simpa [names] using hlt
    refine ⟨(names F.tasks).idxOf a, _, List.getElem?_eq_getElem hlt2, ?_, if_pos hmem⟩
    have e : (names F.tasks)[(names F.tasks).idxOf a] = (F.tasks[(names F.tasks).idxOf a]).name := List.getElem_map _
    exact e.symm.trans (List.getElem_idxOf hlt)
  have HMM := Lib.hid hmem
  have HTV := Lib.hid htv; have HTA := Lib.hid hta; have HFI := Lib.hid hf
  rw [hf] at HC
  have hvl := (List.getElem?_eq_some_iff.1 htv).1
  clear hf hmem htv hta
  go_region_held3 (fun (W : World) => W.cell? ⟨g, 0, none⟩ = some (.string (sb F.name)) ∧ W.cell? ⟨g, 1, none⟩ = some (.int .i64 F.deadline) ∧ W.cell? ⟨g, 2, none⟩ = some (.int .i64 F.priority) ∧ W.cell? ⟨g, 3, none⟩ = some (.slice A F.tasks.length c) ∧ W.cell? ⟨bl, ol, none⟩ = some (.string (sb a))) (first | exact s0 | exact s1) (first
      | (go_at_call 85; refine (HC.out _ (blw HB0.out (drew_below _))).mono ?_; rintro e w1 ⟨rfl, hb1⟩; have HX1 := Lib.hid (blw (drew_below W0) hb1); have s1 : w1.cell? ⟨g, 0, none⟩ = some (.string (sb F.name)) ∧ w1.cell? ⟨g, 1, none⟩ = some (.int .i64 F.deadline) ∧ w1.cell? ⟨g, 2, none⟩ = some (.int .i64 F.priority) ∧ w1.cell? ⟨g, 3, none⟩ = some (.slice A F.tasks.length c) ∧ w1.cell? ⟨bl, ol, none⟩ = some (.string (sb a)) := ⟨keep_cell HX1.out p0, keep_cell HX1.out p1, keep_cell HX1.out p2, keep_cell HX1.out p3, keep_cell HX1.out pl⟩; have HB1 := Lib.hid (blw HB0.out HX1.out); clear hb1))
  all_goals
    clear p0 p1 p2 p3 p4 p5 p6 hp pl s0 s1
    have HO1 := Lib.hid (keep_obj HX1.out HO0.out)
    have HR1 := Lib.hid (keep_obj HX1.out HR0.out)
    clear HO0 HR0 HX1
    obtain ⟨p0, p1, p2, p3, p4, p5, p6, hp⟩ := rO_cells HO1.out
    have pl : w1.cell? ⟨bl, ol, none⟩ = some (.string (sb a)) := keep_cell HB1.out HL0.out
    have HSS := Lib.hid fun (W : World) (hW : Below w1.heap.size w1 W) => show W.cell? ⟨g, 0, none⟩ = some (.string (sb F.name)) ∧ W.cell? ⟨g, 1, none⟩ = some (.int .i64 F.deadline) ∧ W.cell? ⟨g, 2, none⟩ = some (.int .i64 F.priority) ∧ W.cell? ⟨g, 3, none⟩ = some (.slice A F.tasks.length c) ∧ W.cell? ⟨g, 4, none⟩ = some (.bool nm) ∧ W.cell? ⟨g, 5, none⟩ = some (.slice HA hh hc) ∧ W.cell? ⟨g, 6, none⟩ = some (.int .i64 0) ∧ W.cell? ⟨bl, ol, none⟩ = some (.string (sb a)) from ⟨keep_cell hW p0, keep_cell hW p1, keep_cell hW p2, keep_cell hW p3, keep_cell hW p4, keep_cell hW p5, keep_cell hW p6, keep_cell hW pl⟩
    have HON := Lib.hid (once_any F A c nm HA hh hc 0 H HHL.out hhm w1.drew (HW.out.below (blw HB1.out (drew_below w1))) (tag kk a))
    clear p0 p1 p2 p3 p4 p5 p6 hp pl
    go_wp2_with fail
    refine wp_region_parts (fun (W : World) => W.cell? ⟨g, 0, none⟩ = some (.string (sb F.name)) ∧ W.cell? ⟨g, 1, none⟩ = some (.int .i64 F.deadline) ∧ W.cell? ⟨g, 2, none⟩ = some (.int .i64 F.priority) ∧ W.cell? ⟨g, 3, none⟩ = some (.slice A F.tasks.length c) ∧ W.cell? ⟨g, 4, none⟩ = some (.bool nm) ∧ W.cell? ⟨g, 5, none⟩ = some (.slice HA hh hc) ∧ W.cell? ⟨g, 6, none⟩ = some (.int .i64 0) ∧ W.cell? ⟨bl, ol, none⟩ = some (.string (sb a))) 7 8 (by kernel_rfl) (by kernel_rfl) (fun _ _ d _ _ h => by cases d <;> exact h) (HSS.out _ (drew_below w1)) ?_
    simp only [List.take_succ_cons, List.take_zero, List.drop_succ_cons, List.drop_zero]
    iterate 7 (refine wpLead_step (v := ?_) (by rfl) ?_ ?_; rotate_left; (intro W hW; (try dsimp only at hW); go_simp; (try with_reducible rfl)); try simp only [Act.put, List.setIfInBounds_toArray, List.set_cons_zero, List.set_cons_succ])
    intro K hK
    go_simp
    refine HON.out.mono ?_
    rintro e w2 ⟨hb2, h2⟩
    have HX2 := Lib.hid (blw (drew_below w1) hb2)
    have HO2 := Lib.hid (keep_obj HX2.out HO1.out)
    have HR2 := Lib.hid (keep_obj HX2.out HR1.out)
    have HB2 := Lib.hid (blw HB1.out HX2.out)
    clear hb2 HON HO1 HR1
    rcases h2 with ⟨hin, rfl⟩ | ⟨hout, HA2, hc2, rfl, hW2, hTy2⟩
    · have HIN := Lib.hid hin
      clear hin
      dsimp only
      refine hK.out _ _ (HSS.out _ HX2.out) (wpMid_nil ?_)
      clear hK K HSS HX2
      try simp only [Act.put, List.setIfInBounds_toArray, List.set_cons_zero, List.set_cons_succ]
      go_wp2_with (first
        | (refine wpList_storeA rfl 67 _ _ rfl g #[.string (sb F.name), .int .i64 F.deadline, .int .i64 F.priority, .slice A F.tasks.length c, .bool nm, .slice HA hh hc, .int .i64 51] #[.string (sb F.name), .int .i64 F.deadline, .int .i64 F.priority, .slice A F.tasks.length c, .bool nm, .slice HA hh hc, .int .i64 0] _ rfl rfl HO2.out rfl info_R (rO_one F A c nm HA hh hc 51) ?_; intro w3 hp3; have HO3 : Hid (w3.heap[g]? = some (rO F A c nm HA hh hc 51)) := Lib.hid hp3.blk; have HR3 := Lib.hid ((hp3.other (g + 1) (by omega)).trans HR2.out); have HB3 := Lib.hid (hp3.below HB2.out (by omega)); clear hp3; obtain ⟨p0, p1, p2, p3, p4, p5, p6, hp⟩ := rO_cells HO3.out)
        | (refine wpList_storeA rfl 67 _ _ rfl (g + 1) #[.string (sb F.name), .int .i64 F.deadline, .int .i64 F.priority, .slice A F.tasks.length c, .bool nm, .slice HA hh hc, .int .i64 51] zero7 _ rfl rfl HR3.out rfl info_R (rO_one F A c nm HA hh hc 51) ?_; intro w4 hp4; have HP4 := Lib.hid hp4; clear hp4))
      refine bodyPost_ret (results_cell_row rfl _ _ _ _ _ _ _ rfl HP4.out.blk Tryz.underlying67 rfl info_R) rfl ?_
      exact ⟨HP4.out.below HB3.out (by omega), Or.inr (Or.inl ⟨HMM.out, HIN.out, rfl⟩)⟩
    · have HOUT := Lib.hid hout; have HWK := Lib.hid fun (W : World) (hk : Kept [9] w2 W) => hW2.keptT hTy2 hk
      clear hout hW2 hTy2
      dsimp only
      refine hK.out _ _ (HSS.out _ HX2.out) (wpMid_nil ?_)
      clear hK K HSS HX2
      try simp only [Act.put, List.setIfInBounds_toArray, List.set_cons_zero, List.set_cons_succ]
      obtain ⟨Lx, hLx, hTLx⟩ := HT.out
      obtain ⟨⟨t', At, ct⟩, hxt⟩ : ∃ x, Lx[v]? = some x := ⟨_, List.getElem?_eq_getElem (by have := hvl; rwa [← hLx, List.length_map] at this)⟩
      obtain rfl : t = t' := by have h1 := HTV.out; rw [← hLx, List.getElem?_map, hxt] at h1; injection h1 with h1; exact h1.symm
      obtain ⟨bt, ot, eA, hct⟩ := hTLx.2.2.2.1 v _ hxt
      have HK6 := Lib.hid hct
      have HTI := Lib.hid (show IntsT w At ct t.after from hTLx.2.2.1 _ (List.mem_of_getElem? hxt))
      clear hct hxt hTLx hLx
      subst eA
      rcases hkk with rfl | rfl | rfl | rfl
      · have g4 : ((sb (kwB 4)).toList == [78, 79, 68, 69, 83]) = true := by rw [sb_toList]; decide
        obtain ⟨b1, o1, s1, eL1, hx1, hl1⟩ := HLW.out.at_ (k := 1) (by have := hb.out (by decide); cases rest <;> simp_all)
        rw [List.getElem?_cons_succ, hb.out (by decide)] at hx1
        injection hx1 with hx1
        subst hx1
        injection eL1 with eL1; injection eL1 with e1 e2; subst e1 e2
        have hnl1 : 1 < nL := by have h1 := HNL.out; have h2 := hb.out (by decide); cases rest <;> simp_all <;> omega
        have HL1 := Lib.hid hl1
        have hE4 : E = numR 1 10000 b := hE.out
        clear hl1
        go_wp2_with (first
          | (refine wpList_storeA rfl 67 _ _ rfl g #[.string (sb F.name), .int .i64 F.deadline, .int .i64 F.priority, .slice (some ⟨bt, ot, none⟩) F.tasks.length c, .bool nm, .slice HA2 (hh + 1) hc2, .int .i64 0] #[.string (sb F.name), .int .i64 F.deadline, .int .i64 F.priority, .slice (some ⟨bt, ot, none⟩) F.tasks.length c, .bool nm, .slice HA hh hc, .int .i64 0] _ rfl rfl HO2.out rfl info_R (rO_one F (some ⟨bt, ot, none⟩) c nm HA2 (hh + 1) hc2 0) ?_; intro w3 hp3; have HO3 : Hid (w3.heap[g]? = some (rO F (some ⟨bt, ot, none⟩) c nm HA2 (hh + 1) hc2 0)) := Lib.hid hp3.blk; have HR3 := Lib.hid ((hp3.other (g + 1) (by omega)).trans HR2.out); have HB3 := Lib.hid (hp3.below HB2.out (by omega)); have HK3 : Hid (Kept [9] w2 w3) := Lib.hid ((kept_putR hp3 HO2.out).sub (by simp)); clear hp3; obtain ⟨p0, p1, p2, p3, p4, p5, p6, hp⟩ := rO_cells HO3.out; have pl1 := keep_cell HB3.out HL1.out; have hlb1 : bl < w3.heap.size := World.block_lt_of_cell? w3 _ pl1)
          | (refine wpList_load_mid rfl 48 _ rfl bt (ot + v * 6) (by simp [Act.eval]) (tkC (t, At, ct)) _ (fun j u hu => keep_cell HB3.out (HK6.out j u hu)) Tryz.underlying48 rfl info_T6 ?_; unfold tkC))
        refine (rnumber_any b 1 10000 _ (Nat.le_trans hbz (by decide))).mono ?_
        rintro e w5 ⟨rfl, hb5⟩
        have HB5 := Lib.hid (blw (blw HB3.out (al _ _)) hb5)
        have HK5 : Hid (Kept [9] w2 w5) := Lib.hid (HK3.out.trans (Kept.below (blw (al _ _) hb5)))
        have HO5 := Lib.hid (keep_obj hb5 (keep_obj (al _ _) HO3.out))
        have HR5 := Lib.hid (keep_obj hb5 (keep_obj (al _ _) HR3.out))
        have HTB5 := Lib.hid (keep_obj hb5 (heap_alloc_new w3 _))
        have hgt : g + 1 < w3.heap.size := Dag.blk_lt HR3.out
        clear hb5 p0 p1 p2 p3 p4 p5 p6 hp pl1 hlb1 HB3 HO3 HR3 HO2 HR2 HB2
        generalize w3.heap.size = tb at HTB5 hgt ⊢
        obtain ⟨N, hN⟩ : ∃ N, numR 1 10000 b = N := ⟨_, rfl⟩
        have HE : Hid (E = N) := Lib.hid (by rw [hE4, hN])
        rw [hN]
        obtain ⟨y, hy⟩ : ∃ y, (if N = 0 then readV b else 0) = y := ⟨_, rfl⟩
        have HY : Hid (N = 0 → y = x) := Lib.hid fun h0 => by rw [← hy, if_pos h0]; exact hx.out.symm
        rw [hy]
        clear hN hy hE4
        obtain ⟨p0, p1, p2, p3, p4, p5, p6, hp⟩ := rO_cells HO5.out
        have pf := Dag.blk_frozen HO5.out 6
        have tq := (Dag.blk_cell HTB5.out 1).trans rfl
        have tf := Dag.blk_frozen HTB5.out 1
        have hgw : w.heap.size ≤ g := by rw [eG]; exact Nat.le_refl _
        have HT6 : Hid (((w5.setCell ⟨tb, 1, none⟩ (.int .i64 y)).setCell ⟨g, 6, none⟩ (.int .i64 N)).heap[tb]? = some (.cells #[.string (sb t.name), .int .i64 y, .int .i64 t.wall, .int .i64 t.retry, .bool t.done, .slice At t.after.length ct] 48 (0, 0))) := Lib.hid ((Dag.blk_other (by omega)).trans (by rw [Dag.blk_set HTB5.out]; simp))
        have HO6 : Hid (((w5.setCell ⟨tb, 1, none⟩ (.int .i64 y)).setCell ⟨g, 6, none⟩ (.int .i64 N)).heap[g]? = some (rO F (some ⟨bt, ot, none⟩) c nm HA2 (hh + 1) hc2 N)) := Lib.hid (rO_set6 ((Dag.blk_other (by omega)).trans HO5.out) N)
        have HR6 : Hid (((w5.setCell ⟨tb, 1, none⟩ (.int .i64 y)).setCell ⟨g, 6, none⟩ (.int .i64 N)).heap[g + 1]? = some (.cells zero7 67 (0, 0))) := Lib.hid ((Dag.blk_other (by omega)).trans ((Dag.blk_other (by omega)).trans HR5.out))
        have HB6 : Hid (Below w.heap.size w ((w5.setCell ⟨tb, 1, none⟩ (.int .i64 y)).setCell ⟨g, 6, none⟩ (.int .i64 N))) := Lib.hid ((HB5.out.setCell (show w.heap.size ≤ tb by omega) _).setCell hgw _)
        have HK6b : Hid (Kept [9] w2 ((w5.setCell ⟨tb, 1, none⟩ (.int .i64 y)).setCell ⟨g, 6, none⟩ (.int .i64 N))) := Lib.hid (HK5.out.trans ((Kept.set HTB5.out (by decide)).trans (Kept.set (show (w5.setCell ⟨tb, 1, none⟩ (.int .i64 y)).heap[g]? = some (rO F (some ⟨bt, ot, none⟩) c nm HA2 (hh + 1) hc2 0) from (Dag.blk_other (by omega)).trans HO5.out) (by decide))))
        go_wp2_with (refine wpList_loadA rfl 48 _ rfl tb #[.string (sb t.name), .int .i64 y, .int .i64 t.wall, .int .i64 t.retry, .bool t.done, .slice At t.after.length ct] 48 rfl HT6.out _ Tryz.underlying48 rfl info_T6 ?_)
        refine (with_any F (some ⟨bt, ot, none⟩) c w _ HT.out HB6.out v _ rfl hvl hm ({ t with nodes := y }) At ct HTI.out (HT.out.tasks.nm t (List.mem_of_getElem? HTV.out))).mono ?_
        rintro e w7 ⟨A7, c7, rfl, hT7, hb7⟩
        have HB7 := Lib.hid (HB6.out.trans (hb7.mono HB6.out.size))
        have HO7 := Lib.hid (keep_obj hb7 HO6.out)
        have HR7 := Lib.hid (keep_obj hb7 HR6.out)
        have HK7 : Hid (Kept [9] w2 w7) := Lib.hid (HK6b.out.trans (Kept.below hb7))
        have HT7 := Lib.hid hT7
        have HTH7 := Lib.hid (rO_there HO7.out)
        clear hb7 hT7 p0 p1 p2 p3 p4 p5 p6 hp pf tq tf HT6 HO6 HR6 HB6 HK6b HO5 HR5 HTB5 HB5 HK5
        go_wp2_with (first
          | (refine wpList_store_mid rfl 25 _ _ rfl g 0 #[.string (sb F.name), .int .i64 F.deadline, .int .i64 F.priority, .slice A7 F.tasks.length c7] (by simp [Act.eval]) (by simp [Act.eval]) HTH7.out info_flow (flow4_one _ _ _ _ _ _) ?_; change wpList _ _ _ _ _ (w7.setCells g 0 [.string (sb F.name), .int .i64 F.deadline, .int .i64 F.priority, .slice A7 F.tasks.length c7]); have HO8 := Lib.hid (rO_setF HO7.out A7 c7); have HR8 := Lib.hid ((setCells_other g [.string (sb F.name), .int .i64 F.deadline, .int .i64 F.priority, .slice A7 F.tasks.length c7] 0 w7 (g + 1) (by omega)).trans HR7.out); have HB8 := Lib.hid (below_setCells (o := 0) (vs := [.string (sb F.name), .int .i64 F.deadline, .int .i64 F.priority, .slice A7 F.tasks.length c7]) HB7.out hgw); have HK8 := Lib.hid (kept_setCells (tys := [9, 48]) (o := 0) (vs := [.string (sb F.name), .int .i64 F.deadline, .int .i64 F.priority, .slice A7 F.tasks.length c7]) (show w7.heap[g]? = some (rO F (some ⟨bt, ot, none⟩) c nm HA2 (hh + 1) hc2 N) from HO7.out) (by decide)); generalize w7.setCells g 0 [.string (sb F.name), .int .i64 F.deadline, .int .i64 F.priority, .slice A7 F.tasks.length c7] = w8 at HO8 HR8 HB8 HK8 ⊢; obtain ⟨p0, p1, p2, p3, p4, p5, p6, hp⟩ := rO_cells HO8.out)
          | (refine wpList_storeA rfl 67 _ _ rfl (g + 1) #[.string (sb F.name), .int .i64 F.deadline, .int .i64 F.priority, .slice A7 F.tasks.length c7, .bool nm, .slice HA2 (hh + 1) hc2, .int .i64 N] zero7 _ rfl rfl HR8.out rfl info_R (rO_one F A7 c7 nm HA2 (hh + 1) hc2 N) ?_; intro w9 hp9; have HP9 := Lib.hid hp9; have HK9 := Lib.hid (HK8.out.trans (kept_putR hp9 HR8.out)); clear hp9))
        refine bodyPost_ret (results_cell_row rfl _ _ _ _ _ _ _ rfl HP9.out.blk Tryz.underlying67 rfl info_R) rfl ?_
        have hb9 := HP9.out.below HB8.out (show w.heap.size ≤ g + 1 by omega)
        refine ⟨hb9, Or.inr (Or.inr ⟨v, t, HTV.out, HFI.out, HOUT.out, A7, c7, HA2, hc2, by rw [HE.out], (HWK.out _ (HK7.out.trans (HK9.out.sub (by simp)))).1, (HWK.out _ (HK7.out.trans (HK9.out.sub (by simp)))).2, fun h0 => ?_⟩)⟩
        have := HT7.out _ hb9 (HK9.out.sub (by simp))
        rw [HE.out] at h0
        rw [HY.out h0] at this
        exact this
      · have g4 : ((sb (kwB 5)).toList == [78, 79, 68, 69, 83]) = false := by rw [sb_toList]; decide
        have g5 : ((sb (kwB 5)).toList == [87, 65, 76, 76, 84, 73, 77, 69]) = true := by rw [sb_toList]; decide
        obtain ⟨b1, o1, s1, eL1, hx1, hl1⟩ := HLW.out.at_ (k := 1) (by have := hb.out (by decide); cases rest <;> simp_all)
        rw [List.getElem?_cons_succ, hb.out (by decide)] at hx1
        injection hx1 with hx1
        subst hx1
        injection eL1 with eL1; injection eL1 with e1 e2; subst e1 e2
        have hnl1 : 1 < nL := by have h1 := HNL.out; have h2 := hb.out (by decide); cases rest <;> simp_all <;> omega
        have HL1 := Lib.hid hl1
        have hE4 : E = numR 1 1099511627775 b := hE.out
        clear hl1
        go_wp2_with (first
          | (refine wpList_storeA rfl 67 _ _ rfl g #[.string (sb F.name), .int .i64 F.deadline, .int .i64 F.priority, .slice (some ⟨bt, ot, none⟩) F.tasks.length c, .bool nm, .slice HA2 (hh + 1) hc2, .int .i64 0] #[.string (sb F.name), .int .i64 F.deadline, .int .i64 F.priority, .slice (some ⟨bt, ot, none⟩) F.tasks.length c, .bool nm, .slice HA hh hc, .int .i64 0] _ rfl rfl HO2.out rfl info_R (rO_one F (some ⟨bt, ot, none⟩) c nm HA2 (hh + 1) hc2 0) ?_; intro w3 hp3; have HO3 : Hid (w3.heap[g]? = some (rO F (some ⟨bt, ot, none⟩) c nm HA2 (hh + 1) hc2 0)) := Lib.hid hp3.blk; have HR3 := Lib.hid ((hp3.other (g + 1) (by omega)).trans HR2.out); have HB3 := Lib.hid (hp3.below HB2.out (by omega)); have HK3 : Hid (Kept [9] w2 w3) := Lib.hid ((kept_putR hp3 HO2.out).sub (by simp)); clear hp3; obtain ⟨p0, p1, p2, p3, p4, p5, p6, hp⟩ := rO_cells HO3.out; have pl1 := keep_cell HB3.out HL1.out; have hlb1 : bl < w3.heap.size := World.block_lt_of_cell? w3 _ pl1)
          | (refine wpList_load_mid rfl 48 _ rfl bt (ot + v * 6) (by simp [Act.eval]) (tkC (t, At, ct)) _ (fun j u hu => keep_cell HB3.out (HK6.out j u hu)) Tryz.underlying48 rfl info_T6 ?_; unfold tkC))
        refine (rnumber_any b 1 1099511627775 _ (Nat.le_trans hbz (by decide))).mono ?_
        rintro e w5 ⟨rfl, hb5⟩
        have HB5 := Lib.hid (blw (blw HB3.out (al _ _)) hb5)
        have HK5 : Hid (Kept [9] w2 w5) := Lib.hid (HK3.out.trans (Kept.below (blw (al _ _) hb5)))
        have HO5 := Lib.hid (keep_obj hb5 (keep_obj (al _ _) HO3.out))
        have HR5 := Lib.hid (keep_obj hb5 (keep_obj (al _ _) HR3.out))
        have HTB5 := Lib.hid (keep_obj hb5 (heap_alloc_new w3 _))
        have hgt : g + 1 < w3.heap.size := Dag.blk_lt HR3.out
        clear hb5 p0 p1 p2 p3 p4 p5 p6 hp pl1 hlb1 HB3 HO3 HR3 HO2 HR2 HB2
        generalize w3.heap.size = tb at HTB5 hgt ⊢
        obtain ⟨N, hN⟩ : ∃ N, numR 1 1099511627775 b = N := ⟨_, rfl⟩
        have HE : Hid (E = N) := Lib.hid (by rw [hE4, hN])
        rw [hN]
        obtain ⟨y, hy⟩ : ∃ y, (if N = 0 then readV b else 0) = y := ⟨_, rfl⟩
        have HY : Hid (N = 0 → y = x) := Lib.hid fun h0 => by rw [← hy, if_pos h0]; exact hx.out.symm
        rw [hy]
        clear hN hy hE4
        obtain ⟨p0, p1, p2, p3, p4, p5, p6, hp⟩ := rO_cells HO5.out
        have pf := Dag.blk_frozen HO5.out 6
        have tq := (Dag.blk_cell HTB5.out 2).trans rfl
        have tf := Dag.blk_frozen HTB5.out 2
        have hgw : w.heap.size ≤ g := by rw [eG]; exact Nat.le_refl _
        have HT6 : Hid (((w5.setCell ⟨tb, 2, none⟩ (.int .i64 y)).setCell ⟨g, 6, none⟩ (.int .i64 N)).heap[tb]? = some (.cells #[.string (sb t.name), .int .i64 t.nodes, .int .i64 y, .int .i64 t.retry, .bool t.done, .slice At t.after.length ct] 48 (0, 0))) := Lib.hid ((Dag.blk_other (by omega)).trans (by rw [Dag.blk_set HTB5.out]; simp))
        have HO6 : Hid (((w5.setCell ⟨tb, 2, none⟩ (.int .i64 y)).setCell ⟨g, 6, none⟩ (.int .i64 N)).heap[g]? = some (rO F (some ⟨bt, ot, none⟩) c nm HA2 (hh + 1) hc2 N)) := Lib.hid (rO_set6 ((Dag.blk_other (by omega)).trans HO5.out) N)
        have HR6 : Hid (((w5.setCell ⟨tb, 2, none⟩ (.int .i64 y)).setCell ⟨g, 6, none⟩ (.int .i64 N)).heap[g + 1]? = some (.cells zero7 67 (0, 0))) := Lib.hid ((Dag.blk_other (by omega)).trans ((Dag.blk_other (by omega)).trans HR5.out))
        have HB6 : Hid (Below w.heap.size w ((w5.setCell ⟨tb, 2, none⟩ (.int .i64 y)).setCell ⟨g, 6, none⟩ (.int .i64 N))) := Lib.hid ((HB5.out.setCell (show w.heap.size ≤ tb by omega) _).setCell hgw _)
        have HK6b : Hid (Kept [9] w2 ((w5.setCell ⟨tb, 2, none⟩ (.int .i64 y)).setCell ⟨g, 6, none⟩ (.int .i64 N))) := Lib.hid (HK5.out.trans ((Kept.set HTB5.out (by decide)).trans (Kept.set (show (w5.setCell ⟨tb, 2, none⟩ (.int .i64 y)).heap[g]? = some (rO F (some ⟨bt, ot, none⟩) c nm HA2 (hh + 1) hc2 0) from (Dag.blk_other (by omega)).trans HO5.out) (by decide))))
        go_wp2_with (refine wpList_loadA rfl 48 _ rfl tb #[.string (sb t.name), .int .i64 t.nodes, .int .i64 y, .int .i64 t.retry, .bool t.done, .slice At t.after.length ct] 48 rfl HT6.out _ Tryz.underlying48 rfl info_T6 ?_)
        refine (with_any F (some ⟨bt, ot, none⟩) c w _ HT.out HB6.out v _ rfl hvl hm ({ t with wall := y }) At ct HTI.out (HT.out.tasks.nm t (List.mem_of_getElem? HTV.out))).mono ?_
        rintro e w7 ⟨A7, c7, rfl, hT7, hb7⟩
        have HB7 := Lib.hid (HB6.out.trans (hb7.mono HB6.out.size))
        have HO7 := Lib.hid (keep_obj hb7 HO6.out)
        have HR7 := Lib.hid (keep_obj hb7 HR6.out)
        have HK7 : Hid (Kept [9] w2 w7) := Lib.hid (HK6b.out.trans (Kept.below hb7))
        have HT7 := Lib.hid hT7
        have HTH7 := Lib.hid (rO_there HO7.out)
        clear hb7 hT7 p0 p1 p2 p3 p4 p5 p6 hp pf tq tf HT6 HO6 HR6 HB6 HK6b HO5 HR5 HTB5 HB5 HK5
        go_wp2_with (first
          | (refine wpList_store_mid rfl 25 _ _ rfl g 0 #[.string (sb F.name), .int .i64 F.deadline, .int .i64 F.priority, .slice A7 F.tasks.length c7] (by simp [Act.eval]) (by simp [Act.eval]) HTH7.out info_flow (flow4_one _ _ _ _ _ _) ?_; change wpList _ _ _ _ _ (w7.setCells g 0 [.string (sb F.name), .int .i64 F.deadline, .int .i64 F.priority, .slice A7 F.tasks.length c7]); have HO8 := Lib.hid (rO_setF HO7.out A7 c7); have HR8 := Lib.hid ((setCells_other g [.string (sb F.name), .int .i64 F.deadline, .int .i64 F.priority, .slice A7 F.tasks.length c7] 0 w7 (g + 1) (by omega)).trans HR7.out); have HB8 := Lib.hid (below_setCells (o := 0) (vs := [.string (sb F.name), .int .i64 F.deadline, .int .i64 F.priority, .slice A7 F.tasks.length c7]) HB7.out hgw); have HK8 := Lib.hid (kept_setCells (tys := [9, 48]) (o := 0) (vs := [.string (sb F.name), .int .i64 F.deadline, .int .i64 F.priority, .slice A7 F.tasks.length c7]) (show w7.heap[g]? = some (rO F (some ⟨bt, ot, none⟩) c nm HA2 (hh + 1) hc2 N) from HO7.out) (by decide)); generalize w7.setCells g 0 [.string (sb F.name), .int .i64 F.deadline, .int .i64 F.priority, .slice A7 F.tasks.length c7] = w8 at HO8 HR8 HB8 HK8 ⊢; obtain ⟨p0, p1, p2, p3, p4, p5, p6, hp⟩ := rO_cells HO8.out)
          | (refine wpList_storeA rfl 67 _ _ rfl (g + 1) #[.string (sb F.name), .int .i64 F.deadline, .int .i64 F.priority, .slice A7 F.tasks.length c7, .bool nm, .slice HA2 (hh + 1) hc2, .int .i64 N] zero7 _ rfl rfl HR8.out rfl info_R (rO_one F A7 c7 nm HA2 (hh + 1) hc2 N) ?_; intro w9 hp9; have HP9 := Lib.hid hp9; have HK9 := Lib.hid (HK8.out.trans (kept_putR hp9 HR8.out)); clear hp9))
        refine bodyPost_ret (results_cell_row rfl _ _ _ _ _ _ _ rfl HP9.out.blk Tryz.underlying67 rfl info_R) rfl ?_
        have hb9 := HP9.out.below HB8.out (show w.heap.size ≤ g + 1 by omega)
        refine ⟨hb9, Or.inr (Or.inr ⟨v, t, HTV.out, HFI.out, HOUT.out, A7, c7, HA2, hc2, by rw [HE.out], (HWK.out _ (HK7.out.trans (HK9.out.sub (by simp)))).1, (HWK.out _ (HK7.out.trans (HK9.out.sub (by simp)))).2, fun h0 => ?_⟩)⟩
        have := HT7.out _ hb9 (HK9.out.sub (by simp))
        rw [HE.out] at h0
        rw [HY.out h0] at this
        exact this
      · have g4 : ((sb (kwB 6)).toList == [78, 79, 68, 69, 83]) = false := by rw [sb_toList]; decide
        have g5 : ((sb (kwB 6)).toList == [87, 65, 76, 76, 84, 73, 77, 69]) = false := by rw [sb_toList]; decide
        have g6 : ((sb (kwB 6)).toList == [82, 69, 84, 82, 89]) = true := by rw [sb_toList]; decide
        obtain ⟨b1, o1, s1, eL1, hx1, hl1⟩ := HLW.out.at_ (k := 1) (by have := hb.out (by decide); cases rest <;> simp_all)
        rw [List.getElem?_cons_succ, hb.out (by decide)] at hx1
        injection hx1 with hx1
        subst hx1
        injection eL1 with eL1; injection eL1 with e1 e2; subst e1 e2
        have hnl1 : 1 < nL := by have h1 := HNL.out; have h2 := hb.out (by decide); cases rest <;> simp_all <;> omega
        have HL1 := Lib.hid hl1
        have hE4 : E = numR 0 20 b := hE.out
        clear hl1
        go_wp2_with (first
          | (refine wpList_storeA rfl 67 _ _ rfl g #[.string (sb F.name), .int .i64 F.deadline, .int .i64 F.priority, .slice (some ⟨bt, ot, none⟩) F.tasks.length c, .bool nm, .slice HA2 (hh + 1) hc2, .int .i64 0] #[.string (sb F.name), .int .i64 F.deadline, .int .i64 F.priority, .slice (some ⟨bt, ot, none⟩) F.tasks.length c, .bool nm, .slice HA hh hc, .int .i64 0] _ rfl rfl HO2.out rfl info_R (rO_one F (some ⟨bt, ot, none⟩) c nm HA2 (hh + 1) hc2 0) ?_; intro w3 hp3; have HO3 : Hid (w3.heap[g]? = some (rO F (some ⟨bt, ot, none⟩) c nm HA2 (hh + 1) hc2 0)) := Lib.hid hp3.blk; have HR3 := Lib.hid ((hp3.other (g + 1) (by omega)).trans HR2.out); have HB3 := Lib.hid (hp3.below HB2.out (by omega)); have HK3 : Hid (Kept [9] w2 w3) := Lib.hid ((kept_putR hp3 HO2.out).sub (by simp)); clear hp3; obtain ⟨p0, p1, p2, p3, p4, p5, p6, hp⟩ := rO_cells HO3.out; have pl1 := keep_cell HB3.out HL1.out; have hlb1 : bl < w3.heap.size := World.block_lt_of_cell? w3 _ pl1)
          | (refine wpList_load_mid rfl 48 _ rfl bt (ot + v * 6) (by simp [Act.eval]) (tkC (t, At, ct)) _ (fun j u hu => keep_cell HB3.out (HK6.out j u hu)) Tryz.underlying48 rfl info_T6 ?_; unfold tkC))
        refine (rnumber_any b 0 20 _ (Nat.le_trans hbz (by decide))).mono ?_
        rintro e w5 ⟨rfl, hb5⟩
        have HB5 := Lib.hid (blw (blw HB3.out (al _ _)) hb5)
        have HK5 : Hid (Kept [9] w2 w5) := Lib.hid (HK3.out.trans (Kept.below (blw (al _ _) hb5)))
        have HO5 := Lib.hid (keep_obj hb5 (keep_obj (al _ _) HO3.out))
        have HR5 := Lib.hid (keep_obj hb5 (keep_obj (al _ _) HR3.out))
        have HTB5 := Lib.hid (keep_obj hb5 (heap_alloc_new w3 _))
        have hgt : g + 1 < w3.heap.size := Dag.blk_lt HR3.out
        clear hb5 p0 p1 p2 p3 p4 p5 p6 hp pl1 hlb1 HB3 HO3 HR3 HO2 HR2 HB2
        generalize w3.heap.size = tb at HTB5 hgt ⊢
        obtain ⟨N, hN⟩ : ∃ N, numR 0 20 b = N := ⟨_, rfl⟩
        have HE : Hid (E = N) := Lib.hid (by rw [hE4, hN])
        rw [hN]
        obtain ⟨y, hy⟩ : ∃ y, (if N = 0 then readV b else 0) = y := ⟨_, rfl⟩
        have HY : Hid (N = 0 → y = x) := Lib.hid fun h0 => by rw [← hy, if_pos h0]; exact hx.out.symm
        rw [hy]
        clear hN hy hE4
        obtain ⟨p0, p1, p2, p3, p4, p5, p6, hp⟩ := rO_cells HO5.out
        have pf := Dag.blk_frozen HO5.out 6
        have tq := (Dag.blk_cell HTB5.out 3).trans rfl
        have tf := Dag.blk_frozen HTB5.out 3
        have hgw : w.heap.size ≤ g := by rw [eG]; exact Nat.le_refl _
        have HT6 : Hid (((w5.setCell ⟨tb, 3, none⟩ (.int .i64 y)).setCell ⟨g, 6, none⟩ (.int .i64 N)).heap[tb]? = some (.cells #[.string (sb t.name), .int .i64 t.nodes, .int .i64 t.wall, .int .i64 y, .bool t.done, .slice At t.after.length ct] 48 (0, 0))) := Lib.hid ((Dag.blk_other (by omega)).trans (by rw [Dag.blk_set HTB5.out]; simp))
        have HO6 : Hid (((w5.setCell ⟨tb, 3, none⟩ (.int .i64 y)).setCell ⟨g, 6, none⟩ (.int .i64 N)).heap[g]? = some (rO F (some ⟨bt, ot, none⟩) c nm HA2 (hh + 1) hc2 N)) := Lib.hid (rO_set6 ((Dag.blk_other (by omega)).trans HO5.out) N)
        have HR6 : Hid (((w5.setCell ⟨tb, 3, none⟩ (.int .i64 y)).setCell ⟨g, 6, none⟩ (.int .i64 N)).heap[g + 1]? = some (.cells zero7 67 (0, 0))) := Lib.hid ((Dag.blk_other (by omega)).trans ((Dag.blk_other (by omega)).trans HR5.out))
        have HB6 : Hid (Below w.heap.size w ((w5.setCell ⟨tb, 3, none⟩ (.int .i64 y)).setCell ⟨g, 6, none⟩ (.int .i64 N))) := Lib.hid ((HB5.out.setCell (show w.heap.size ≤ tb by omega) _).setCell hgw _)
        have HK6b : Hid (Kept [9] w2 ((w5.setCell ⟨tb, 3, none⟩ (.int .i64 y)).setCell ⟨g, 6, none⟩ (.int .i64 N))) := Lib.hid (HK5.out.trans ((Kept.set HTB5.out (by decide)).trans (Kept.set (show (w5.setCell ⟨tb, 3, none⟩ (.int .i64 y)).heap[g]? = some (rO F (some ⟨bt, ot, none⟩) c nm HA2 (hh + 1) hc2 0) from (Dag.blk_other (by omega)).trans HO5.out) (by decide))))
        go_wp2_with (refine wpList_loadA rfl 48 _ rfl tb #[.string (sb t.name), .int .i64 t.nodes, .int .i64 t.wall, .int .i64 y, .bool t.done, .slice At t.after.length ct] 48 rfl HT6.out _ Tryz.underlying48 rfl info_T6 ?_)
        refine (with_any F (some ⟨bt, ot, none⟩) c w _ HT.out HB6.out v _ rfl hvl hm ({ t with retry := y }) At ct HTI.out (HT.out.tasks.nm t (List.mem_of_getElem? HTV.out))).mono ?_
        rintro e w7 ⟨A7, c7, rfl, hT7, hb7⟩
        have HB7 := Lib.hid (HB6.out.trans (hb7.mono HB6.out.size))
        have HO7 := Lib.hid (keep_obj hb7 HO6.out)
        have HR7 := Lib.hid (keep_obj hb7 HR6.out)
        have HK7 : Hid (Kept [9] w2 w7) := Lib.hid (HK6b.out.trans (Kept.below hb7))
        have HT7 := Lib.hid hT7
        have HTH7 := Lib.hid (rO_there HO7.out)
        clear hb7 hT7 p0 p1 p2 p3 p4 p5 p6 hp pf tq tf HT6 HO6 HR6 HB6 HK6b HO5 HR5 HTB5 HB5 HK5
        go_wp2_with (first
          | (refine wpList_store_mid rfl 25 _ _ rfl g 0 #[.string (sb F.name), .int .i64 F.deadline, .int .i64 F.priority, .slice A7 F.tasks.length c7] (by simp [Act.eval]) (by simp [Act.eval]) HTH7.out info_flow (flow4_one _ _ _ _ _ _) ?_; change wpList _ _ _ _ _ (w7.setCells g 0 [.string (sb F.name), .int .i64 F.deadline, .int .i64 F.priority, .slice A7 F.tasks.length c7]); have HO8 := Lib.hid (rO_setF HO7.out A7 c7); have HR8 := Lib.hid ((setCells_other g [.string (sb F.name), .int .i64 F.deadline, .int .i64 F.priority, .slice A7 F.tasks.length c7] 0 w7 (g + 1) (by omega)).trans HR7.out); have HB8 := Lib.hid (below_setCells (o := 0) (vs := [.string (sb F.name), .int .i64 F.deadline, .int .i64 F.priority, .slice A7 F.tasks.length c7]) HB7.out hgw); have HK8 := Lib.hid (kept_setCells (tys := [9, 48]) (o := 0) (vs := [.string (sb F.name), .int .i64 F.deadline, .int .i64 F.priority, .slice A7 F.tasks.length c7]) (show w7.heap[g]? = some (rO F (some ⟨bt, ot, none⟩) c nm HA2 (hh + 1) hc2 N) from HO7.out) (by decide)); generalize w7.setCells g 0 [.string (sb F.name), .int .i64 F.deadline, .int .i64 F.priority, .slice A7 F.tasks.length c7] = w8 at HO8 HR8 HB8 HK8 ⊢; obtain ⟨p0, p1, p2, p3, p4, p5, p6, hp⟩ := rO_cells HO8.out)
          | (refine wpList_storeA rfl 67 _ _ rfl (g + 1) #[.string (sb F.name), .int .i64 F.deadline, .int .i64 F.priority, .slice A7 F.tasks.length c7, .bool nm, .slice HA2 (hh + 1) hc2, .int .i64 N] zero7 _ rfl rfl HR8.out rfl info_R (rO_one F A7 c7 nm HA2 (hh + 1) hc2 N) ?_; intro w9 hp9; have HP9 := Lib.hid hp9; have HK9 := Lib.hid (HK8.out.trans (kept_putR hp9 HR8.out)); clear hp9))
        refine bodyPost_ret (results_cell_row rfl _ _ _ _ _ _ _ rfl HP9.out.blk Tryz.underlying67 rfl info_R) rfl ?_
        have hb9 := HP9.out.below HB8.out (show w.heap.size ≤ g + 1 by omega)
        refine ⟨hb9, Or.inr (Or.inr ⟨v, t, HTV.out, HFI.out, HOUT.out, A7, c7, HA2, hc2, by rw [HE.out], (HWK.out _ (HK7.out.trans (HK9.out.sub (by simp)))).1, (HWK.out _ (HK7.out.trans (HK9.out.sub (by simp)))).2, fun h0 => ?_⟩)⟩
        have := HT7.out _ hb9 (HK9.out.sub (by simp))
        rw [HE.out] at h0
        rw [HY.out h0] at this
        exact this
      · have g4 : ((sb (kwB 7)).toList == [78, 79, 68, 69, 83]) = false := by rw [sb_toList]; decide
        have g5 : ((sb (kwB 7)).toList == [87, 65, 76, 76, 84, 73, 77, 69]) = false := by rw [sb_toList]; decide
        have g6 : ((sb (kwB 7)).toList == [82, 69, 84, 82, 89]) = false := by rw [sb_toList]; decide
        have hE4 : E = 0 := hE.out
        subst hE4
        go_wp2_with (first
          | (refine wpList_storeA rfl 67 _ _ rfl g #[.string (sb F.name), .int .i64 F.deadline, .int .i64 F.priority, .slice (some ⟨bt, ot, none⟩) F.tasks.length c, .bool nm, .slice HA2 (hh + 1) hc2, .int .i64 0] #[.string (sb F.name), .int .i64 F.deadline, .int .i64 F.priority, .slice (some ⟨bt, ot, none⟩) F.tasks.length c, .bool nm, .slice HA hh hc, .int .i64 0] _ rfl rfl HO2.out rfl info_R (rO_one F (some ⟨bt, ot, none⟩) c nm HA2 (hh + 1) hc2 0) ?_; intro w3 hp3; have HO3 : Hid (w3.heap[g]? = some (rO F (some ⟨bt, ot, none⟩) c nm HA2 (hh + 1) hc2 0)) := Lib.hid hp3.blk; have HR3 := Lib.hid ((hp3.other (g + 1) (by omega)).trans HR2.out); have HB3 := Lib.hid (hp3.below HB2.out (by omega)); have HK3 : Hid (Kept [9] w2 w3) := Lib.hid ((kept_putR hp3 HO2.out).sub (by simp)); clear hp3; obtain ⟨p0, p1, p2, p3, p4, p5, p6, hp⟩ := rO_cells HO3.out)
          | (refine wpList_load_mid rfl 48 _ rfl bt (ot + v * 6) (by simp [Act.eval]) (tkC (t, At, ct)) _ (fun j u hu => keep_cell HB3.out (HK6.out j u hu)) Tryz.underlying48 rfl info_T6 ?_; unfold tkC))
        have hgw : w.heap.size ≤ g := by rw [eG]; exact Nat.le_refl _
        refine (with_any F (some ⟨bt, ot, none⟩) c w _ HT.out (blw HB3.out (al _ _)) v _ rfl hvl hm ({ t with done := true }) At ct HTI.out (HT.out.tasks.nm t (List.mem_of_getElem? HTV.out))).mono ?_
        rintro e w7 ⟨A7, c7, rfl, hT7, hb7⟩
        have HB7 := Lib.hid (blw (blw HB3.out (al _ _)) hb7)
        have HO7 := Lib.hid (keep_obj hb7 (keep_obj (al _ _) HO3.out))
        have HR7 := Lib.hid (keep_obj hb7 (keep_obj (al _ _) HR3.out))
        have HK7 : Hid (Kept [9] w2 w7) := Lib.hid (HK3.out.trans (Kept.below (blw (al _ _) hb7)))
        have HT7 := Lib.hid hT7
        have HTH7 := Lib.hid (rO_there HO7.out)
        clear hb7 hT7 p0 p1 p2 p3 p4 p5 p6 hp HO3 HR3 HB3 HK3
        go_wp2_with (first
          | (refine wpList_store_mid rfl 25 _ _ rfl g 0 #[.string (sb F.name), .int .i64 F.deadline, .int .i64 F.priority, .slice A7 F.tasks.length c7] (by simp [Act.eval]) (by simp [Act.eval]) HTH7.out info_flow (flow4_one _ _ _ _ _ _) ?_; change wpList _ _ _ _ _ (w7.setCells g 0 [.string (sb F.name), .int .i64 F.deadline, .int .i64 F.priority, .slice A7 F.tasks.length c7]); have HO8 := Lib.hid (rO_setF HO7.out A7 c7); have HR8 := Lib.hid ((setCells_other g [.string (sb F.name), .int .i64 F.deadline, .int .i64 F.priority, .slice A7 F.tasks.length c7] 0 w7 (g + 1) (by omega)).trans HR7.out); have HB8 := Lib.hid (below_setCells (o := 0) (vs := [.string (sb F.name), .int .i64 F.deadline, .int .i64 F.priority, .slice A7 F.tasks.length c7]) HB7.out hgw); have HK8 := Lib.hid (kept_setCells (tys := [9, 48]) (o := 0) (vs := [.string (sb F.name), .int .i64 F.deadline, .int .i64 F.priority, .slice A7 F.tasks.length c7]) (show w7.heap[g]? = some (rO F (some ⟨bt, ot, none⟩) c nm HA2 (hh + 1) hc2 0) from HO7.out) (by decide)); generalize w7.setCells g 0 [.string (sb F.name), .int .i64 F.deadline, .int .i64 F.priority, .slice A7 F.tasks.length c7] = w8 at HO8 HR8 HB8 HK8 ⊢; obtain ⟨p0, p1, p2, p3, p4, p5, p6, hp⟩ := rO_cells HO8.out)
          | (refine wpList_storeA rfl 67 _ _ rfl (g + 1) #[.string (sb F.name), .int .i64 F.deadline, .int .i64 F.priority, .slice A7 F.tasks.length c7, .bool nm, .slice HA2 (hh + 1) hc2, .int .i64 0] zero7 _ rfl rfl HR8.out rfl info_R (rO_one F A7 c7 nm HA2 (hh + 1) hc2 0) ?_; intro w9 hp9; have HP9 := Lib.hid hp9; have HK9 := Lib.hid (HK8.out.trans (kept_putR hp9 HR8.out)); clear hp9))
        refine bodyPost_ret (results_cell_row rfl _ _ _ _ _ _ _ rfl HP9.out.blk Tryz.underlying67 rfl info_R) rfl ?_
        have hb9 := HP9.out.below HB8.out (show w.heap.size ≤ g + 1 by omega)
        refine ⟨hb9, Or.inr (Or.inr ⟨v, t, HTV.out, HFI.out, HOUT.out, A7, c7, HA2, hc2, rfl, (HWK.out _ (HK7.out.trans (HK9.out.sub (by simp)))).1, (HWK.out _ (HK7.out.trans (HK9.out.sub (by simp)))).2, fun h0 => ?_⟩)⟩
        have := HT7.out _ hb9 (HK9.out.sub (by simp))
        exact this

end Go.Proofs.YtkcijibkloamkaaGreatDoor

