/- The page: a builder of a text inside another struct; what is written on it. -/
import Derived.Test.YtkcijibkloamkaaGreatDoorFlwTel
import Derived.Test.YtkcijibkloamkaaGreatDoorFlwLay
import Derived.Shelf.Strings.Builder1
import Derived.Test.YtkcijibkloamkaaGreatDoorTxtE
import Derived.StillTailTactics
namespace Go.Proofs.YtkcijibkloamkaaGreatDoor
open Go.RowKit
set_option linter.unusedVariables false
set_option maxRecDepth 100000

def bcs (l : List UInt8) : List Value := l.map fun x => Value.int .u8 x.toNat
/-- block b is a page that holds the bytes l -/
structure Pg (w : World) (base b : Nat) (l : List UInt8) : Prop where
  ex : ∃ p A c, w.heap[b]? = some (Obj.cells #[p, .slice A l.length c] 101 (0, 0)) ∧ (p = .pointer none ∨ p = .pointer (some ⟨b, 0, none⟩)) ∧ OwnN w base 5 1 A l.length c (bcs l)
  low : base ≤ b
theorem Pg.below {w w' : World} {base b : Nat} {l : List UInt8} (h : Pg w base b l) (hb : Below w.heap.size w w') : Pg w' base b l := by
  obtain ⟨p, A, c, h1, h2, h3⟩ := h.ex
  exact ⟨⟨p, A, c, (hb.block b (Dag.blk_lt h1)).trans h1, h2, h3.keep fun k cs hk => hb.block k (Dag.blk_lt hk)⟩, h.low⟩
theorem size_bld : (Tryz.prog.info? 99).map (·.size) = some 2 := by kernel_rfl
theorem lies_bld : liesAt Tryz.prog Tryz.prog.depth 101 (2 / Tryz.prog.cellsOf 101) 0 99 1 = true := by kernel_rfl
theorem info_u8 : (Tryz.prog.info? 5).map (fun i => (i.zero, i.size, i.bytes)) = some (some (.int .u8 0), 1, 1) := by kernel_rfl

/-- all blocks but pages and rows of bytes are as they were -/
def KeptP (w w' : World) : Prop := ∀ tys, 101 ∉ tys → 5 ∉ tys → Kept tys w w'
theorem KeptP.trans {a b c : World} (h : KeptP a b) (k : KeptP b c) : KeptP a c := fun tys h1 h2 => Kept.trans (h tys h1 h2) (k tys h1 h2)
theorem KeptP.below {w w' : World} (hb : Below w.heap.size w w') : KeptP w w' := fun tys _ _ => Kept.below hb

set_option maxHeartbeats 1000000 in
theorem copyCheck_any (w : World) (base b : Nat) (l : List UInt8) (h : Pg w base b l) (hw : base ≤ w.heap.size) :
    Calls Tryz.prog 137 #[.pointer (some ⟨b, 0, none⟩)] w fun e w' => e = .returned (.tuple #[]) ∧ Below base w w' ∧ KeptP w w' ∧ ∃ A c, w'.heap[b]? = some (Obj.cells #[.pointer (some ⟨b, 0, none⟩), .slice A l.length c] 101 (0, 0)) ∧ OwnN w' base 5 1 A l.length c (bcs l) := by
  obtain ⟨p, A, c, hb, hp, ho⟩ := h.ex
  have hl := h.low
  have hlt := Dag.blk_lt hb
  obtain ⟨j, hj, hjs⟩ := Option.map_eq_some_iff.1 size_bld
  have c0 := Dag.blk_cell hb 0
  simp only [List.getElem?_toArray, List.getElem?_cons_zero] at c0
  have f0 := Dag.blk_frozen hb 0
  have hsh : w.shape? b = some (101, 2) := by simp [World.shape?, hb]
  have HB := Lib.hid hb; have HO := Lib.hid ho
  clear h hb ho
  rcases hp with rfl | rfl
  · go_enter Tryz.func137, Tryz.ntmps137
    go_wp2
    rw [Lib.run_to_unsafe w ⟨b, 0, none⟩ Tryz.underlying96 Tryz.underlying206 hj (by rw [hjs]; decide) hsh (Nat.zero_lt_succ 1)]
    simp only [Result.andThen]
    rw [Oper.upon_value]
    go_wp2
    rw [run_callFunc_extern Tryz.func167 (by kernel_rfl) (by kernel_rfl) (by kernel_rfl) (e := Extern.AbiNoEscape.same) (by kernel_rfl)]
    rw [Lib.run_noEscape]
    simp only [Result.andThen]
    rw [Oper.upon_value]
    go_wp2
    rw [Lib.run_from_unsafe w ⟨b, 0, none⟩ Tryz.underlying206 Tryz.underlying96 hj hsh lies_bld]
    simp only [Result.andThen]
    rw [Oper.upon_value]
    go_wp2
    go_end0
    refine ⟨rfl, (Below.refl base w).setCell (p := ⟨b, 0, none⟩) hl _, fun tys h1 h2 => Kept.set HB.out h1, A, c, ?_, HO.out.keep fun k cs hk => Dag.blk_other (ty_ne hk HB.out (by decide))⟩
    rw [Dag.blk_set HB.out 0 _]
    rfl
  · go_enter Tryz.func137, Tryz.ntmps137
    go_wp2
    rw [Lib.run_neq_ptr_same w _ Tryz.underlying96 hj]
    go_wp2
    go_end0
    exact ⟨rfl, Below.refl base w, fun tys _ _ ty _ b cs _ => rfl, A, c, HB.out, HO.out⟩

theorem bcs_len (l : List UInt8) : (bcs l).length = l.length := by simp [bcs]
theorem bcs_app (a b : List UInt8) : bcs (a ++ b) = bcs a ++ bcs b := by simp [bcs]
theorem bcs_str (l : List UInt8) : Lib.strCells (sb l) = bcs l := by unfold Lib.strCells bcs; rw [sb_list]
set_option maxHeartbeats 1000000 in
theorem writeS_any (s : List UInt8) (w : World) (base b : Nat) (l : List UInt8) (h : Pg w base b l) (hw : base ≤ w.heap.size) (hlen : l.length + s.length ≤ 140737488355328) :
    Calls Tryz.prog 103 #[.pointer (some ⟨b, 0, none⟩), .string (sb s)] w fun e w' => (∃ v, e = .returned v) ∧ Pg w' base b (l ++ s) ∧ Below base w w' ∧ KeptP w w' := by
  obtain ⟨i0, hi, hz0, hz1, hz2⟩ := info_parts info_u8
  have H := Lib.hid h
  have hl := h.low
  clear h
  go_enter Tryz.func103, Tryz.ntmps103
  go_wp2_with fail
  refine (copyCheck_any _ base b l H.out hw).mono ?_
  rintro e w1 ⟨rfl, hb1, hkp1, A, c, hblk, ho⟩
  have HKP1 := Lib.hid hkp1; clear hkp1
  have c0 := Dag.blk_cell hblk 0
  have c1 := Dag.blk_cell hblk 1
  simp only [List.getElem?_toArray, List.getElem?_cons_succ, List.getElem?_cons_zero] at c0 c1
  have hlt := Dag.blk_lt hblk
  have HB := Lib.hid hblk; have HO := Lib.hid ho; have HB1 := Lib.hid hb1
  have hw1 : base ≤ w1.heap.size := Nat.le_trans hw hb1.size
  clear hblk ho hb1
  go_wp2_with (at_builtin; refine Lib.wpList_append_own_string _ rfl _ _ 97 9 rfl base 5 i0 Tryz.underlying97 Tryz.underlying9 hi hz0 hz1 hz2 _ _ _ rfl HO.out (sb s) rfl (by rw [sb_size]; unfold maxLen; omega) (by rw [sb_size]; omega) hw1 ?_; intro v' w2 hown' hgrow _; rw [sb_size, bcs_str, ← bcs_app] at hown'; obtain ⟨A2, n2, c2, ev⟩ : ∃ A2 n2 c2, v' = .slice A2 n2 c2 := (by rcases hown'.2 with ⟨hv, _⟩ | ⟨g, cap, cur, hv, _⟩ <;> exact ⟨_, _, _, hv⟩); subst ev; have hk2 := Kept.grown (tys := [101]) hgrow HO.out (by decide) _ (by simp) b _ HB.out; have hb2 := hk2.trans HB.out; have d1 := Dag.blk_cell hb2 1; have f1 := Dag.blk_frozen hb2 1; simp only [List.getElem?_toArray, List.getElem?_cons_succ, List.getElem?_cons_zero] at d1; have hlt2 := Dag.blk_lt hb2; have HB2 := Lib.hid hb2; have HO2 := Lib.hid hown'; have HG := Lib.hid hgrow; clear hk2 hb2 hown' hgrow c0 c1)
  go_ret2
  have hn2 : n2 = l.length + s.length := by
    rcases HO2.out.2 with ⟨hv, h0⟩ | ⟨g, cap, cur, hv, _⟩
    · injection hv with _ h1; omega
    · injection hv
  subst hn2
  have hbl := (HB1.out.grown HG.out hw1 (fun k hk => by
    cases A with
    | none => cases hk
    | some a => injection hk with hk; subst hk; exact (OwnN.lt HO.out rfl).1))
  refine ⟨⟨_, rfl⟩, ⟨⟨_, A2, c2, ?_, Or.inr rfl, ?_⟩, hl⟩, hbl.setCell (p := ⟨b, 1, none⟩) hl _, HKP1.out.trans fun tys h1 h2 => Kept.trans (Kept.grown HG.out HO.out h2) (Kept.set HB2.out h1)⟩
  · rw [Dag.blk_set HB2.out 1 _, List.length_append]
    rfl
  · rw [List.length_append]
    exact OwnN.keep HO2.out fun k cs hk => Dag.blk_other (ty_ne hk HB2.out (by decide))

/-- append of one byte onto a row of one's own -/
theorem wpList_byte {w : World} {ops : Array Oper} {rest : List Oper} {o : Oper} {a : Act} {Q : Exit → Act → World → Prop} (hgd : o.guard = none) (s x : Operand)
    (ho : o.op = .call { callee := .builtin .append, args := #[s, x], argTypes := #[97, 97] })
    (base : Nat) (A : Option Addr) (n c : Nat) (us : List Value) (hs : a.eval s = .slice A n c) (hown : OwnN w base 5 1 A n c us) (g cx : Nat) (u : Value) (hx : a.eval x = .slice (some ⟨g, 0, none⟩) 1 cx)
    (hr : ∃ ty, w.heap[g]? = some (Obj.cells #[u] ty (0, 0))) (hone : u.oneCell' = true) (hlen : n + 1 ≤ 140737488355328) (hbase : base ≤ w.heap.size)
    (h : ∀ (A' : Option Addr) (c' : Nat) (w' : World), OwnN w' base 5 1 A' (n + 1) c' (us ++ [u]) → w.grownBy w' (Value.slice A n c).ownBlock → Below base w w' → wpList Tryz.prog ops Q rest (a.put o.dst (.slice A' (n + 1) c')) w') :
    wpList Tryz.prog ops Q (o :: rest) a w := by
  obtain ⟨i0, hi0, hz0, hz1, hz2⟩ := info_parts info_u8
  obtain ⟨ty, hr⟩ := hr
  refine wpList_append_own_at w hgd s x _ ho base _ i0 _ 1 1 Tryz.underlying97 hi0 hz0 hz1 hz2 rfl (by decide) _ n us hs hown ⟨g, 0, none⟩ 1 cx [u] hx rfl ?_ (by simpa using hone) (by simp only [maxLen]; omega) (by omega) hbase ?_
  · intro j v hv
    rw [Go.WideShapes.add_plain, Nat.zero_add, Dag.blk_cell hr]
    simpa using hv
  · intro v' w' hown' hg _ hb
    rcases hown'.2 with ⟨hv, h0⟩ | ⟨g2, cap, cur, hv, hbg, hh, rst⟩
    · omega
    · subst hv
      exact h _ _ w' hown' hg ((Below.refl _ _).grown hg hbase fun k hk => by
        cases A with
        | none => cases hk
        | some a' => injection hk with hk; subst hk; exact (OwnN.lt hown rfl).1)
set_option maxHeartbeats 1000000 in
theorem writeB_any (x : UInt8) (w : World) (base b : Nat) (l : List UInt8) (h : Pg w base b l) (hw : base ≤ w.heap.size) (hlen : l.length + 1 ≤ 140737488355328) :
    Calls Tryz.prog 104 #[.pointer (some ⟨b, 0, none⟩), .int .u8 x.toNat] w fun e w' => (∃ v, e = .returned v) ∧ Pg w' base b (l ++ [x]) ∧ Below base w w' ∧ KeptP w w' := by
  have H := Lib.hid h
  have hl := h.low
  clear h
  go_enter Tryz.func104, Tryz.ntmps104
  go_wp2_with fail
  refine (copyCheck_any _ base b l H.out hw).mono ?_
  rintro e w1 ⟨rfl, hb1, hkp1, A, c, hblk, ho⟩
  have HKP1 := Lib.hid hkp1; clear hkp1
  have c0 := Dag.blk_cell hblk 0
  have c1 := Dag.blk_cell hblk 1
  simp only [List.getElem?_toArray, List.getElem?_cons_succ, List.getElem?_cons_zero] at c0 c1
  have hlt := Dag.blk_lt hblk
  have HB := Lib.hid hblk; have HO := Lib.hid ho; have HB1 := Lib.hid hb1
  have hw1 : base ≤ w1.heap.size := Nat.le_trans hw hb1.size
  have HOW := Lib.hid (show ∀ W : World, (∃ o, W.heap = w1.heap.push o) → OwnN W base 5 1 A l.length c (bcs l) from fun W ⟨o, ho'⟩ => ho.keep fun k cs hk => by rw [ho']; exact push_lt hk)
  clear hblk ho hb1
  go_wp2_with (at_builtin; refine wpList_byte rfl _ _ rfl base A l.length c (bcs l) rfl (HOW.out _ ⟨_, rfl⟩) w1.heap.size 1 (.int .u8 x.toNat) rfl ⟨_, heap_alloc_new w1 _⟩ rfl hlen (by simp; omega) ?_; intro A2 c2 w2 hown' hgrow hbb; have hk2 := pushed_kept ⟨_, rfl⟩ HO.out hgrow [101] (by decide); have hb2 := (hk2.1 _ (by simp) b _ HB.out).trans HB.out; have d1 := Dag.blk_cell hb2 1; have f1 := Dag.blk_frozen hb2 1; simp only [List.getElem?_toArray, List.getElem?_cons_succ, List.getElem?_cons_zero] at d1; have hlt2 := Dag.blk_lt hb2; have HB2 := Lib.hid hb2; have HO2 := Lib.hid hown'; have HG := Lib.hid (pushed_trans hbb ⟨_, rfl⟩ rfl rfl rfl HB1.out hw1); have HKP2 : Hid (∀ tys, 5 ∉ tys → Kept tys w1 w2) := Lib.hid (fun tys ht => (pushed_kept ⟨_, rfl⟩ HO.out hgrow tys ht).1); clear hk2 hb2 hown' hgrow hbb c0 c1)
  go_ret
  refine ⟨⟨_, rfl⟩, ⟨⟨_, A2, c2, ?_, Or.inr rfl, ?_⟩, hl⟩, HG.out.setCell (p := ⟨b, 1, none⟩) hl _, HKP1.out.trans fun tys h1 h2 => Kept.trans (HKP2.out tys h2) (Kept.set HB2.out h1)⟩
  · rw [Dag.blk_set HB2.out 1 _, List.length_append]
    rfl
  · rw [List.length_append, bcs_app]
    exact OwnN.keep HO2.out fun k cs hk => Dag.blk_other (ty_ne hk HB2.out (by decide))
theorem cells_u8 : Tryz.prog.cellsOf 5 = 1 := by kernel_rfl
set_option maxHeartbeats 1000000 in
theorem string_any (w : World) (base b : Nat) (l : List UInt8) (h : Pg w base b l) (h0 : l ≠ []) :
    Calls Tryz.prog 70 #[.pointer (some ⟨b, 0, none⟩)] w fun e w' => e = .returned (.string (sb l)) ∧ Below base w w' := by
  obtain ⟨p, A, c, hb, _, ho⟩ := h.ex
  have hl0 : l.length ≠ 0 := by simpa using h0
  obtain ⟨g, cap, cur, hv, hbg, hg, hnc, hcm, hcs, htake⟩ : ∃ g cap cur, (Value.slice A l.length c) = .slice (some ⟨g, 0, none⟩) l.length cap ∧ base ≤ g ∧ w.heap[g]? = some (Obj.cells cur 5 (0, 0)) ∧ l.length ≤ cap ∧ cap ≤ maxLen ∧ cur.size = cap * 1 ∧ cur.toList.take (l.length * 1) = bcs l := by
    rcases ho.2 with ⟨_, hz⟩ | ⟨g, cap, cur, hv, r⟩
    · exact absurd hz hl0
    · exact ⟨g, cap, cur, hv, r⟩
  injection hv with e1 e2 e3
  subst e1 e3
  have c1 : w.drew.cell? ⟨b, 1, none⟩ = some (.slice (some ⟨g, 0, none⟩) l.length c) := Dag.blk_cell (w := w.drew) hb 1
  have hSD : (Builtin.unsafeSliceData_ #[97] 145 #[.slice (some ⟨g, 0, none⟩) l.length c]).run Tryz.prog w.drew = .ok (.pointer (some ⟨g, 0, none⟩)) w.drew :=
    Lib.run_unsafeSliceData_row _ _ _ _ _ _ (by omega)
  have hUS : (Builtin.unsafeString_ #[145, 3] 9 #[.pointer (some ⟨g, 0, none⟩), .int .i64 l.length]).run Tryz.prog w.drew = .ok (.string (sb l)) (w.drew.freeze ⟨g, 0, none⟩ l.length) := by
    refine Lib.run_unsafeString_row w.drew 145 3 9 5 Tryz.underlying145 cells_u8 g cur.size (by have hg' : w.drew.heap[g]? = some (Obj.cells cur 5 (0, 0)) := hg; simp [World.shape?, hg']) l h0 (by omega) (by unfold maxLen at hcm; omega) ?_
    intro j x hx
    obtain ⟨g2, e2, _, _, hc, _⟩ := ho.at_ (i := j) (u := .int .u8 x.toNat) (by simp [bcs, hx])
    injection e2 with e2; injection e2 with e2; subst e2
    rw [Go.WideShapes.add_plain, Nat.zero_add]
    exact hc
  have HSB := Lib.hid (Lib.below_freeze (Below.drew (Below.refl base w)) (p := ⟨g, 0, none⟩) hbg l.length)
  clear h ho hb hg htake hcs hnc hcm
  go_enter Tryz.func70, Tryz.ntmps70
  go_wp2
  go_region
  all_goals (go_wp2; go_ret; exact ⟨rfl, HSB.out⟩)

end Go.Proofs.YtkcijibkloamkaaGreatDoor

/- One line on a page. -/
namespace Go.Proofs.YtkcijibkloamkaaGreatDoor
open Go.RowKit
open Txt (joinL sumZ)
set_option linter.unusedVariables false
set_option maxRecDepth 100000

theorem strs_words {w : World} {A : Option Addr} {c : Nat} {l : List (List UInt8)} (h : Words w A c l) : Txt.Strs w A (l.map sb) := by
  intro k x hx
  rw [List.getElem?_map] at hx
  cases hl : l[k]? with
  | none => rw [hl] at hx; cases hx
  | some s =>
    rw [hl] at hx
    injection hx with hx
    subst hx
    obtain ⟨b, off, s', e, hs, hc⟩ := h.at_ (k := k) (List.getElem?_eq_some_iff.1 hl).1
    rw [hl] at hs; injection hs with hs; subst hs
    exact ⟨b, off, e, World.block_lt_of_cell? w _ hc, hc⟩
def sumW : List (List UInt8) → Nat
  | [] => 0
  | x :: l => 1 + x.length + sumW l
theorem sumW_eq : ∀ l : List (List UInt8), sumZ (l.map sb) = sumW l
  | [] => rfl
  | x :: l => by simp only [List.map_cons, sumZ, sumW, sumW_eq l, sb_size]; omega
theorem map_lst (l : List (List UInt8)) : (l.map sb).map Txt.lst = l := by
  rw [List.map_map]
  have : Txt.lst ∘ sb = id := by funext x; exact sb_list x
  rw [this, List.map_id]
theorem jn_any (l : List (List UInt8)) (n : Nat) (hn : l.length = n) (w : World) (A : Option Addr) (c : Nat) (h : Words w A c l) (hs : sumW l ≤ 1100000) :
    Calls Tryz.prog 105 #[.slice A n c] w fun e w' => e = .returned (.string (sb (joinL l))) ∧ Below w.heap.size w w' := by
  have hj := Txt.join_any A c (l.map sb) w (strs_words h) (by rw [List.length_map]; exact h.len) (by rw [sumW_eq]; exact hs)
  rw [List.length_map, hn, map_lst] at hj
  exact hj

theorem Words.keptT {w w' : World} {A : Option Addr} {c : Nat} {l : List (List UInt8)} (h : Words w A c l) (ht : TypS w A) (hk : Kept [9] w w') : Words w' A c l ∧ TypS w' A := by
  refine ⟨⟨fun k u hu => ?_, Dag.Sl.cap h, Dag.Sl.top h, Dag.Sl.nil h⟩, fun a ha => ?_⟩
  · obtain ⟨b, off, e, hc⟩ := h.cells k u hu
    obtain ⟨cs, hcs⟩ := ht _ e
    exact ⟨b, off, e, (cell_keep (p := ⟨b, off + k, none⟩) (show w'.heap[b]? = w.heap[b]? from hk _ (by simp) b cs hcs)).trans hc⟩
  · obtain ⟨cs, hcs⟩ := ht a ha
    exact ⟨cs, (hk _ (by simp) _ cs hcs).trans hcs⟩
theorem joinL_sum : ∀ l : List (List UInt8), (joinL l).length ≤ sumW l := fun l => by
  have := Txt.joinL_len (l.map sb)
  rw [map_lst, sumW_eq] at this
  exact this
theorem kwB_le (k : Nat) : (kwB k).length ≤ 8 := by unfold kwB; split <;> simp

set_option maxHeartbeats 3200000 in
theorem pline_any (k : Nat) (hk : k < 9) (ws : List (List UInt8)) (n : Nat) (hn : ws.length = n) (w : World) (base b : Nat) (l : List UInt8) (h : Pg w base b l) (hw : base ≤ w.heap.size) (A : Option Addr) (c : Nat) (hW : Words w A c ws) (hT : TypS w A) (hs : sumW ws ≤ 1100000) (hl : l.length ≤ 100000000000000) (hS : TabS w) :
    Calls Tryz.prog 66 #[.pointer (some ⟨b, 0, none⟩), .int .i64 (k : Int), .slice A n c] w fun e w' => e = .returned (.tuple #[]) ∧ Pg w' base b (l ++ lnL k ws) ∧ Below base w w' ∧ KeptP w w' := by
  subst hn
  obtain ⟨q0, q1, q2, q3⟩ := hS k hk
  have H := Lib.hid h; have HW := Lib.hid hW; have HT := Lib.hid hT
  have hgl := hS.lt
  have hkl := kwB_le k
  have hk2 : (k : Int) < 9 := by omega
  have hjl := joinL_sum ws
  clear h hW hS q1 q2 q3 hT
  go_enter Tryz.func66, Tryz.ntmps66
  go_wp2_with fail
  go_still_tail 7, (by kernel_rfl)
  change wpList _ _ _ _ _ w.drew
  have hbq := drew_below w
  generalize w.drew = wd at hbq
  have HD := Lib.hid (H.out.below hbq)
  have hwd : base ≤ wd.heap.size := Nat.le_trans hw hbq.size
  have HBD := Lib.hid (hbq.mono hw)
  have HKD := Lib.hid (KeptP.below hbq)
  clear hbq q0
  go_wp2_with fail
  refine (writeS_any (kwB k) _ base b l HD.out hwd (by omega)).mono ?_
  rintro e w1 ⟨⟨v1, rfl⟩, h1, hb1, hk1⟩
  have H1 := Lib.hid h1; have HB1 := Lib.hid (HBD.out.trans hb1); have HK1 := Lib.hid (HKD.out.trans hk1)
  have hw1 : base ≤ w1.heap.size := Nat.le_trans hwd hb1.size
  clear h1 hb1 hk1
  go_wp2_with fail
  refine (writeB_any 32 _ base b (l ++ kwB k) H1.out hw1 (by rw [List.length_append]; omega)).mono ?_
  rintro e w2 ⟨⟨v2, rfl⟩, h2, hb2, hk2⟩
  have H2 := Lib.hid h2; have HB2 := Lib.hid (HB1.out.trans hb2); have HK2 := Lib.hid (HK1.out.trans hk2)
  have hw2 : base ≤ w2.heap.size := Nat.le_trans hw1 hb2.size
  clear h2 hb2 hk2
  have HW2 := Lib.hid (HW.out.keptT HT.out (HK2.out _ (by decide) (by decide)))
  go_wp2_with fail
  refine wp_region_parts (fun (_ : World) => True) 4 6 (by kernel_rfl) (by kernel_rfl) (fun _ _ d _ _ h => by cases d <;> exact h) trivial ?_
  simp only [List.take_succ_cons, List.take_zero, List.drop_succ_cons, List.drop_zero]
  iterate 4 (refine wpLead_step (v := ?_) (by rfl) ?_ ?_; rotate_left; (intro W hW; go_simp; (try with_reducible rfl)); try simp only [Act.put, List.setIfInBounds_toArray, List.set_cons_zero, List.set_cons_succ])
  intro K hK
  go_simp
  refine (jn_any ws _ rfl _ A c (HW2.out.1.below (drew_below w2)) hs).mono ?_
  rintro e w3 ⟨rfl, hb3⟩
  refine hK.out _ _ trivial ?_
  clear hK K
  try simp only [Act.put, List.setIfInBounds_toArray, List.set_cons_zero, List.set_cons_succ]
  have hb23 := blw (drew_below w2) hb3
  have H3 := Lib.hid (H2.out.below hb23); have HB3 := Lib.hid (HB2.out.trans (hb23.mono hw2)); have HK3 := Lib.hid (HK2.out.trans (KeptP.below hb23))
  have hw3 : base ≤ w3.heap.size := Nat.le_trans hw2 hb23.size
  clear hb23 hb3
  intro K hK
  go_simp
  refine (writeS_any (joinL ws) _ base b (l ++ kwB k ++ [32]) H3.out hw3 (by simp only [List.length_append, List.length_cons, List.length_nil]; omega)).mono ?_
  rintro e w4 ⟨⟨v4, rfl⟩, h4, hb4, hk4⟩
  refine hK.out _ _ trivial (wpMid_nil ?_)
  clear hK K
  try simp only [Act.put, List.setIfInBounds_toArray, List.set_cons_zero, List.set_cons_succ]
  have H4 := Lib.hid h4; have HB4 := Lib.hid (HB3.out.trans hb4); have HK4 := Lib.hid (HK3.out.trans hk4)
  have hw4 : base ≤ w4.heap.size := Nat.le_trans hw3 hb4.size
  clear h4 hb4 hk4
  go_wp2_with fail
  refine (writeB_any 10 _ base b (l ++ kwB k ++ [32] ++ joinL ws) H4.out hw4 (by simp only [List.length_append, List.length_cons, List.length_nil]; omega)).mono ?_
  rintro e w5 ⟨⟨v5, rfl⟩, h5, hb5, hk5⟩
  go_wp2
  refine ⟨rfl, _, results_none rfl _ _ _, rfl, ?_, HB4.out.trans hb5, HK4.out.trans hk5⟩
  have e1 : l ++ lnL k ws = l ++ kwB k ++ [32] ++ joinL ws ++ [10] := by unfold lnL; simp
  rw [e1]
  exact h5

end Go.Proofs.YtkcijibkloamkaaGreatDoor

/- A number, a task on a page. -/
namespace Go.Proofs.YtkcijibkloamkaaGreatDoor
open Go.RowKit
open Txt (joinL sumZ)
open Clk (textL)
open Dag (Own1 Sl)
set_option linter.unusedVariables false
set_option maxRecDepth 100000

theorem txt_any (t : Int) (w : World) :
    Calls Tryz.prog 106 #[.int .i64 t] w fun e w' => e = .returned (.string (sb (textL t))) ∧ Below w.heap.size w w' := by
  refine (Clk.text_any t w).mono ?_
  rintro e w' h
  exact h

theorem Pg.keepT {w w' : World} {base b : Nat} {l : List UInt8} (h : Pg w base b l) (hk : Kept [101, 5] w w') : Pg w' base b l := by
  obtain ⟨p, A, c, h1, h2, h3⟩ := h.ex
  exact ⟨⟨p, A, c, (hk _ (by simp) b _ h1).trans h1, h2, h3.keep (hk _ (by simp))⟩, h.low⟩
theorem sumW_app (a b : List (List UInt8)) : sumW (a ++ b) = sumW a + sumW b := by
  induction a with
  | nil => simp [sumW]
  | cons x a ih => simp only [List.cons_append, sumW, ih]; omega
theorem textL_len (x : Int) : (textL x).length ≤ 100 := by
  unfold textL
  split
  · rename_i h
    unfold Clk.isT at h
    simp only [Bool.and_eq_true, decide_eq_true_eq] at h
    have := Clk.txt_bound (n := x.toNat) (by omega)
    omega
  · simp
/-- all blocks but pages, rows of bytes and rows of words are as they were -/
def KeptQ (w w' : World) : Prop := ∀ tys, 101 ∉ tys → 5 ∉ tys → 9 ∉ tys → Kept tys w w'
theorem KeptQ.trans {a b c : World} (h : KeptQ a b) (k : KeptQ b c) : KeptQ a c := fun tys h1 h2 h3 => Kept.trans (h tys h1 h2 h3) (k tys h1 h2 h3)
theorem KeptP.q {w w' : World} (h : KeptP w w') : KeptQ w w' := fun tys h1 h2 _ => h tys h1 h2
theorem KeptQ.below {w w' : World} (hb : Below w.heap.size w w') : KeptQ w w' := fun tys _ _ _ => Kept.below hb

set_option maxHeartbeats 3200000 in
theorem pnum_any (k : Nat) (hk : k < 9) (x : Int) (name : List (List UInt8)) (n : Nat) (hn : name.length = n) (w : World) (base b : Nat) (l : List UInt8) (h : Pg w base b l) (hw : base ≤ w.heap.size) (A : Option Addr) (c : Nat) (hO : Own1 w base 9 (.slice A n c) (strs name)) (hs : sumW name ≤ 1000000) (hn1 : n ≤ 10) (hl : l.length ≤ 100000000000000) (hS : ∀ w', Below base w w' → TabS w') :
    Calls Tryz.prog 67 #[.pointer (some ⟨b, 0, none⟩), .int .i64 (k : Int), .int .i64 x, .slice A n c] w fun e w' => e = .returned (.tuple #[]) ∧ Pg w' base b (l ++ numL k x name) ∧ Below base w w' ∧ KeptQ w w' := by
  subst hn
  obtain ⟨q0, q1, q2, q3⟩ := (hS w (Below.refl _ _)) k hk
  have hgl := (hS w (Below.refl _ _)).lt
  have hk2 : (k : Int) < 9 := by omega
  have H := Lib.hid h; have HO := Lib.hid hO; have HS := Lib.hid hS
  clear h hO hS q0 q1 q3
  by_cases hx : x = leastN k
  · have hxb : (x != leastN k) = false := by simp [hx]
    have HN := Lib.hid (show l ++ numL k x name = l from by unfold numL; rw [if_neg (by simp [hx])]; simp)
    clear hx
    go_enter Tryz.func67, Tryz.ntmps67
    go_wp2
    exact ⟨rfl, _, results_none rfl _ _ _, rfl, by rw [HN.out]; exact H.out, Below.refl _ _, fun tys _ _ _ ty _ b cs _ => rfl⟩
  · have hxb : (x != leastN k) = true := by simp [hx]
    have HN := Lib.hid (show l ++ numL k x name = l ++ lnL k (name ++ [textL x]) from by unfold numL; rw [if_pos hx])
    clear hx
    go_enter Tryz.func67, Tryz.ntmps67
    go_wp2_with fail
    refine (txt_any x _).mono ?_
    rintro e w1 ⟨rfl, hb1⟩
    have HO1 := Lib.hid (HO.out.below hb1)
    have H1 := Lib.hid (H.out.below hb1)
    have HB1 := Lib.hid (hb1.mono hw)
    have HK1 := Lib.hid (KeptQ.below hb1)
    have hw1 : base ≤ w1.heap.size := Nat.le_trans hw hb1.size
    have hsl : (strs name).length = name.length := strs_len name
    have HSL := Lib.hid hsl
    clear hb1 hsl q2
    go_wp2_with (first
      | (at_builtin; refine Dag.wpList_appg rfl _ _ 51 9 (.string ⟨#[]⟩) 16 Tryz.underlying51 info_str rfl (by decide) rfl base (.slice A name.length c) (strs name) rfl (HO1.out.below (al _ _)) (some ⟨w1.heap.size, 0, none⟩) 1 1 [.string (sb (textL x))] rfl rfl (Sl.one rfl) (by simp [Value.oneCell']) (by rw [HSL.out]; simp only [List.length_cons, List.length_nil]; omega) (by simp; omega) ?_; intro l2 A2 c2 w2 el ho2 hg2 _ hbl2; have hkk := pushed_kept (n := (strs name).length) ⟨_, rfl⟩ (by have := HO1.out; unfold Own1 at this; rw [HSL.out] at this ⊢; exact this) (by rw [HSL.out]; exact hg2) [101, 5] (by decide); have HKK := Lib.hid hkk.1; have HKQ : Hid (KeptQ w1 w2) := Lib.hid (fun tys _ _ h3 => (pushed_kept (n := (strs name).length) ⟨_, rfl⟩ (by have := HO1.out; unfold Own1 at this; rw [HSL.out] at this ⊢; exact this) (by rw [HSL.out]; exact hg2) tys h3).1); have HO2 := Lib.hid ho2; have EL := Lib.hid el; have HBL := Lib.hid (pushed_trans hbl2 ⟨_, rfl⟩ rfl rfl rfl HB1.out hw1); clear ho2 hg2 hbl2 el hkk)
      | fail)
    have e2 : l2 = strs (name ++ [textL x]) := by rw [EL.out, strs_app]; rfl
    have hl2 : l2.length = name.length + 1 := by rw [e2, strs_len]; simp
    have hO2 := HO2.out
    rw [e2, strs_len] at hO2
    rw [hl2]
    have hW2 : Words w2 A2 c2 (name ++ [textL x]) := (Own1.sl hO2).2
    refine (pline_any k hk (name ++ [textL x]) _ (by simp) _ base b l (H1.out.keepT HKK.out) (Nat.le_trans hw HBL.out.size) A2 c2 hW2 (typS_own hO2) ?_ hl (HS.out _ HBL.out)).mono ?_
    · rw [sumW_app]
      have := textL_len x
      simp only [sumW]; omega
    rintro e w3 ⟨rfl, h3, hb3, hk3⟩
    go_wp2
    exact ⟨rfl, _, results_none rfl _ _ _, rfl, by rw [HN.out]; exact h3, HBL.out.trans hb3, (HK1.out.trans HKQ.out).trans hk3.q⟩

end Go.Proofs.YtkcijibkloamkaaGreatDoor

/- A task on a page. -/
namespace Go.Proofs.YtkcijibkloamkaaGreatDoor
open Go.RowKit
open Dag (Own1 Sl)
open Clk (textL)
set_option linter.unusedVariables false
set_option maxRecDepth 100000

theorem alloc_at {W : World} {o : Obj} {g : Nat} (hg : W.heap.size = g) : (W.alloc o).heap[g]? = some o := by subst hg; exact heap_alloc_new W o
theorem lit1_w {w : World} {s : List UInt8} {g : Nat} (hg : w.heap.size = g) : Words (w.alloc (.cells #[.string (sb s)] 9)) (some ⟨g, 0, none⟩) 1 [s] := Sl.one hg
theorem lit1_t {w : World} {s : List UInt8} {g : Nat} (hg : w.heap.size = g) : TypS (w.alloc (.cells #[.string (sb s)] 9)) (some ⟨g, 0, none⟩) := fun a ha => by
  injection ha with ha; subst ha; exact ⟨_, alloc_at hg⟩
theorem lit1_o {w : World} {s : List UInt8} {g base : Nat} (hg : w.heap.size = g) (hb : base ≤ w.heap.size) : Own1 (w.alloc (.cells #[.string (sb s)] 9)) base 9 (.slice (some ⟨g, 0, none⟩) 1 1) (strs [s]) := by
  have := Own1.litm w base 9 hb (strs [s]) (n := 1) rfl hg (by simp [maxLen])
  simpa [strs] using this
/-- block T is a task in an object -/
def TObj (w : World) (T : Nat) (t : TaskD) (A : Option Addr) (c : Nat) : Prop := w.heap[T]? = some (Obj.cells #[.string (sb t.name), .int .i64 t.nodes, .int .i64 t.wall, .int .i64 t.retry, .bool t.done, .slice A t.after.length c] 48 (0, 0))
theorem TObj.cells {w : World} {T : Nat} {t : TaskD} {A : Option Addr} {c : Nat} (h : TObj w T t A c) : w.cell? ⟨T, 0, none⟩ = some (.string (sb t.name)) ∧ w.cell? ⟨T, 1, none⟩ = some (.int .i64 t.nodes) ∧ w.cell? ⟨T, 2, none⟩ = some (.int .i64 t.wall) ∧ w.cell? ⟨T, 3, none⟩ = some (.int .i64 t.retry) ∧ w.cell? ⟨T, 4, none⟩ = some (.bool t.done) ∧ w.cell? ⟨T, 5, none⟩ = some (.slice A t.after.length c) :=
  ⟨Dag.blk_cell h 0, Dag.blk_cell h 1, Dag.blk_cell h 2, Dag.blk_cell h 3, Dag.blk_cell h 4, Dag.blk_cell h 5⟩
theorem TObj.keep {w w' : World} {T : Nat} {t : TaskD} {A : Option Addr} {c : Nat} (h : TObj w T t A c) (k : KeptQ w w') : TObj w' T t A c := (k [48] (by decide) (by decide) (by decide) _ (by simp) T _ h).trans h
theorem lnL_len (k : Nat) (ws : List (List UInt8)) : (lnL k ws).length ≤ 20 + sumW ws := by
  unfold lnL
  simp only [List.length_append, List.length_cons, List.length_nil]
  have := kwB_le k
  have := joinL_sum ws
  omega
theorem numL_len (k : Nat) (x : Int) (ws : List (List UInt8)) : (numL k x ws).length ≤ 200 + sumW ws := by
  unfold numL
  split
  · have := lnL_len k (ws ++ [textL x])
    rw [sumW_app] at this
    have h2 := textL_len x
    simp only [sumW] at this
    omega
  · simp

set_option maxHeartbeats 6400000 in
theorem ptask_any (t : TaskD) (w : World) (base b : Nat) (l : List UInt8) (h : Pg w base b l) (hw : base ≤ w.heap.size) (A : Option Addr) (c : Nat) (hs : t.name.length ≤ 900000) (hl : l.length ≤ 10000000000000) (hS : ∀ w', Below base w w' → TabS w') :
    Calls Tryz.prog 68 #[.pointer (some ⟨b, 0, none⟩), .agg #[.string (sb t.name), .int .i64 t.nodes, .int .i64 t.wall, .int .i64 t.retry, .bool t.done, .slice A t.after.length c]] w fun e w' => e = .returned (.tuple #[]) ∧ Pg w' base b (l ++ taskL t) ∧ Below base w w' ∧ KeptQ w w' := by
  have H := Lib.hid h; have HS := Lib.hid hS; have HW := Lib.hid hw
  have hsw : sumW [t.name] = 1 + t.name.length := by simp only [sumW]; omega
  have e3 := lnL_len 3 [t.name]; have e4 := numL_len 4 t.nodes [t.name]; have e5 := numL_len 5 t.wall [t.name]; have e6 := numL_len 6 t.retry [t.name]
  have HSW := Lib.hid hsw; have E3 := Lib.hid e3; have E4 := Lib.hid e4; have E5 := Lib.hid e5; have E6 := Lib.hid e6
  clear h hS e3 e4 e5 e6 hsw
  rcases (by cases t.done <;> simp : t.done = false ∨ t.done = true) with hd | hd
  · skip
    have HE := Lib.hid (show l ++ taskL t = l ++ lnL 3 [t.name] ++ numL 4 t.nodes [t.name] ++ numL 5 t.wall [t.name] ++ numL 6 t.retry [t.name] from by unfold taskL; simp [hd])
    have HD := Lib.hid hd
    clear hd
    go_enter Tryz.func68, Tryz.ntmps68
    go_wp2_with fail
    refine (pline_any 3 (by decide) [t.name] 1 rfl _ base b l (H.out.below (blw (al _ _) (al _ _))) (by simp; have := HW.out; omega) _ 1 (lit1_w (by simp)) (lit1_t (by simp)) (by have := HSW.out; omega) (by omega) (HS.out _ ((blw (al _ _) (al _ _)).mono HW.out))).mono ?_
    rintro e w1 ⟨rfl, h1, hb1, hk1⟩
    have HB1 := Lib.hid ((blw (al w _) (al _ _)).mono HW.out |>.trans hb1)
    have HK1 := Lib.hid ((KeptQ.below (blw (al w _) (al _ _))).trans hk1.q)
    have HT1 : Hid (TObj w1 w.heap.size t A c) := Lib.hid (TObj.keep (((al (w.alloc _) _).block _ (by simp)).trans (heap_alloc_new w _)) hk1.q)
    have H1 := Lib.hid h1
    have hw1 : base ≤ w1.heap.size := Nat.le_trans HW.out HB1.out.size
    have HW1 := Lib.hid hw1
    clear h1 hb1 hk1 hw1
    obtain ⟨c0, c1, c2, c3, c4, c5⟩ := HT1.out.cells
    go_wp2_with fail
    refine (pnum_any 4 (by decide) t.nodes [t.name] 1 rfl _ base b (l ++ lnL 3 [t.name]) (H1.out.below (al _ _)) (by simp; have := HW1.out; omega) _ 1 (lit1_o rfl HW1.out) (by have := HSW.out; omega) (by omega) (by have := E3.out; have := HSW.out; simp only [List.length_append]; omega) (fun w' hb => HS.out _ (HB1.out.trans (((al _ _).mono HW1.out).trans hb)))).mono ?_
    rintro e w2 ⟨rfl, h2, hb2, hk2⟩
    have HB2 := Lib.hid (HB1.out.trans (((al _ _).mono HW1.out).trans hb2))
    have HK2 := Lib.hid (HK1.out.trans ((KeptQ.below (al _ _)).trans hk2))
    have HT2 := Lib.hid (HT1.out.keep ((KeptQ.below (al _ _)).trans hk2))
    have H2 := Lib.hid h2
    have hw2 : base ≤ w2.heap.size := Nat.le_trans HW.out HB2.out.size
    have HW2 := Lib.hid hw2
    clear h2 hb2 hk2 hw2 c0 c1 c2 c3 c4 c5
    obtain ⟨c0, c1, c2, c3, c4, c5⟩ := HT2.out.cells
    go_wp2_with fail
    refine (pnum_any 5 (by decide) t.wall [t.name] 1 rfl _ base b (l ++ lnL 3 [t.name] ++ numL 4 t.nodes [t.name]) (H2.out.below (al _ _)) (by simp; have := HW2.out; omega) _ 1 (lit1_o rfl HW2.out) (by have := HSW.out; omega) (by omega) (by have := E3.out; have := HSW.out; have := E4.out; simp only [List.length_append]; omega) (fun w' hb => HS.out _ (HB2.out.trans (((al _ _).mono HW2.out).trans hb)))).mono ?_
    rintro e w3 ⟨rfl, h3, hb3, hk3⟩
    have HB3 := Lib.hid (HB2.out.trans (((al _ _).mono HW2.out).trans hb3))
    have HK3 := Lib.hid (HK2.out.trans ((KeptQ.below (al _ _)).trans hk3))
    have HT3 := Lib.hid (HT2.out.keep ((KeptQ.below (al _ _)).trans hk3))
    have H3 := Lib.hid h3
    have hw3 : base ≤ w3.heap.size := Nat.le_trans HW.out HB3.out.size
    have HW3 := Lib.hid hw3
    clear h3 hb3 hk3 hw3 c0 c1 c2 c3 c4 c5
    obtain ⟨c0, c1, c2, c3, c4, c5⟩ := HT3.out.cells
    go_wp2_with fail
    refine (pnum_any 6 (by decide) t.retry [t.name] 1 rfl _ base b (l ++ lnL 3 [t.name] ++ numL 4 t.nodes [t.name] ++ numL 5 t.wall [t.name]) (H3.out.below (al _ _)) (by simp; have := HW3.out; omega) _ 1 (lit1_o rfl HW3.out) (by have := HSW.out; omega) (by omega) (by have := E3.out; have := HSW.out; have := E4.out; have := E5.out; simp only [List.length_append]; omega) (fun w' hb => HS.out _ (HB3.out.trans (((al _ _).mono HW3.out).trans hb)))).mono ?_
    rintro e w4 ⟨rfl, h4, hb4, hk4⟩
    have HB4 := Lib.hid (HB3.out.trans (((al _ _).mono HW3.out).trans hb4))
    have HK4 := Lib.hid (HK3.out.trans ((KeptQ.below (al _ _)).trans hk4))
    have HT4 := Lib.hid (HT3.out.keep ((KeptQ.below (al _ _)).trans hk4))
    have H4 := Lib.hid h4
    have hw4 : base ≤ w4.heap.size := Nat.le_trans HW.out HB4.out.size
    have HW4 := Lib.hid hw4
    clear h4 hb4 hk4 hw4 c0 c1 c2 c3 c4 c5
    obtain ⟨c0, c1, c2, c3, c4, c5⟩ := HT4.out.cells
    rw [HD.out] at c4
    go_wp2
    exact ⟨rfl, _, results_none rfl _ _ _, rfl, by rw [HE.out]; exact H4.out, HB4.out, HK4.out⟩
  · skip
    have HE := Lib.hid (show l ++ taskL t = l ++ lnL 3 [t.name] ++ numL 4 t.nodes [t.name] ++ numL 5 t.wall [t.name] ++ numL 6 t.retry [t.name] ++ lnL 7 [t.name] from by unfold taskL; simp [hd])
    have HD := Lib.hid hd
    clear hd
    go_enter Tryz.func68, Tryz.ntmps68
    go_wp2_with fail
    refine (pline_any 3 (by decide) [t.name] 1 rfl _ base b l (H.out.below (blw (al _ _) (al _ _))) (by simp; have := HW.out; omega) _ 1 (lit1_w (by simp)) (lit1_t (by simp)) (by have := HSW.out; omega) (by omega) (HS.out _ ((blw (al _ _) (al _ _)).mono HW.out))).mono ?_
    rintro e w1 ⟨rfl, h1, hb1, hk1⟩
    have HB1 := Lib.hid ((blw (al w _) (al _ _)).mono HW.out |>.trans hb1)
    have HK1 := Lib.hid ((KeptQ.below (blw (al w _) (al _ _))).trans hk1.q)
    have HT1 : Hid (TObj w1 w.heap.size t A c) := Lib.hid (TObj.keep (((al (w.alloc _) _).block _ (by simp)).trans (heap_alloc_new w _)) hk1.q)
    have H1 := Lib.hid h1
    have hw1 : base ≤ w1.heap.size := Nat.le_trans HW.out HB1.out.size
    have HW1 := Lib.hid hw1
    clear h1 hb1 hk1 hw1
    obtain ⟨c0, c1, c2, c3, c4, c5⟩ := HT1.out.cells
    go_wp2_with fail
    refine (pnum_any 4 (by decide) t.nodes [t.name] 1 rfl _ base b (l ++ lnL 3 [t.name]) (H1.out.below (al _ _)) (by simp; have := HW1.out; omega) _ 1 (lit1_o rfl HW1.out) (by have := HSW.out; omega) (by omega) (by have := E3.out; have := HSW.out; simp only [List.length_append]; omega) (fun w' hb => HS.out _ (HB1.out.trans (((al _ _).mono HW1.out).trans hb)))).mono ?_
    rintro e w2 ⟨rfl, h2, hb2, hk2⟩
    have HB2 := Lib.hid (HB1.out.trans (((al _ _).mono HW1.out).trans hb2))
    have HK2 := Lib.hid (HK1.out.trans ((KeptQ.below (al _ _)).trans hk2))
    have HT2 := Lib.hid (HT1.out.keep ((KeptQ.below (al _ _)).trans hk2))
    have H2 := Lib.hid h2
    have hw2 : base ≤ w2.heap.size := Nat.le_trans HW.out HB2.out.size
    have HW2 := Lib.hid hw2
    clear h2 hb2 hk2 hw2 c0 c1 c2 c3 c4 c5
    obtain ⟨c0, c1, c2, c3, c4, c5⟩ := HT2.out.cells
    go_wp2_with fail
    refine (pnum_any 5 (by decide) t.wall [t.name] 1 rfl _ base b (l ++ lnL 3 [t.name] ++ numL 4 t.nodes [t.name]) (H2.out.below (al _ _)) (by simp; have := HW2.out; omega) _ 1 (lit1_o rfl HW2.out) (by have := HSW.out; omega) (by omega) (by have := E3.out; have := HSW.out; have := E4.out; simp only [List.length_append]; omega) (fun w' hb => HS.out _ (HB2.out.trans (((al _ _).mono HW2.out).trans hb)))).mono ?_
    rintro e w3 ⟨rfl, h3, hb3, hk3⟩
    have HB3 := Lib.hid (HB2.out.trans (((al _ _).mono HW2.out).trans hb3))
    have HK3 := Lib.hid (HK2.out.trans ((KeptQ.below (al _ _)).trans hk3))
    have HT3 := Lib.hid (HT2.out.keep ((KeptQ.below (al _ _)).trans hk3))
    have H3 := Lib.hid h3
    have hw3 : base ≤ w3.heap.size := Nat.le_trans HW.out HB3.out.size
    have HW3 := Lib.hid hw3
    clear h3 hb3 hk3 hw3 c0 c1 c2 c3 c4 c5
    obtain ⟨c0, c1, c2, c3, c4, c5⟩ := HT3.out.cells
    go_wp2_with fail
    refine (pnum_any 6 (by decide) t.retry [t.name] 1 rfl _ base b (l ++ lnL 3 [t.name] ++ numL 4 t.nodes [t.name] ++ numL 5 t.wall [t.name]) (H3.out.below (al _ _)) (by simp; have := HW3.out; omega) _ 1 (lit1_o rfl HW3.out) (by have := HSW.out; omega) (by omega) (by have := E3.out; have := HSW.out; have := E4.out; have := E5.out; simp only [List.length_append]; omega) (fun w' hb => HS.out _ (HB3.out.trans (((al _ _).mono HW3.out).trans hb)))).mono ?_
    rintro e w4 ⟨rfl, h4, hb4, hk4⟩
    have HB4 := Lib.hid (HB3.out.trans (((al _ _).mono HW3.out).trans hb4))
    have HK4 := Lib.hid (HK3.out.trans ((KeptQ.below (al _ _)).trans hk4))
    have HT4 := Lib.hid (HT3.out.keep ((KeptQ.below (al _ _)).trans hk4))
    have H4 := Lib.hid h4
    have hw4 : base ≤ w4.heap.size := Nat.le_trans HW.out HB4.out.size
    have HW4 := Lib.hid hw4
    clear h4 hb4 hk4 hw4 c0 c1 c2 c3 c4 c5
    obtain ⟨c0, c1, c2, c3, c4, c5⟩ := HT4.out.cells
    rw [HD.out] at c4
    go_wp2_with fail
    refine (pline_any 7 (by decide) [t.name] 1 rfl _ base b (l ++ lnL 3 [t.name] ++ numL 4 t.nodes [t.name] ++ numL 5 t.wall [t.name] ++ numL 6 t.retry [t.name]) (H4.out.below (al _ _)) (by simp; have := HW4.out; omega) _ 1 (lit1_w rfl) (lit1_t rfl) (by have := HSW.out; omega) (by have := E3.out; have := HSW.out; have := E4.out; have := E5.out; have := E6.out; simp only [List.length_append]; omega) (HS.out _ (HB4.out.trans ((al _ _).mono HW4.out)))).mono ?_
    rintro e w5 ⟨rfl, h5, hb5, hk5⟩
    go_wp2
    exact ⟨rfl, _, results_none rfl _ _ _, rfl, by rw [HE.out]; exact h5, HB4.out.trans (((al _ _).mono HW4.out).trans hb5), HK4.out.trans ((KeptQ.below (al _ _)).trans hk5.q)⟩

end Go.Proofs.YtkcijibkloamkaaGreatDoor

/- The words of a PARENT line, as they are printed. -/
namespace Go.Proofs.YtkcijibkloamkaaGreatDoor
open Go.RowKit
open Dag (Own1 Sl)
set_option linter.unusedVariables false
set_option maxRecDepth 100000

theorem nameAt_get {ts : List TaskD} {u : Nat} {t : TaskD} (h : ts[u]? = some t) : nameAt ts (u : Int) = t.name := by
  unfold nameAt
  rw [Int.toNat_natCast, h]
theorem take_map_snoc {α β : Type} {f : α → β} {l : List α} {k : Nat} {x : α} (h : l[k]? = some x) : (l.take (k + 1)).map f = (l.take k).map f ++ [f x] := by
  rw [List.take_add_one, h]; simp

set_option maxHeartbeats 3200000 in
theorem parents_any (f : FlowD) (FA : Option Addr) (fc : Nat) (t : TaskD) (A : Option Addr) (c : Nat) (w : World) (hT : Tasks w FA fc f.tasks) (hI : Dag.Ints w A c t.after) (hin : ∀ v ∈ t.after, 0 ≤ v ∧ v.toNat < f.tasks.length) (hl : t.after.length ≤ 10000000) :
    Calls Tryz.prog 69 #[.agg #[.string (sb f.name), .int .i64 f.deadline, .int .i64 f.priority, .slice FA f.tasks.length fc], .agg #[.string (sb t.name), .int .i64 t.nodes, .int .i64 t.wall, .int .i64 t.retry, .bool t.done, .slice A t.after.length c]] w fun e w' => ∃ A' c', e = .returned (.slice A' (t.after.length + 2) c') ∧ Own1 w' w.heap.size 9 (.slice A' (t.after.length + 2) c') (strs (t.after.map (nameAt f.tasks) ++ [childW, t.name])) ∧ Below w.heap.size w w' := by
  have HT := Lib.hid hT; have HI := Lib.hid hI; have HIN := Lib.hid hin
  have hlm : f.tasks.length ≤ 9223372036854775807 := hT.lenI
  clear hT hI hin
  go_enter Tryz.func69, Tryz.ntmps69
  go_wp2
  have hWB := blw (al w (.cells #[.string (sb f.name), .int .i64 f.deadline, .int .i64 f.priority, .slice FA f.tasks.length fc] 25)) (al _ (.cells #[.string (sb t.name), .int .i64 t.nodes, .int .i64 t.wall, .int .i64 t.retry, .bool t.done, .slice A t.after.length c] 48))
  have hWS : ((w.alloc (.cells #[.string (sb f.name), .int .i64 f.deadline, .int .i64 f.priority, .slice FA f.tasks.length fc] 25)).alloc (.cells #[.string (sb t.name), .int .i64 t.nodes, .int .i64 t.wall, .int .i64 t.retry, .bool t.done, .slice A t.after.length c] 48)).heap.size = w.heap.size + 2 := by simp
  have hWF : ((w.alloc (.cells #[.string (sb f.name), .int .i64 f.deadline, .int .i64 f.priority, .slice FA f.tasks.length fc] 25)).alloc (.cells #[.string (sb t.name), .int .i64 t.nodes, .int .i64 t.wall, .int .i64 t.retry, .bool t.done, .slice A t.after.length c] 48)).cell? ⟨w.heap.size, 3, none⟩ = some (.slice FA f.tasks.length fc) := by
    rw [Dag.blk_cell (((al (w.alloc _) _).block _ (by simp)).trans (heap_alloc_new w _)) 3]; rfl
  have hWT : TObj ((w.alloc (.cells #[.string (sb f.name), .int .i64 f.deadline, .int .i64 f.priority, .slice FA f.tasks.length fc] 25)).alloc (.cells #[.string (sb t.name), .int .i64 t.nodes, .int .i64 t.wall, .int .i64 t.retry, .bool t.done, .slice A t.after.length c] 48)) (w.heap.size + 1) t A c := alloc_at (by simp)
  generalize (w.alloc (.cells #[.string (sb f.name), .int .i64 f.deadline, .int .i64 f.priority, .slice FA f.tasks.length fc] 25)).alloc (.cells #[.string (sb t.name), .int .i64 t.nodes, .int .i64 t.wall, .int .i64 t.retry, .bool t.done, .slice A t.after.length c] 48) = w0 at hWB hWS hWF hWT ⊢
  have HWB := Lib.hid hWB; have HWS := Lib.hid hWS; have HWF := Lib.hid hWF; have HWT := Lib.hid hWT
  have HT0 := Lib.hid (HT.out.below hWB); have HI0 := Lib.hid (HI.out.below hWB)
  clear hWB hWS hWF hWT
  go_loopw [5, 11] (fun ws i wr => ∃ (k : Nat) (A' : Option Addr) (c' : Nat), k ≤ t.after.length ∧ i = .int .i64 k ∧ ws = .slice A' k c' ∧ Hid (Below w0.heap.size w0 wr) ∧ Hid (Own1 wr w0.heap.size 9 (.slice A' k c') (strs ((t.after.take k).map (nameAt f.tasks))))) (fun _ i _ => t.after.length - (intOf i).toNat)
  case atStart => exact ⟨0, none, 0, Nat.zero_le _, rfl, rfl, Lib.hid (Below.refl _ _), Lib.hid (by simpa [strs] using Own1.nil w0 w0.heap.size 9)⟩
  case round =>
    obtain ⟨k, A', c', hk, rfl, rfl, HB, HO⟩ := hrel
    by_cases hlt : k < t.after.length
    · obtain ⟨b2, off2, y, rfl, hy, hcy0⟩ := HI0.out.at_ hlt
      have hcy := keep_cell HB.out hcy0
      obtain ⟨hy0, hy1⟩ := HIN.out y (List.mem_of_getElem? hy)
      obtain ⟨u, rfl⟩ : ∃ u : Nat, y = (u : Int) := ⟨y.toNat, by omega⟩
      have hul : u < f.tasks.length := by simpa using hy1
      obtain ⟨t2, ht2⟩ : ∃ t, f.tasks[u]? = some t := ⟨_, List.getElem?_eq_getElem hul⟩
      obtain ⟨b, off, A3, c3, rfl, h0, _⟩ := (HT0.out.below HB.out).cells u _ ht2
      have hcf := keep_cell HB.out HWF.out
      have hlt0 : w.heap.size < wr.heap.size := by have := HB.out.size; have := HWS.out; omega
      have HE := Lib.hid (take_map_snoc (f := nameAt f.tasks) hy)
      have HN := Lib.hid (nameAt_get ht2)
      have HHY := Lib.hid hy
      have hll : (strs ((t.after.take k).map (nameAt f.tasks))).length = k := by rw [strs_len, List.length_map, List.length_take]; omega
      have HLL := Lib.hid hll
      clear hy hcy0 hy0 hy1 ht2 hll
      go_wp2_with (at_builtin; refine Dag.wpList_appg rfl _ _ 51 9 (.string ⟨#[]⟩) 16 Tryz.underlying51 info_str rfl (by decide) rfl w0.heap.size (.slice A' k c') (strs ((t.after.take k).map (nameAt f.tasks))) rfl (by exact HO.out.below (al _ _)) (some ⟨wr.heap.size, 0, none⟩) 1 1 [.string (sb t2.name)] rfl rfl (Sl.one rfl) (by simp [Value.oneCell']) (by rw [HLL.out]; simp; omega) (by have := HB.out.size; simp; omega) ?_; intro l A8 c8 w9 el ho9 hg9 _ hb9; have EL := Lib.hid el; have hll2 : l.length = k + 1 := (by rw [el, List.length_append, HLL.out]; rfl); rw [hll2] at ho9; rw [hll2]; have HO9 := Lib.hid ho9; have HB9 := Lib.hid ((HB.out.trans (((al wr _).mono HB.out.size).trans hb9))); clear ho9 hg9 hb9 el hll2)
      go_roundw
      case rel =>
        refine ⟨k + 1, A8, c8, by omega, by go_num, rfl, HB9, Lib.hid ?_⟩
        rw [HE.out, HN.out, strs_app]
        rw [EL.out] at HO9
        exact HO9.out
      case measure => simp [intOf]; omega
    · obtain rfl : k = t.after.length := by omega
      have hll : (strs (t.after.map (nameAt f.tasks))).length = t.after.length := by rw [strs_len, List.length_map]
      have HLL := Lib.hid hll
      have HO1 : Hid (Own1 wr w0.heap.size 9 (.slice A' t.after.length c') (strs (t.after.map (nameAt f.tasks)))) := Lib.hid (by have := HO.out; rwa [List.take_length] at this)
      obtain ⟨c0, _⟩ := (show TObj wr (w.heap.size + 1) t A c from (HB.out.block _ (by rw [HWS.out]; omega)).trans HWT.out).cells
      have hlt0 : w.heap.size + 1 < wr.heap.size := by have := HB.out.size; have := HWS.out; omega
      clear hll
      go_wp2_with (at_builtin; refine Dag.wpList_appg rfl _ _ 51 9 (.string ⟨#[]⟩) 16 Tryz.underlying51 info_str rfl (by decide) rfl w0.heap.size (.slice A' t.after.length c') (strs (t.after.map (nameAt f.tasks))) rfl (by exact HO1.out.below (al _ _)) (some ⟨wr.heap.size, 0, none⟩) 2 2 (strs [childW, t.name]) rfl rfl (Own1.sl (Own1.litm wr 0 9 (Nat.zero_le _) (strs [childW, t.name]) (n := 2) rfl rfl (by simp [maxLen]))).2 (by simp [Value.oneCell', strs]) (by rw [HLL.out]; simp [strs]; omega) (by have := HB.out.size; simp; omega) ?_; intro l A8 c8 w9 el ho9 hg9 _ hb9; have EL := Lib.hid el; have hll2 : l.length = t.after.length + 2 := (by rw [el, List.length_append, HLL.out]; rfl); rw [hll2] at ho9; rw [hll2]; have HO9 := Lib.hid ho9; have HB9 := Lib.hid ((HB.out.trans (((al wr _).mono HB.out.size).trans hb9))); clear ho9 hg9 hb9 el hll2)
      go_ret
      refine ⟨A8, c8, rfl, ?_, HWB.out.trans (HB9.out.mono HWB.out.size)⟩
      rw [strs_app]
      rw [EL.out] at HO9
      exact HO9.out.rebase HWB.out.size

end Go.Proofs.YtkcijibkloamkaaGreatDoor


