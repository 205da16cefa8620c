/- A number of the whole workflow; a task more. -/
import Derived.Test.YtkcijibkloamkaaGreatDoorFlwReg
import Derived.StillTailTactics
import Derived.Deep.RegionHeld3
namespace Go.Proofs.YtkcijibkloamkaaGreatDoor
open Go.RowKit
open Clk (readE readV)
open Txt (nameD)
set_option linter.unusedVariables false
set_option maxRecDepth 100000

set_option maxHeartbeats 1600000 in
theorem set1_any (s : St) (a : List UInt8) (w : World) (base D : Nat) (h : Drf w base D s) (hS : TabS w) (ha : a.length ≤ maxLen) (hw : base ≤ w.heap.size) :
    Calls Tryz.prog 112 #[.pointer (some ⟨D, 0, none⟩), .int .i64 1, .string (sb a)] w (RetD w base D (setSt s 1 a)) := by
  obtain ⟨TA, tc, HA, hc, LA, lc, M, hD, hP⟩ := h.ex
  have HH := Lib.hid h
  have HD := Lib.hid hD; have HP := Lib.hid hP; have HS := Lib.hid hS
  have hl := h.low
  have c4 := (Drf.cells hD 5).1
  simp only [draftC, List.getElem?_toArray, List.getElem?_cons_succ, List.getElem?_cons_zero] at c4
  have hlt := Dag.blk_lt hD
  obtain ⟨q0, q1, q2, q3⟩ := hS.s1
  have hgs := hS.lt
  clear h hD hP hS
  cases hh : s.had 1
  case true =>
    have HN := Lib.hid (show setSt s 1 a = .error 51 from by unfold setSt; rw [hh]; rfl)
    rw [hh] at c4
    go_enter Tryz.func112, Tryz.ntmps112
    go_wp2
    go_ret
    exact ret_err HN.out (by decide) HH.out (Below.refl _ _)
  rw [hh] at c4
  by_cases hn : numE 1 a = 0
  · have HN := Lib.hid (show setSt s 1 a = .ok { s with deadline := readV a, had := upB s.had 1 } from by unfold setSt; rw [hh, hn]; rfl)
    have HV := Lib.hid (show numV 1 a = readV a from by unfold numV; rw [if_pos hn])
    have HE := Lib.hid hn; clear hn
    go_enter Tryz.func112, Tryz.ntmps112
    go_wp2_with fail
    refine (number_any 1 a _ ha).mono ?_
    rintro e w1 ⟨rfl, hb1⟩
    rw [HE.out, HV.out]
    have hD1 := (hb1.block D hlt).trans HD.out
    obtain ⟨k4, f4⟩ := Drf.cells hD1 5
    obtain ⟨k0, f0⟩ := Drf.cells hD1 1
    simp only [draftC, List.getElem?_toArray, List.getElem?_cons_succ, List.getElem?_cons_zero] at k4 k0
    have HD1 := Lib.hid hD1
    have HP1 := Lib.hid (HP.out.keep (Kept.below hb1) (KeptM.below hb1))
    have hlt1 := Dag.blk_lt hD1
    clear hD1
    go_wp2
    all_goals go_ret
    all_goals
      refine ret_ok HN.out (drf_own HD1.out HP1.out hl (fun b hb => ?_) { s with deadline := readV a, had := upB s.had 1 } rfl rfl ?_) (((hb1.mono hw).setCell hl _).setCell hl _)
      · rw [Dag.blk_other hb, Dag.blk_other hb]
      · rw [Dag.blk_set (Dag.blk_set HD1.out _ _) _ _]
        simp [draftC, upB]
  · have HN := Lib.hid (show setSt s 1 a = .error (numE 1 a) from by unfold setSt; rw [hh, if_pos hn]; rfl)
    have hne : (numE 1 a != 0) = true := by simp [hn]
    have HE := Lib.hid hn; clear hn
    go_enter Tryz.func112, Tryz.ntmps112
    go_wp2_with fail
    refine (number_any 1 a _ ha).mono ?_
    rintro e w1 ⟨rfl, hb1⟩
    go_wp2
    go_ret
    exact ret_err HN.out HE.out (HH.out.below hb1) (hb1.mono hw)

set_option maxHeartbeats 1600000 in
theorem set2_any (s : St) (a : List UInt8) (w : World) (base D : Nat) (h : Drf w base D s) (hS : TabS w) (ha : a.length ≤ maxLen) (hw : base ≤ w.heap.size) :
    Calls Tryz.prog 112 #[.pointer (some ⟨D, 0, none⟩), .int .i64 2, .string (sb a)] w (RetD w base D (setSt s 2 a)) := by
  obtain ⟨TA, tc, HA, hc, LA, lc, M, hD, hP⟩ := h.ex
  have HH := Lib.hid h
  have HD := Lib.hid hD; have HP := Lib.hid hP; have HS := Lib.hid hS
  have hl := h.low
  have c4 := (Drf.cells hD 6).1
  simp only [draftC, List.getElem?_toArray, List.getElem?_cons_succ, List.getElem?_cons_zero] at c4
  have hlt := Dag.blk_lt hD
  obtain ⟨q0, q1, q2, q3⟩ := hS.s2
  have hgs := hS.lt
  clear h hD hP hS
  cases hh : s.had 2
  case true =>
    have HN := Lib.hid (show setSt s 2 a = .error 51 from by unfold setSt; rw [hh]; rfl)
    rw [hh] at c4
    go_enter Tryz.func112, Tryz.ntmps112
    go_wp2
    go_ret
    exact ret_err HN.out (by decide) HH.out (Below.refl _ _)
  rw [hh] at c4
  by_cases hn : numE 2 a = 0
  · have HN := Lib.hid (show setSt s 2 a = .ok { s with priority := readV a, had := upB s.had 2 } from by unfold setSt; rw [hh, hn]; rfl)
    have HV := Lib.hid (show numV 2 a = readV a from by unfold numV; rw [if_pos hn])
    have HE := Lib.hid hn; clear hn
    go_enter Tryz.func112, Tryz.ntmps112
    go_wp2_with fail
    refine (number_any 2 a _ ha).mono ?_
    rintro e w1 ⟨rfl, hb1⟩
    rw [HE.out, HV.out]
    have hD1 := (hb1.block D hlt).trans HD.out
    obtain ⟨k4, f4⟩ := Drf.cells hD1 6
    obtain ⟨k0, f0⟩ := Drf.cells hD1 2
    simp only [draftC, List.getElem?_toArray, List.getElem?_cons_succ, List.getElem?_cons_zero] at k4 k0
    have HD1 := Lib.hid hD1
    have HP1 := Lib.hid (HP.out.keep (Kept.below hb1) (KeptM.below hb1))
    have hlt1 := Dag.blk_lt hD1
    clear hD1
    go_wp2
    all_goals go_ret
    all_goals
      refine ret_ok HN.out (drf_own HD1.out HP1.out hl (fun b hb => ?_) { s with priority := readV a, had := upB s.had 2 } rfl rfl ?_) (((hb1.mono hw).setCell hl _).setCell hl _)
      · rw [Dag.blk_other hb, Dag.blk_other hb]
      · rw [Dag.blk_set (Dag.blk_set HD1.out _ _) _ _]
        simp [draftC, upB]
  · have HN := Lib.hid (show setSt s 2 a = .error (numE 2 a) from by unfold setSt; rw [hh, if_pos hn]; rfl)
    have hne : (numE 2 a != 0) = true := by simp [hn]
    have HE := Lib.hid hn; clear hn
    go_enter Tryz.func112, Tryz.ntmps112
    go_wp2_with fail
    refine (number_any 2 a _ ha).mono ?_
    rintro e w1 ⟨rfl, hb1⟩
    go_wp2
    go_ret
    exact ret_err HN.out HE.out (HH.out.below hb1) (hb1.mono hw)


theorem taskC_one (t : TaskP) : ∀ u ∈ taskC t, u.oneCell' = true := by
  intro u hu
  simp only [taskC, List.mem_cons, List.mem_nil_iff, or_false] at hu
  rcases hu with rfl | rfl | rfl | rfl | rfl | rfl <;> rfl
theorem toldC_one (t : TaskP) : ∀ u ∈ toldC t, u.oneCell' = true := by
  intro u hu
  simp only [toldC, marksC, List.mem_cons, List.mem_nil_iff, or_false] at hu
  rcases hu with rfl | rfl | rfl | rfl | rfl | rfl | rfl | rfl | rfl <;> rfl
/-- append of one element of sz cells onto a row of one's own -/
theorem wpList_apn {w : World} {ops : Array Oper} {rest : List Oper} {o : Oper} {a : Act} {Q : Exit → Act → World → Prop} (hgd : o.guard = none) (s x : Operand) (t e : TypeId) (z : Value) (sz bytes : Nat)
    (hu : Tryz.prog.underlying t = some (.slice e)) (hinfo : (Tryz.prog.info? e).map (fun i => (i.zero, i.size, i.bytes)) = some (some z, sz, bytes)) (hz : z.cells.size = sz) (hsz : 0 < sz) (hby : bytes ≤ 100)
    (ho : o.op = .call { callee := .builtin .append, args := #[s, x], argTypes := #[t, t] })
    (base : Nat) (A : Option Addr) (n c : Nat) (us : List Value) (hs : a.eval s = .slice A n c) (hown : OwnN w base e sz A n c us) (g cx : Nat) (news : List Value) (hx : a.eval x = .slice (some ⟨g, 0, none⟩) 1 cx) (hl : news.length = sz)
    (hr : ∃ ty, w.heap[g]? = some (Obj.cells news.toArray ty (0, 0))) (hone : ∀ u ∈ news, u.oneCell' = true) (hlen : n ≤ 1000000) (hbase : base ≤ w.heap.size)
    (h : ∀ (A' : Option Addr) (c' : Nat) (w' : World), OwnN w' base e sz A' (n + 1) c' (us ++ news) → w.grownBy w' (Value.slice A n c).ownBlock → Below base w w' →
      wpList Tryz.prog ops Q rest (a.put o.dst (.slice A' (n + 1) c')) w') :
    wpList Tryz.prog ops Q (o :: rest) a w := by
  obtain ⟨i0, hi0, hz0, hz1, hz2⟩ := info_parts hinfo
  obtain ⟨ty, hr⟩ := hr
  refine wpList_append_own_at w hgd s x _ ho base _ i0 z sz bytes hu hi0 hz0 hz1 hz2 hz hsz _ n us hs hown ⟨g, 0, none⟩ 1 cx news hx (by omega) ?_ hone (by simp only [maxLen]; omega) ?_ hbase ?_
  · intro j u hu'
    rw [Go.WideShapes.add_plain, Nat.zero_add, Dag.blk_cell hr, List.getElem?_toArray]
    exact hu'
  · have : (n + 1) * bytes ≤ 1000001 * 100 := Nat.mul_le_mul (by omega) hby
    omega
  · intro v' w' hown' hg _ hb
    rcases hown'.2 with ⟨hv, h0⟩ | ⟨g2, cap, cur, hv, hbg, hh, rst⟩
    · omega
    · subst hv
      exact h _ _ w' hown' hg ((Below.refl _ _).grown hg hbase fun k hk => by
        cases A with
        | none => cases hk
        | some a' => injection hk with hk; subst hk; exact (OwnN.lt hown rfl).1)
theorem info_task : (Tryz.prog.info? 48).map (fun i => (i.zero, i.size, i.bytes)) = some (some (.agg #[.string ⟨#[]⟩, .int .i64 0, .int .i64 0, .int .i64 0, .bool false, .slice none 0 0]), 6, 72) := by kernel_rfl
theorem info_marks : (Tryz.prog.info? 55).map (fun i => (i.zero, i.size, i.bytes)) = some (some (.agg #[.bool false, .bool false, .bool false, .bool false, .bool false, .bool false, .bool false, .bool false, .bool false]), 9, 9) := by kernel_rfl

theorem drew_below (w : World) : Below w.heap.size w w.drew := ⟨rfl, rfl, rfl, Nat.le_refl _, fun _ _ => rfl⟩
/-- the same, as one step of a region that draws -/
theorem step_apn {ops : Array Oper} {o : Oper} {a : Act} {w : World} {K : Act → World → Prop} {Q : Exit → Act → World → Prop} {E : Prop} (hgd : o.guard = none) (s x : Operand) (t e : TypeId) (z : Value) (sz bytes : Nat)
    (hu : Tryz.prog.underlying t = some (.slice e)) (hinfo : (Tryz.prog.info? e).map (fun i => (i.zero, i.size, i.bytes)) = some (some z, sz, bytes)) (hz : z.cells.size = sz) (hsz : 0 < sz) (hby : bytes ≤ 100)
    (ho : o.op = .call { callee := .builtin .append, args := #[s, x], argTypes := #[t, t] })
    (base : Nat) (A : Option Addr) (n c : Nat) (us : List Value) (hs : a.eval s = .slice A n c) (hown : OwnN w base e sz A n c us) (g cx : Nat) (news : List Value) (hx : a.eval x = .slice (some ⟨g, 0, none⟩) 1 cx) (hl : news.length = sz)
    (hr : ∃ ty, w.heap[g]? = some (Obj.cells news.toArray ty (0, 0))) (hone : ∀ u ∈ news, u.oneCell' = true) (hlen : n ≤ 1000000) (hbase : base ≤ w.heap.size)
    (h : ∀ (A' : Option Addr) (c' : Nat) (w' : World), OwnN w' base e sz A' (n + 1) c' (us ++ news) → w.grownBy w' (Value.slice A n c).ownBlock → Below base w w' → K (a.put o.dst (.slice A' (n + 1) c')) w') :
    if Region.wanted o (yielded ops a.tmps) = true then Oper.wp Tryz.prog o a w K Q else E := by
  have hw : Region.wanted o (yielded ops a.tmps) = true := by simp [Region.wanted, hgd]
  rw [if_pos hw]
  obtain ⟨i0, hi0, hz0, hz1, hz2⟩ := info_parts hinfo
  obtain ⟨ty, hr⟩ := hr
  have hby2 : (n + 1) * bytes ≤ 1000001 * 100 := Nat.mul_le_mul (by omega) hby
  obtain ⟨v', w', hrun, r1, r2, r3, r4⟩ := run_append_own_at (P := Tryz.prog) w base t o.type e i0 z sz bytes hu hi0 hz0 hz1 hz2 hz hsz (.slice A n c) n us hown ⟨g, 0, none⟩ 1 cx news (by omega) (fun j u hu' => by
    rw [Go.WideShapes.add_plain, Nat.zero_add, Dag.blk_cell hr, List.getElem?_toArray]; exact hu') hone (by simp only [maxLen]; omega) (by omega) hbase
  unfold Oper.wp
  simp [execOp, ho, resolve, invoke, builtin, hs, hx, hrun, Result.andThen]
  rcases r1.2 with ⟨hv, h0⟩ | ⟨g2, cap, cur, hv, hbg, hh, rst⟩
  · omega
  · subst hv
    exact h _ _ w' r1 r2 ((Below.refl _ _).grown r2 hbase fun k hk => by
      cases A with
      | none => cases hk
      | some a' => injection hk with hk; subst hk; exact (OwnN.lt hown rfl).1)
theorem push_lt {α : Type} {a : Array α} {b : Nat} {x y : α} (h : a[b]? = some x) : (a.push y)[b]? = a[b]? := by
  have := (Array.getElem?_eq_some_iff.1 h).1
  rw [Array.getElem?_push, if_neg (by omega)]
theorem pushed_new {w W : World} {o : Obj} {g : Nat} (h : W.heap = w.heap.push o) (hg : w.heap.size = g) : W.heap[g]? = some o := by subst hg; rw [h]; simp
theorem pushed_cell {w W : World} {o : Obj} {p : Addr} {v : Value} (h : W.heap = w.heap.push o) (hc : w.cell? p = some v) : W.cell? p = some v :=
  (cell_keep (by rw [h]; exact push_lt (Array.getElem?_eq_getElem (World.block_lt_of_cell? w _ hc)))).trans hc
theorem pushed_trans {w w3 W w4 : World} {base : Nat} (hb4 : Below base W w4) (hp : ∃ o, W.heap = w3.heap.push o) (h1 : W.os = w3.os) (h2 : W.tape = w3.tape) (h3 : W.output = w3.output) (hb3 : Below base w w3) (hle : base ≤ w3.heap.size) : Below base w w4 := by
  obtain ⟨o, ho⟩ := hp
  have hbW : Below base w3 W := ⟨h1, h2, h3, by rw [ho]; simp, fun k hk => by
    have hk' : k < w3.heap.size := by omega
    rw [ho, Array.getElem?_push, if_neg (by omega)]⟩
  exact (hb3.trans hbW).trans hb4
theorem pushed_kept {w3 W w4 : World} {A : Option Addr} {n c base sz : Nat} {e : TypeId} {us : List Value} (hp : ∃ o, W.heap = w3.heap.push o) (ho : OwnN w3 base e sz A n c us) (hg : W.grownBy w4 (Value.slice A n c).ownBlock) (tys : List TypeId) (ht : e ∉ tys) : Kept tys w3 w4 ∧ KeptM w3 w4 := by
  obtain ⟨o, ho'⟩ := hp
  have hW : OwnN W base e sz A n c us := ho.keep fun b cs hb => by rw [ho']; exact push_lt hb
  constructor
  · intro ty hty b cs hb
    have hb' : W.heap[b]? = some (Obj.cells cs ty (0, 0)) := by rw [ho', push_lt hb]; exact hb
    rw [Kept.grown (tys := tys) hg hW ht ty hty b cs hb', hb', hb]
  · intro b es m hb
    have hb' : W.heap[b]? = some (Obj.map es m) := by rw [ho', push_lt hb]; exact hb
    rw [KeptM.grown hg hW b es m hb', hb', hb]
/-- the index, with a task more -/
theorem nameI_app {ts : List TaskP} {a : List UInt8} (ha : a ∉ namesP ts) : updM (nameI ts) a (ts.length : Int) = nameI (ts ++ [newTask a]) := by
  have hn : namesP (ts ++ [newTask a]) = namesP ts ++ [a] := by simp [namesP, newTask]
  have hl : (namesP ts).length = ts.length := by simp [namesP]
  funext s
  unfold updM nameI
  rw [hn]
  by_cases e : s = a
  · subst e
    rw [if_pos rfl, if_pos (by simp), List.idxOf_append, if_neg ha]
    simp [hl]
  · rw [if_neg e]
    by_cases hs : s ∈ namesP ts
    · rw [if_pos hs, if_pos (by simp [hs]), List.idxOf_append, if_pos hs]
    · rw [if_neg hs, if_neg (by simp [hs, e])]
theorem nameI_none {ts : List TaskP} {a : List UInt8} (ha : a ∉ namesP ts) : nameI ts a = none := by unfold nameI; rw [if_neg ha]

set_option maxHeartbeats 3200000 in
theorem addTask_any (s : St) (a : List UInt8) (w : World) (base D : Nat) (h : Drf w base D s) (hSB : ∀ w', Below base w w' → TabS w') (hT : Txt.Tabs w) (ha : a.length ≤ 1100000) (hw : base ≤ w.heap.size) (hn : s.tasks.length ≤ 100000) (hgb : 0 < base) :
    Calls Tryz.prog 113 #[.pointer (some ⟨D, 0, none⟩), .string (sb a)] w (RetD w base D (jobSt s a)) := by
  obtain ⟨TA, tc, HA, hc, LA, lc, M, hD, hP⟩ := h.ex
  have HH := Lib.hid h
  have HD := Lib.hid hD; have HP := Lib.hid hP; have HSB := Lib.hid hSB; have HT := Lib.hid hT
  have hl := h.low
  have hlt := Dag.blk_lt hD
  have hle : a.length ≤ 9000000000000000000 := by omega
  have hml : a.length ≤ maxLen := by simp only [maxLen]; omega
  clear h hD hP hSB hT
  cases ht : taskName a
  · have HN := Lib.hid (show jobSt s a = .error 5 from by unfold jobSt; rw [ht]; rfl)
    have HT2 := Lib.hid ht; clear ht
    go_enter Tryz.func113, Tryz.ntmps113
    go_wp2_with fail
    refine (isTask_any a _ hle HT.out).mono ?_
    rintro e w1 ⟨rfl, hb1⟩
    rw [HT2.out]
    go_wp2
    go_ret
    exact ret_err HN.out (by decide) (HH.out.below hb1) (hb1.mono hw)
  have HT2 := Lib.hid ht
  by_cases hm : a ∈ namesP s.tasks
  · have HN := Lib.hid (show jobSt s a = .error 51 from by unfold jobSt; rw [ht, if_pos hm]; rfl)
    have HG := Lib.hid (show nameI s.tasks a = some ((namesP s.tasks).idxOf a : Int) from by unfold nameI; rw [if_pos hm])
    clear ht hm
    go_enter Tryz.func113, Tryz.ntmps113
    go_wp2_with fail
    refine (isTask_any a _ hle HT.out).mono ?_
    rintro e w1 ⟨rfl, hb1⟩
    rw [HT2.out]
    have hD1 := (hb1.block D hlt).trans HD.out
    obtain ⟨k13, f13⟩ := Drf.cells hD1 13
    simp only [draftC, List.getElem?_toArray, List.getElem?_cons_succ, List.getElem?_cons_zero] at k13
    have HM := Lib.hid (HP.out.idx.below hb1)
    clear hD1
    go_wp2_with (at_lookup; refine wpList_getM rfl _ _ rfl rfl HM.out a rfl hml ?_; rw [HG.out])
    go_ret
    exact ret_err HN.out (by decide) (HH.out.below hb1) (hb1.mono hw)
  · have HN := Lib.hid (show jobSt s a = .ok { s with tasks := s.tasks ++ [newTask a] } from by unfold jobSt; rw [ht, if_neg hm]; rfl)
    have HG := Lib.hid (nameI_none hm)
    have HAP := Lib.hid (nameI_app hm)
    have hwf := Lib.hid (show (Lit.int .i64 (s.tasks.length : Int)).wf = true from WalkArith.wf_i64 (by omega))
    clear ht hm
    go_enter Tryz.func113, Tryz.ntmps113
    go_wp2_with fail
    refine (isTask_any a _ hle HT.out).mono ?_
    rintro e w1 ⟨rfl, hb1⟩
    rw [HT2.out]
    have hD1 := (hb1.block D hlt).trans HD.out
    have hlt1 := Dag.blk_lt hD1
    have c1 := fun i => Drf.cells hD1 i
    obtain ⟨k3, f3⟩ := c1 3
    obtain ⟨k13, f13⟩ := c1 13
    obtain ⟨k14, f14⟩ := c1 14
    simp only [draftC, List.getElem?_toArray, List.getElem?_cons_succ, List.getElem?_cons_zero] at k3 k13 k14
    have HM := Lib.hid (HP.out.idx.below hb1)
    have HD1 := Lib.hid hD1
    clear hD1 c1
    go_wp2_with (at_lookup; refine wpList_getM rfl _ _ rfl rfl HM.out a rfl hml ?_; rw [HG.out])
    go_still_tail 11, (by kernel_rfl)
    change wpList _ _ _ _ _ w1.drew
    have hbq := drew_below w1
    generalize w1.drew = w2 at hbq
    have HP2 := Lib.hid ((HP.out.keep (Kept.below hb1) (KeptM.below hb1)).keep (Kept.below hbq) (KeptM.below hbq))
    have HD2 := Lib.hid ((hbq.block D hlt1).trans HD1.out)
    have HB2 := Lib.hid (blw hb1 hbq)
    clear hb1 hbq k3 f3 k13 f13 k14 f14 HM
    go_wp2_with (at_mapUpdate; refine wpList_putM rfl _ _ _ rfl rfl HP2.out.idx (by simp only [maxLen]; omega) a _ rfl rfl hml hwf.out ?_; intro w3 hm3 hg3; rw [HG.out, HAP.out] at hm3; have HM3 := Lib.hid hm3; have HG3 := Lib.hid hg3; clear hm3 hg3)
    have hb3 : Below base w w3 := (HB2.out.mono hw).grown HG3.out (Nat.le_trans hw HB2.out.size) (fun j hj => by cases hj; exact HP.out.low)
    have hg3b := HG3.out.block D (Dag.blk_lt HD2.out) (fun e => by
      injection e with e; subst e
      obtain ⟨DD, ⟨es, clock, hM, r⟩, rest⟩ := HP2.out.idx.ex
      rw [HD2.out] at hM; cases hM)
    have HD3 := Lib.hid (hg3b.trans HD2.out)
    have hK3 : Kept [48, 55, 110, 3] w2 w3 := Kept.map HG3.out HP2.out.idx
    have HT3 := Lib.hid (HP2.out.tasks.keep (hK3 _ (by simp)))
    have HH3 := Lib.hid (HP2.out.told.keep (hK3 _ (by simp)))
    have HL3 : Hid (∃ lv, OwnN w3 base 110 2 LA s.links.length lc lv ∧ LinksAt w3 lv s.links) := by
      obtain ⟨lv, h1, h2⟩ := HP2.out.links
      exact Lib.hid ⟨lv, h1.keep (hK3 _ (by simp)), h2.keep (hK3 _ (by simp))⟩
    have HB3 := Lib.hid hb3
    have HBS := Lib.hid (show base ≤ w3.heap.size from Nat.le_trans hw hb3.size)
    have hS3 : TabS w3 := HSB.out _ hb3
    obtain ⟨_, _, s42, _⟩ := hS3.s4
    obtain ⟨_, _, s52, _⟩ := hS3.s5
    obtain ⟨_, _, s62, _⟩ := hS3.s6
    have hgs3 := hS3.lt
    clear hS3 hg3b hb3 hK3
    obtain ⟨k3, f3⟩ := Drf.cells HD3.out 3
    simp only [draftC, List.getElem?_toArray, List.getElem?_cons_succ, List.getElem?_cons_zero] at k3
    have hlt3 := Dag.blk_lt HD3.out
    have HOW := Lib.hid (show ∀ W, (∃ o, W.heap = w3.heap.push o) → OwnN W base 48 6 TA s.tasks.length tc (flat taskC s.tasks) from fun W ⟨o, ho⟩ => HT3.out.keep fun b cs hb => by rw [ho]; exact push_lt hb)
    have hDg : D ≠ 0 := by have := hgb; omega
    have KP : Hid (∀ (W : World), (∃ o, W.heap = w3.heap.push o) → W.cell? ⟨D, 3, none⟩ = some (.slice TA s.tasks.length tc) ∧ W.cell? ⟨0, 18, none⟩ = some (.int .i64 1) ∧ W.cell? ⟨0, 22, none⟩ = some (.int .i64 1) ∧ W.cell? ⟨0, 26, none⟩ = some (.int .i64 0)) :=
      Lib.hid fun W ⟨o, ho⟩ => ⟨pushed_cell ho k3, pushed_cell ho s42, pushed_cell ho s52, pushed_cell ho s62⟩
    refine wp_region_parts (fun (W : World) => W.cell? ⟨D, 3, none⟩ = some (.slice TA s.tasks.length tc) ∧ W.cell? ⟨0, 18, none⟩ = some (.int .i64 1) ∧ W.cell? ⟨0, 22, none⟩ = some (.int .i64 1) ∧ W.cell? ⟨0, 26, none⟩ = some (.int .i64 0)) 17 19 (by kernel_rfl) (by kernel_rfl) (fun _ _ d _ _ h => by cases d <;> exact h) ⟨k3, s42, s52, s62⟩ ?_
    simp only [List.take_succ_cons, List.take_zero, List.drop_succ_cons, List.drop_zero]
    iterate 17 (refine wpLead_step (v := ?_) (by rfl) ?_ ?_; rotate_left; (intro W hW; (try dsimp only at hW); go_simp; (try with_reducible rfl)); try simp only [Act.put, List.setIfInBounds_toArray, List.set_cons_zero, List.set_cons_succ])
    intro K hK
    go_simp
    refine hK.out _ _ (KP.out _ ⟨_, rfl⟩) ?_
    clear hK K
    try simp only [Act.put, List.setIfInBounds_toArray, List.set_cons_zero, List.set_cons_succ]
    intro K hK
    refine step_apn rfl (.tmp 36) (.tmp 48) 23 48 _ 6 72 Tryz.underlying23 info_task rfl (by decide) (by decide) rfl base TA s.tasks.length tc (flat taskC s.tasks) (by simp [Act.eval]) (HOW.out _ ⟨_, rfl⟩) w3.heap.size 1 (taskC (newTask a)) (by simp [Act.eval]) rfl ⟨_, heap_alloc_new w3 _⟩ (taskC_one _) (by omega) (by have := HBS.out; simp; omega) ?_
    intro A4 c4 w4 ho4 hg4 hb4
    have hk4 := pushed_kept ⟨_, rfl⟩ HT3.out hg4 [55, 110, 3, 60] (by decide)
    have hD4 := (hk4.1 _ (by simp) D _ HD3.out).trans HD3.out
    have hb4' := pushed_trans hb4 ⟨_, rfl⟩ rfl rfl rfl HB3.out HBS.out
    have hS4 := HSB.out _ hb4'
    obtain ⟨k3b, f3b⟩ := Drf.cells hD4 3
    simp only [draftC, List.getElem?_toArray, List.getElem?_cons_succ, List.getElem?_cons_zero] at k3b
    refine hK.out _ _ ⟨k3b, hS4.s4.2.2.1, hS4.s5.2.2.1, hS4.s6.2.2.1⟩ (wpMid_nil ?_)
    clear hK K
    have HD4 := Lib.hid hD4; have HK4 := Lib.hid hk4; have HB4 := Lib.hid hb4'
    have HO4 := Lib.hid (show OwnN w4 base 48 6 A4 (s.tasks.length + 1) c4 (flat taskC (s.tasks ++ [newTask a])) from by rw [flat_app]; exact ho4)
    have hlt4 := Dag.blk_lt hD4
    clear hg4 hb4 hk4 hb4' hS4 ho4 hD4 KP HOW s42 s52 s62 k3 f3
    try simp only [Act.put, List.setIfInBounds_toArray, List.set_cons_zero, List.set_cons_succ]
    have k14 := (Drf.cells HD4.out 14).1
    simp only [draftC, List.getElem?_toArray, List.getElem?_cons_succ, List.getElem?_cons_zero] at k14
    have hD5 := Dag.blk_set HD4.out 3 (.slice A4 (s.tasks.length + 1) c4)
    have hk5 : Kept [48, 55, 110, 3] w4 (w4.setCell ⟨D, 3, none⟩ (.slice A4 (s.tasks.length + 1) c4)) := Kept.set HD4.out (by decide)
    have hm5 : KeptM w4 (w4.setCell ⟨D, 3, none⟩ (.slice A4 (s.tasks.length + 1) c4)) := KeptM.set HD4.out
    have HB5 := Lib.hid (show Below base w (w4.setCell ⟨D, 3, none⟩ (.slice A4 (s.tasks.length + 1) c4)) from HB4.out.setCell hl _)
    have HO5 := Lib.hid (HO4.out.keep (hk5 _ (by simp)))
    have HH5 := Lib.hid ((HH3.out.keep (HK4.out.1 _ (by simp))).keep (hk5 _ (by simp)))
    have HL5 : Hid (∃ lv, OwnN (w4.setCell ⟨D, 3, none⟩ (.slice A4 (s.tasks.length + 1) c4)) base 110 2 LA s.links.length lc lv ∧ LinksAt (w4.setCell ⟨D, 3, none⟩ (.slice A4 (s.tasks.length + 1) c4)) lv s.links) := by
      obtain ⟨lv, h1, h2⟩ := HL3.out
      exact Lib.hid ⟨lv, (h1.keep (HK4.out.1 _ (by simp))).keep (hk5 _ (by simp)), (h2.keep (HK4.out.1 _ (by simp))).keep (hk5 _ (by simp))⟩
    have HM5 := Lib.hid ((HM3.out.keepM HK4.out.2).keepM hm5)
    have HD5 := Lib.hid hD5
    have HSZ := Lib.hid (show (w4.setCell ⟨D, 3, none⟩ (.slice A4 (s.tasks.length + 1) c4)).heap.size = w4.heap.size from by simp [World.setCell])
    have HBS5 := Lib.hid (show base ≤ (w4.setCell ⟨D, 3, none⟩ (.slice A4 (s.tasks.length + 1) c4)).heap.size from Nat.le_trans hw HB5.out.size)
    clear hk5 hm5 hD5
    have HOW := Lib.hid (show ∀ W : World, (∃ o, W.heap = (w4.setCell ⟨D, 3, none⟩ (.slice A4 (s.tasks.length + 1) c4)).heap.push o) → OwnN W base 55 9 HA s.tasks.length hc (flat toldC s.tasks) from fun W ⟨o, ho⟩ => HH5.out.keep fun b cs hb => by rw [ho]; exact push_lt hb)
    go_wp2_with (at_builtin; refine wpList_apn rfl (.tmp 57) (.tmp 59) 57 55 _ 9 9 Tryz.underlying57 info_marks rfl (by decide) (by decide) rfl base HA s.tasks.length hc (flat toldC s.tasks) rfl (HOW.out _ ⟨_, rfl⟩) w4.heap.size 1 (toldC (newTask a)) rfl rfl ⟨_, pushed_new rfl HSZ.out⟩ (toldC_one _) (by omega) (by have := HBS5.out; have := HSZ.out; simp; omega) ?_; intro A6 c6 w6 ho6 hg6 hb6; have hk6 := pushed_kept ⟨_, rfl⟩ HH5.out hg6 [48, 110, 3, 60] (by decide); have hD6 := (hk6.1 _ (by simp) D _ HD5.out).trans HD5.out; have hb6' := pushed_trans hb6 ⟨_, rfl⟩ rfl rfl rfl HB5.out HBS5.out; have k14b := Dag.blk_cell hD6 14; have f14b := Dag.blk_frozen hD6 14; simp [draftC] at k14b; have HD6 := Lib.hid hD6; have HK6 := Lib.hid hk6; have HB6 := Lib.hid hb6'; have HO6 := Lib.hid (show OwnN w6 base 55 9 A6 (s.tasks.length + 1) c6 (flat toldC (s.tasks ++ [newTask a])) from by rw [flat_app]; exact ho6); have hlt6 := Dag.blk_lt hD6; clear hg6 hb6 hk6 hb6' ho6 hD6 k14)
    go_ret
    have hk7 : Kept [48, 55, 110, 3] w6 (w6.setCell ⟨D, 14, none⟩ (.slice A6 (s.tasks.length + 1) c6)) := Kept.set HD6.out (by decide)
    have hm7 : KeptM w6 (w6.setCell ⟨D, 14, none⟩ (.slice A6 (s.tasks.length + 1) c6)) := KeptM.set HD6.out
    have hl1 : (s.tasks ++ [newTask a]).length = s.tasks.length + 1 := by simp
    refine ret_ok HN.out ⟨⟨A4, c4, A6, c6, LA, lc, M, ?_, ?_⟩, hl⟩ (HB6.out.setCell hl _)
    · rw [Dag.blk_set HD6.out _ _]
      simp [draftC, hl1]
    · refine ⟨?_, ?_, ?_, ?_, HP.out.low, ?_⟩
      · rw [hl1]; exact (HO5.out.keep (HK6.out.1 _ (by simp))).keep (hk7 _ (by simp))
      · rw [hl1]; exact HO6.out.keep (hk7 _ (by simp))
      · obtain ⟨lv, h1, h2⟩ := HL5.out
        exact ⟨lv, (h1.keep (HK6.out.1 _ (by simp))).keep (hk7 _ (by simp)), (h2.keep (HK6.out.1 _ (by simp))).keep (hk7 _ (by simp))⟩
      · have := (HM5.out.keepM HK6.out.2).keepM hm7
        rw [hl1]; exact this
      · intro t ht
        rcases List.mem_append.1 ht with ht | ht
        · exact HP.out.nm t ht
        · simp at ht; subst ht; exact hml

end Go.Proofs.YtkcijibkloamkaaGreatDoor

