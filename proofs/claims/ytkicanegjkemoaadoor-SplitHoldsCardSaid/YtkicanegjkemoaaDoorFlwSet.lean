/- A number of the whole workflow; a task more. -/
import Derived.Test.YtkicanegjkemoaaDoorFlwReg
import Derived.StillTailTactics
import Derived.Deep.RegionHeld3
namespace Go.Proofs.YtkicanegjkemoaaDoor
open Go.RowKit
open Clk (readE readV)
open Txt (nameD)
set_option linter.unusedVariables false
set_option maxRecDepth 100000

theorem taskC_one (t : TaskP) : ∀ u ∈ taskC t, u.oneCell' = true := by
  intro u hu
  simp only [taskC, List.mem_cons, List.mem_nil_iff, or_false] at hu
  rcases hu with rfl | rfl | rfl | rfl | rfl | rfl <;> rfl
theorem toldC_one (t : TaskP) : ∀ u ∈ toldC t, u.oneCell' = true := by
  intro u hu
  simp only [toldC, marksC, List.mem_cons, List.mem_nil_iff, or_false] at hu
  rcases hu with rfl | rfl | rfl | rfl | rfl | rfl | rfl | rfl | rfl <;> rfl
/-- append of one element of sz cells onto a row of one's own -/
theorem wpList_apn {w : World} {ops : Array Oper} {rest : List Oper} {o : Oper} {a : Act} {Q : Exit → Act → World → Prop} (hgd : o.guard = none) (s x : Operand) (t e : TypeId) (z : Value) (sz bytes : Nat)
    (hu : Tryd.prog.underlying t = some (.slice e)) (hinfo : (Tryd.prog.info? e).map (fun i => (i.zero, i.size, i.bytes)) = some (some z, sz, bytes)) (hz : z.cells.size = sz) (hsz : 0 < sz) (hby : bytes ≤ 100)
    (ho : o.op = .call { callee := .builtin .append, args := #[s, x], argTypes := #[t, t] })
    (base : Nat) (A : Option Addr) (n c : Nat) (us : List Value) (hs : a.eval s = .slice A n c) (hown : OwnN w base e sz A n c us) (g cx : Nat) (news : List Value) (hx : a.eval x = .slice (some ⟨g, 0, none⟩) 1 cx) (hl : news.length = sz)
    (hr : ∃ ty, w.heap[g]? = some (Obj.cells news.toArray ty (0, 0))) (hone : ∀ u ∈ news, u.oneCell' = true) (hlen : n ≤ 1000000) (hbase : base ≤ w.heap.size)
    (h : ∀ (A' : Option Addr) (c' : Nat) (w' : World), OwnN w' base e sz A' (n + 1) c' (us ++ news) → w.grownBy w' (Value.slice A n c).ownBlock → Below base w w' →
      wpList Tryd.prog ops Q rest (a.put o.dst (.slice A' (n + 1) c')) w') :
    wpList Tryd.prog ops Q (o :: rest) a w := by
  obtain ⟨i0, hi0, hz0, hz1, hz2⟩ := info_parts hinfo
  obtain ⟨ty, hr⟩ := hr
  refine wpList_append_own_at w hgd s x _ ho base _ i0 z sz bytes hu hi0 hz0 hz1 hz2 hz hsz _ n us hs hown ⟨g, 0, none⟩ 1 cx news hx (by omega) ?_ hone (by simp only [maxLen]; omega) ?_ hbase ?_
  · intro j u hu'
    rw [Go.WideShapes.add_plain, Nat.zero_add, Dag.blk_cell hr, List.getElem?_toArray]
    exact hu'
  · have : (n + 1) * bytes ≤ 1000001 * 100 := Nat.mul_le_mul (by omega) hby
    omega
  · intro v' w' hown' hg _ hb
    rcases hown'.2 with ⟨hv, h0⟩ | ⟨g2, cap, cur, hv, hbg, hh, rst⟩
    · omega
    · subst hv
      exact h _ _ w' hown' hg ((Below.refl _ _).grown hg hbase fun k hk => by
        cases A with
        | none => cases hk
        | some a' => injection hk with hk; subst hk; exact (OwnN.lt hown rfl).1)
theorem info_task : (Tryd.prog.info? 43).map (fun i => (i.zero, i.size, i.bytes)) = some (some (.agg #[.string ⟨#[]⟩, .int .i64 0, .int .i64 0, .int .i64 0, .bool false, .slice none 0 0]), 6, 72) := by kernel_rfl
theorem drew_below (w : World) : Below w.heap.size w w.drew := ⟨rfl, rfl, rfl, Nat.le_refl _, fun _ _ => rfl⟩
/-- the same, as one step of a region that draws -/
theorem step_apn {ops : Array Oper} {o : Oper} {a : Act} {w : World} {K : Act → World → Prop} {Q : Exit → Act → World → Prop} {E : Prop} (hgd : o.guard = none) (s x : Operand) (t e : TypeId) (z : Value) (sz bytes : Nat)
    (hu : Tryd.prog.underlying t = some (.slice e)) (hinfo : (Tryd.prog.info? e).map (fun i => (i.zero, i.size, i.bytes)) = some (some z, sz, bytes)) (hz : z.cells.size = sz) (hsz : 0 < sz) (hby : bytes ≤ 100)
    (ho : o.op = .call { callee := .builtin .append, args := #[s, x], argTypes := #[t, t] })
    (base : Nat) (A : Option Addr) (n c : Nat) (us : List Value) (hs : a.eval s = .slice A n c) (hown : OwnN w base e sz A n c us) (g cx : Nat) (news : List Value) (hx : a.eval x = .slice (some ⟨g, 0, none⟩) 1 cx) (hl : news.length = sz)
    (hr : ∃ ty, w.heap[g]? = some (Obj.cells news.toArray ty (0, 0))) (hone : ∀ u ∈ news, u.oneCell' = true) (hlen : n ≤ 1000000) (hbase : base ≤ w.heap.size)
    (h : ∀ (A' : Option Addr) (c' : Nat) (w' : World), OwnN w' base e sz A' (n + 1) c' (us ++ news) → w.grownBy w' (Value.slice A n c).ownBlock → Below base w w' → K (a.put o.dst (.slice A' (n + 1) c')) w') :
    if Region.wanted o (yielded ops a.tmps) = true then Oper.wp Tryd.prog o a w K Q else E := by
  have hw : Region.wanted o (yielded ops a.tmps) = true := by simp [Region.wanted, hgd]
  rw [if_pos hw]
  obtain ⟨i0, hi0, hz0, hz1, hz2⟩ := info_parts hinfo
  obtain ⟨ty, hr⟩ := hr
  have hby2 : (n + 1) * bytes ≤ 1000001 * 100 := Nat.mul_le_mul (by omega) hby
  obtain ⟨v', w', hrun, r1, r2, r3, r4⟩ := run_append_own_at (P := Tryd.prog) w base t o.type e i0 z sz bytes hu hi0 hz0 hz1 hz2 hz hsz (.slice A n c) n us hown ⟨g, 0, none⟩ 1 cx news (by omega) (fun j u hu' => by
    rw [Go.WideShapes.add_plain, Nat.zero_add, Dag.blk_cell hr, List.getElem?_toArray]; exact hu') hone (by simp only [maxLen]; omega) (by omega) hbase
  unfold Oper.wp
  simp [execOp, ho, resolve, invoke, builtin, hs, hx, hrun, Result.andThen]
  rcases r1.2 with ⟨hv, h0⟩ | ⟨g2, cap, cur, hv, hbg, hh, rst⟩
  · omega
  · subst hv
    exact h _ _ w' r1 r2 ((Below.refl _ _).grown r2 hbase fun k hk => by
      cases A with
      | none => cases hk
      | some a' => injection hk with hk; subst hk; exact (OwnN.lt hown rfl).1)
theorem push_lt {α : Type} {a : Array α} {b : Nat} {x y : α} (h : a[b]? = some x) : (a.push y)[b]? = a[b]? := by
  have := (Array.getElem?_eq_some_iff.1 h).1
  rw [Array.getElem?_push, if_neg (by omega)]
theorem pushed_new {w W : World} {o : Obj} {g : Nat} (h : W.heap = w.heap.push o) (hg : w.heap.size = g) : W.heap[g]? = some o := by subst hg; rw [h]; simp
theorem pushed_cell {w W : World} {o : Obj} {p : Addr} {v : Value} (h : W.heap = w.heap.push o) (hc : w.cell? p = some v) : W.cell? p = some v :=
  (cell_keep (by rw [h]; exact push_lt (Array.getElem?_eq_getElem (World.block_lt_of_cell? w _ hc)))).trans hc
theorem pushed_trans {w w3 W w4 : World} {base : Nat} (hb4 : Below base W w4) (hp : ∃ o, W.heap = w3.heap.push o) (h1 : W.os = w3.os) (h2 : W.tape = w3.tape) (h3 : W.output = w3.output) (hb3 : Below base w w3) (hle : base ≤ w3.heap.size) : Below base w w4 := by
  obtain ⟨o, ho⟩ := hp
  have hbW : Below base w3 W := ⟨h1, h2, h3, by rw [ho]; simp, fun k hk => by
    have hk' : k < w3.heap.size := by omega
    rw [ho, Array.getElem?_push, if_neg (by omega)]⟩
  exact (hb3.trans hbW).trans hb4
theorem pushed_kept {w3 W w4 : World} {A : Option Addr} {n c base sz : Nat} {e : TypeId} {us : List Value} (hp : ∃ o, W.heap = w3.heap.push o) (ho : OwnN w3 base e sz A n c us) (hg : W.grownBy w4 (Value.slice A n c).ownBlock) (tys : List TypeId) (ht : e ∉ tys) : Kept tys w3 w4 ∧ KeptM w3 w4 := by
  obtain ⟨o, ho'⟩ := hp
  have hW : OwnN W base e sz A n c us := ho.keep fun b cs hb => by rw [ho']; exact push_lt hb
  constructor
  · intro ty hty b cs hb
    have hb' : W.heap[b]? = some (Obj.cells cs ty (0, 0)) := by rw [ho', push_lt hb]; exact hb
    rw [Kept.grown (tys := tys) hg hW ht ty hty b cs hb', hb', hb]
  · intro b es m hb
    have hb' : W.heap[b]? = some (Obj.map es m) := by rw [ho', push_lt hb]; exact hb
    rw [KeptM.grown hg hW b es m hb', hb', hb]
/-- the index, with a task more -/
theorem nameI_app {ts : List TaskP} {a : List UInt8} (ha : a ∉ namesP ts) : updM (nameI ts) a (ts.length : Int) = nameI (ts ++ [newTask a]) := by
  have hn : namesP (ts ++ [newTask a]) = namesP ts ++ [a] := by simp [namesP, newTask]
  have hl : (namesP ts).length = ts.length := by simp [namesP]
  funext s
  unfold updM nameI
  rw [hn]
  by_cases e : s = a
  · subst e
    rw [if_pos rfl, if_pos (by simp), List.idxOf_append, if_neg ha]
    simp [hl]
  · rw [if_neg e]
    by_cases hs : s ∈ namesP ts
    · rw [if_pos hs, if_pos (by simp [hs]), List.idxOf_append, if_pos hs]
    · rw [if_neg hs, if_neg (by simp [hs, e])]
theorem nameI_none {ts : List TaskP} {a : List UInt8} (ha : a ∉ namesP ts) : nameI ts a = none := by unfold nameI; rw [if_neg ha]

end Go.Proofs.YtkicanegjkemoaaDoor

