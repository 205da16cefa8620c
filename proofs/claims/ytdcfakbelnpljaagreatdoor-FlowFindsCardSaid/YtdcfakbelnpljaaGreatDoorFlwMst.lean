/- A copy of a workflow that is spoiled by its owner. -/
import Derived.Test.YtdcfakbelnpljaaGreatDoorFlwFcp
namespace Go.Proofs.YtdcfakbelnpljaaGreatDoor
open Go.RowKit
open Dag (Ints IRows Own1 OwnI Sl ints)
set_option linter.unusedVariables false
set_option maxRecDepth 100000

/-- block g, in which cell i is, has the type ty, and lies in the middle -/
def Mid (W : World) (ty : TypeId) (lo hi : Nat) (A : Option Addr) (P : Array Value → Prop) : Prop := ∃ g, A = some ⟨g, 0, none⟩ ∧ lo ≤ g ∧ g < hi ∧ ∃ cs, W.heap[g]? = some (Obj.cells cs ty (0, 0)) ∧ P cs
/-- a copy that is being spoiled: its tasks, and their links, can be written; all from block hi on is as in wd -/
structure Mst (w wd : World) (f : FlowD) (A : Option Addr) (c : Nat) (L : List TaskA) (cb lo hi : Nat) (W : World) : Prop where
  fl : W.heap[cb]? = some (flowO f A c)
  row : ∀ (j : Nat) (x : TaskA), L[j]? = some x → Mid W 57 lo hi A fun cs => j * 6 < cs.size ∧ cs[j * 6 + 5]? = some (.slice x.2.1 x.1.after.length x.2.2)
  ints : ∀ (j : Nat) (x : TaskA), L[j]? = some x → ∀ m, m < x.1.after.length → Mid W 3 lo hi x.2.1 fun cs => m < cs.size
  keep : ∀ b, hi ≤ b → b ≠ cb → W.heap[b]? = wd.heap[b]?
  bel : Below w.heap.size w W
  lo : w.heap.size ≤ lo
section
variable {w wd : World} {f : FlowD} {A : Option Addr} {c : Nat} {L : List TaskA} {cb lo hi : Nat} {W : World}
theorem Mst.setI (h : Mst w wd f A c L cb lo hi W) {j m : Nat} {x : TaskA} (hx : L[j]? = some x) (hm : m < x.1.after.length) :
    ∃ g, x.2.1 = some ⟨g, 0, none⟩ ∧ g < W.heap.size ∧ (∃ u, W.cell? ⟨g, m, none⟩ = some u) ∧ W.frozen? ⟨g, m, none⟩ = false ∧ ∀ u, Mst w wd f A c L cb lo hi (W.setCell ⟨g, m, none⟩ u) := by
  obtain ⟨g, e, h1, h2, cs, h3, h4⟩ := h.ints j x hx m hm
  refine ⟨g, e, Dag.blk_lt h3, ⟨cs[m], by rw [Dag.blk_cell h3, Array.getElem?_eq_getElem h4]⟩, Dag.blk_frozen h3 m, fun u => ⟨?_, fun j y hy => ?_, fun j y hy i hi' => ?_, fun b hb hne => ?_, h.bel.setCell (Nat.le_trans h.lo h1) _, h.lo⟩⟩
  · exact (Dag.blk_other (ty_ne h.fl h3 (by decide))).trans h.fl
  · obtain ⟨g', e', a1, a2, cs', a3, a4⟩ := h.row j y hy
    exact ⟨g', e', a1, a2, cs', (Dag.blk_other (ty_ne a3 h3 (by decide))).trans a3, a4⟩
  · obtain ⟨g', e', a1, a2, cs', a3, a4⟩ := h.ints j y hy i hi'
    by_cases eg : g' = g
    · subst eg
      rw [h3] at a3
      injection a3 with a3
      injection a3 with a3
      subst a3
      exact ⟨_, e', a1, a2, _, Dag.blk_set h3 _ _, by simpa using a4⟩
    · exact ⟨g', e', a1, a2, cs', (Dag.blk_other eg).trans a3, a4⟩
  · rw [Dag.blk_other (by omega)]; exact h.keep b hb hne
theorem Mst.setN (h : Mst w wd f A c L cb lo hi W) {j : Nat} {x : TaskA} (hx : L[j]? = some x) :
    ∃ g, A = some ⟨g, 0, none⟩ ∧ g < W.heap.size ∧ (∃ u, W.cell? ⟨g, j * 6, none⟩ = some u) ∧ W.frozen? ⟨g, j * 6, none⟩ = false ∧ W.cell? ⟨g, j * 6 + 5, none⟩ = some (.slice x.2.1 x.1.after.length x.2.2) ∧ ∀ u, Mst w wd f A c L cb lo hi (W.setCell ⟨g, j * 6, none⟩ u) := by
  obtain ⟨g, e, h1, h2, cs, h3, h4, h5⟩ := h.row j x hx
  refine ⟨g, e, Dag.blk_lt h3, ⟨cs[j * 6], by rw [Dag.blk_cell h3, Array.getElem?_eq_getElem h4]⟩, Dag.blk_frozen h3 _, by rw [Dag.blk_cell h3]; exact h5, fun u => ⟨?_, fun k y hy => ?_, fun k y hy i hi' => ?_, fun b hb hne => ?_, h.bel.setCell (Nat.le_trans h.lo h1) _, h.lo⟩⟩
  · exact (Dag.blk_other (ty_ne h.fl h3 (by decide))).trans h.fl
  · obtain ⟨g', e', a1, a2, cs', a3, a4, a5⟩ := h.row k y hy
    rw [e] at e'
    injection e' with e'
    injection e' with e'
    subst e'
    rw [h3] at a3
    injection a3 with a3
    injection a3 with a3
    subst a3
    refine ⟨g, e, a1, a2, _, Dag.blk_set h3 _ _, by simpa using a4, ?_⟩
    rw [Array.getElem?_setIfInBounds_ne (by omega)]
    exact a5
  · obtain ⟨g', e', a1, a2, cs', a3, a4⟩ := h.ints k y hy i hi'
    exact ⟨g', e', a1, a2, cs', (Dag.blk_other (ty_ne a3 h3 (by decide))).trans a3, a4⟩
  · rw [Dag.blk_other (by omega)]; exact h.keep b hb hne
/-- how it begins: a copy c of tasks, made from block lo on, in world w1; hi and wd come later -/
theorem Mst.start {w1 w0 : World} (hc : Cp w1 lo A c L L.length w0) (hlo : w.heap.size ≤ lo) (hhi : w1.heap.size ≤ hi) (hb : Below w1.heap.size w1 wd) (hfl : wd.heap[cb]? = some (flowO f A c)) (hbel : Below w.heap.size w wd) : Mst w wd f A c L cb lo hi wd := by
  refine ⟨hfl, fun j x hx => ?_, fun j x hx m hm => ?_, fun _ _ _ => rfl, hbel, hlo⟩
  · have hjl := (List.getElem?_eq_some_iff.1 hx).1
    obtain ⟨g, e, h1, h2, cs, h3⟩ := hc.addr (by omega)
    subst e
    have hcell := hc.cell (i := 5) hx (by decide) rfl
    rw [Dag.blk_cell h3] at hcell
    have := (Array.getElem?_eq_some_iff.1 hcell).1
    exact ⟨g, rfl, h1, by omega, cs, keep_obj hb h3, by omega, hcell⟩
  · have hjl := (List.getElem?_eq_some_iff.1 hx).1
    have ho := hc.own j x hjl hx
    obtain ⟨y, hy⟩ : ∃ y, x.1.after[m]? = some y := ⟨_, List.getElem?_eq_getElem hm⟩
    obtain ⟨g, e, h1, h2, h3, h4, ⟨cs, h5⟩, _⟩ := Own1.at_ ho (Dag.ints_get hy)
    rw [Dag.blk_cell h5] at h3
    exact ⟨g, e, h1, by omega, cs, keep_obj hb h5, (Array.getElem?_eq_some_iff.1 h3).1⟩
end
theorem Cp.keepHi {w w' w0 : World} {base : Nat} {A : Option Addr} {c k : Nat} {L : List TaskA} (h : Cp w base A c L k w0) (hk : ∀ b, base ≤ b → w'.heap[b]? = w.heap[b]?) : Cp w' base A c L k w0 := by
  refine ⟨⟨h.row.1, ?_⟩, fun j x hj hx => Own1.keep (h.own j x hj hx) fun b hb => hk b (Own1.lt (h.own j x hj hx) hb).1, h.old⟩
  rcases h.row.2 with h0 | ⟨g, cap, cur, hv, hbg, hh, rest⟩
  · exact Or.inl h0
  · exact Or.inr ⟨g, cap, cur, hv, hbg, by rw [hk g hbg]; exact hh, rest⟩

end Go.Proofs.YtdcfakbelnpljaaGreatDoor
