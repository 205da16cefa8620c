/- flow.Copy: a workflow in memory of the call's own. -/
import Derived.Test.YtkcijibkloamkaaGreatDoorFlwCpy
import Derived.Test.YtkcijibkloamkaaGreatDoorFlwRNum
import Derived.Test.YtkcijibkloamkaaGreatDoorFlwParse
namespace Go.Proofs.YtkcijibkloamkaaGreatDoor
open Go.RowKit
open Dag (Ints IRows Own1 OwnI Sl ints)
set_option linter.unusedVariables false
set_option maxRecDepth 100000

/-- the tasks L in a row of the call's own; the links of the first k too, the others' lie as in w0 -/
structure Cp (w : World) (base : Nat) (A : Option Addr) (c : Nat) (L : List TaskA) (k : Nat) (w0 : World) : Prop where
  row : OwnN w base 48 6 A L.length c (flat tkC L)
  own : ∀ j x, j < k → L[j]? = some x → OwnI w base (.slice x.2.1 x.1.after.length x.2.2) x.1.after
  old : ∀ j x, k ≤ j → L[j]? = some x → Ints w0 x.2.1 x.2.2 x.1.after
section
variable {w w' w0 : World} {base : Nat} {A : Option Addr} {c k : Nat} {L : List TaskA}
theorem OwnI.keepK {v : Value} {xs : List Int} {tys : List TypeId} (h : OwnI w base v xs) (hk : Kept tys w w') (ht : 3 ∈ tys) : OwnI w' base v xs := by
  refine Own1.keep h fun b hb => ?_
  obtain ⟨cs, hcs⟩ := Own1.typed h hb
  exact hk _ ht b cs hcs
theorem Cp.keep (h : Cp w base A c L k w0) (hk : Kept [48, 3] w w') : Cp w' base A c L k w0 :=
  ⟨h.row.keep (hk _ (by simp)), fun j x hj hx => OwnI.keepK (h.own j x hj hx) hk (by simp), h.old⟩
theorem Cp.below (h : Cp w base A c L k w0) (hb : Below w.heap.size w w') : Cp w' base A c L k w0 := h.keep (Kept.below hb)
/-- the row lies somewhere -/
theorem Cp.addr (h : Cp w base A c L k w0) (hk : 0 < L.length) : ∃ g, A = some ⟨g, 0, none⟩ ∧ base ≤ g ∧ g < w.heap.size ∧ ∃ cs, w.heap[g]? = some (Obj.cells cs 48 (0, 0)) := by
  have hl : (flat tkC L).length = L.length * 6 := flat_len tkC_len L
  obtain ⟨u, hu⟩ : ∃ u, (flat tkC L)[0]? = some u := ⟨_, List.getElem?_eq_getElem (by omega)⟩
  obtain ⟨g, e, h1, h2, _, _, h3, _⟩ := OwnN.at_ h.row hu
  exact ⟨g, e, h1, h2, h3⟩
/-- a cell of a task -/
theorem Cp.cell {b : Nat} (h : Cp w base (some ⟨b, 0, none⟩) c L k w0) {j i : Nat} {x : TaskA} {u : Value} (hx : L[j]? = some x) (hi : i < 6) (hu : (tkC x)[i]? = some u) : w.cell? ⟨b, j * 6 + i, none⟩ = some u := by
  have hu' : (flat tkC L)[j * 6 + i]? = some u := by rw [flat_get tkC_len L j i x hx hi]; exact hu
  obtain ⟨g, e, _, _, hc, _⟩ := OwnN.at_ h.row hu'
  injection e with e; injection e with e; subst e
  exact hc
/-- one more has links of its own -/
theorem Cp.step {b : Nat} (h : Cp w base (some ⟨b, 0, none⟩) c L k w0) {x : TaskA} (hx : L[k]? = some x) {A9 : Option Addr} {c9 : Nat} (ho : OwnI w base (.slice A9 x.1.after.length c9) x.1.after) :
    (∃ u, w.cell? ⟨b, k * 6 + 5, none⟩ = some u) ∧ w.frozen? ⟨b, k * 6 + 5, none⟩ = false ∧ Cp (w.setCell ⟨b, k * 6 + 5, none⟩ (.slice A9 x.1.after.length c9)) base (some ⟨b, 0, none⟩) c (L.set k (x.1, A9, c9)) (k + 1) w0 := by
  have hu : (flat tkC L)[k * 6 + 5]? = some (.slice x.2.1 x.1.after.length x.2.2) := by rw [flat_get tkC_len L k 5 x hx (by decide)]; rfl
  obtain ⟨g, e, h1, h2, h3, h4, ⟨cs, h5⟩, h6⟩ := OwnN.at_ h.row hu
  injection e with e; injection e with e; subst e
  have hset := flat_set tkC_len L k 5 x (x.1, A9, c9) (.slice A9 x.1.after.length c9) hx (by decide) rfl
  have hkp : Kept [3] w (w.setCell ⟨b, k * 6 + 5, none⟩ (.slice A9 x.1.after.length c9)) := Kept.set h5 (by decide)
  refine ⟨⟨_, h3⟩, h4, ?_, fun j y hj hy => ?_, fun j y hj hy => ?_⟩
  · rw [List.length_set, ← hset]; exact h6 _
  · rcases Nat.lt_or_ge j k with hjk | hjk
    · rw [List.getElem?_set_ne (by omega)] at hy
      exact OwnI.keepK (h.own j y hjk hy) hkp (by simp)
    · obtain rfl : j = k := by omega
      rw [List.getElem?_set_self (List.getElem?_eq_some_iff.1 hx).1] at hy
      injection hy with hy; subst hy
      exact OwnI.keepK ho hkp (by simp)
  · rw [List.getElem?_set_ne (by omega)] at hy
    exact h.old j y (by omega) hy
/-- all done: a workflow's tasks -/
theorem Cp.tasks {ts : List TaskD} (h : Cp w base A c L L.length w0) (hm : L.map Prod.fst = ts) (hn : ∀ t ∈ ts, t.name.length ≤ maxLen) : Tasks w A c ts := by
  have hl : ts.length = L.length := by rw [← hm, List.length_map]
  obtain ⟨h1, h2, h3⟩ := OwnN.cap h.row
  refine ⟨fun k t ht => ?_, by omega, h2, h3, hn⟩
  obtain ⟨x, hx⟩ : ∃ x, L[k]? = some x := ⟨_, List.getElem?_eq_getElem (by have := (List.getElem?_eq_some_iff.1 ht).1; omega)⟩
  have hxt : x.1 = t := by
    have : (L.map Prod.fst)[k]? = some x.1 := by rw [List.getElem?_map, hx]; rfl
    rw [hm, ht] at this
    injection this with this; exact this.symm
  subst hxt
  have hkl := (List.getElem?_eq_some_iff.1 hx).1
  obtain ⟨g, e, _⟩ := h.addr (by omega)
  subst e
  have hc := fun i u hi hu => h.cell (j := k) (i := i) (u := u) hx hi hu
  refine ⟨g, 0, x.2.1, x.2.2, rfl, ?_⟩
  rw [Nat.zero_add]
  exact ⟨hc 0 _ (by decide) rfl, hc 1 _ (by decide) rfl, hc 2 _ (by decide) rfl, hc 3 _ (by decide) rfl, hc 4 _ (by decide) rfl, hc 5 _ (by decide) rfl, (OwnI.ints' (h.own k x hkl hx)).2⟩
end
theorem set_fst {L : List TaskA} {k : Nat} {x : TaskA} (hx : L[k]? = some x) (A : Option Addr) (c : Nat) : (L.set k (x.1, A, c)).map Prod.fst = L.map Prod.fst := by
  apply List.ext_getElem?
  intro j
  rw [List.getElem?_map, List.getElem?_map]
  by_cases e : k = j
  · subst e
    rw [List.getElem?_set_self (List.getElem?_eq_some_iff.1 hx).1, hx]; rfl
  · rw [List.getElem?_set_ne e]
theorem OwnN.rebase {w : World} {base base' sz : Nat} {e : TypeId} {A : Option Addr} {n c : Nat} {us : List Value} (h : OwnN w base e sz A n c us) (hb : base' ≤ base) : OwnN w base' e sz A n c us := by
  refine ⟨h.1, ?_⟩
  rcases h.2 with h0 | ⟨g, cap, cur, hv, hbg, rest⟩
  · exact Or.inl h0
  · exact Or.inr ⟨g, cap, cur, hv, Nat.le_trans hb hbg, rest⟩
def RetCopy (f : FlowD) (w : World) (e : Ending) (w' : World) : Prop := ∃ A' c' L, e = .returned (.agg #[.string (sb f.name), .int .i64 f.deadline, .int .i64 f.priority, .slice A' f.tasks.length c']) ∧ L.map Prod.fst = f.tasks ∧ Cp w' w.heap.size A' c' L L.length w ∧ Below w.heap.size w w'

theorem Cp.retarget {w w0 w1 : World} {base : Nat} {A : Option Addr} {c : Nat} {L : List TaskA} (h : Cp w base A c L L.length w0) : Cp w base A c L L.length w1 :=
  ⟨h.row, h.own, fun j x hj hx => absurd (List.getElem?_eq_some_iff.1 hx).1 (by omega)⟩
theorem flowO_set {w : World} {b : Nat} {f : FlowD} {A : Option Addr} {c : Nat} (h : w.heap[b]? = some (flowO f A c)) (A' : Option Addr) (c' : Nat) : (w.setCell ⟨b, 3, none⟩ (.slice A' f.tasks.length c')).heap[b]? = some (flowO f A' c') := by
  rw [Dag.blk_set h]; simp [flowO]
/-- what the loop of Copy holds -/
structure Cst (w : World) (f : FlowD) (A1 : Option Addr) (c1 : Nat) (k : Nat) (L : List TaskA) (W : World) : Prop where
  fst : L.map Prod.fst = f.tasks
  cp : Cp W w.heap.size A1 c1 L k w
  fl : W.heap[w.heap.size]? = some (flowO f A1 c1)
  rs : W.heap[w.heap.size + 1]? = some (.cells zero4 25 (0, 0))
  bel : Below w.heap.size w W
theorem Cst.below {w : World} {f : FlowD} {A1 : Option Addr} {c1 k : Nat} {L : List TaskA} {W W' : World} (h : Cst w f A1 c1 k L W) (hb : Below W.heap.size W W') : Cst w f A1 c1 k L W' :=
  ⟨h.fst, h.cp.below hb, keep_obj hb h.fl, keep_obj hb h.rs, h.bel.trans (hb.mono h.bel.size)⟩
theorem Cst.len {w : World} {f : FlowD} {A1 : Option Addr} {c1 k : Nat} {L : List TaskA} {W : World} (h : Cst w f A1 c1 k L W) : L.length = f.tasks.length := by rw [← h.fst, List.length_map]

/-- a task more has links of its own -/
theorem Cst.step {w : World} {f : FlowD} {b c1 k : Nat} {L : List TaskA} {W : World} (h : Cst w f (some ⟨b, 0, none⟩) c1 k L W) {x : TaskA} (hx : L[k]? = some x) {A9 : Option Addr} {c9 : Nat} (ho : OwnI W w.heap.size (.slice A9 x.1.after.length c9) x.1.after) :
    (∃ u, W.cell? ⟨b, k * 6 + 5, none⟩ = some u) ∧ W.frozen? ⟨b, k * 6 + 5, none⟩ = false ∧ Cst w f (some ⟨b, 0, none⟩) c1 (k + 1) (L.set k (x.1, A9, c9)) (W.setCell ⟨b, k * 6 + 5, none⟩ (.slice A9 x.1.after.length c9)) := by
  obtain ⟨h1, h2, h3⟩ := h.cp.step hx ho
  obtain ⟨g, e, hgb, hgl, cs, hcs⟩ := h.cp.addr (by have := (List.getElem?_eq_some_iff.1 hx).1; omega)
  injection e with e; injection e with e; subst e
  exact ⟨h1, h2, by rw [set_fst hx]; exact h.fst, h3, (Dag.blk_other (ty_ne h.fl hcs (by decide))).trans h.fl, (Dag.blk_other (ty_ne h.rs hcs (by decide))).trans h.rs, h.bel.setCell hgb _⟩

end Go.Proofs.YtkcijibkloamkaaGreatDoor

