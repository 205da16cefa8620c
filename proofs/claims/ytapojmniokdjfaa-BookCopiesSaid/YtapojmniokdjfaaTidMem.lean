/- A row of steps that is written in place: block g, from its start. -/
import Derived.Test.YtapojmniokdjfaaStpH
import Derived.Test.YtapojmniokdjfaaTidPure
import Derived.Deep.MidRow
namespace Go.Proofs.Ytapojmniokdjfaa.Stp
open Go.RowKit Go.Shelf Go.Proofs.Ytapojmniokdjfaa.Srt
set_option linter.unusedVariables false
set_option maxRecDepth 100000

-- as in layer 6's texts, which this seat does not have
namespace Srt
theorem setCells_blk (b : Nat) (t : TypeId) : ∀ (vs : List Value) (o : Nat) (w : World) (cur : Array Value), w.heap[b]? = some (Obj.cells cur t (0, 0)) → o + vs.length ≤ cur.size →
    ∃ cur' : Array Value, (w.setCells b o vs).heap[b]? = some (Obj.cells cur' t (0, 0)) ∧ cur'.size = cur.size ∧ ∀ j : Nat, cur'[j]? = if o ≤ j ∧ j < o + vs.length then vs[j - o]? else cur[j]?
  | [], o, w, cur, h, _ => ⟨cur, h, rfl, fun j => by rw [if_neg (by simp only [List.length_nil]; omega)]⟩
  | v :: vs, o, w, cur, h, hs => by
    simp only [List.length_cons] at hs
    obtain ⟨cur', h1, h2, h3⟩ := setCells_blk b t vs (o + 1) (w.setCell ⟨b, o, none⟩ v) (cur.setIfInBounds o v) (Dag.blk_set h o v) (by simp; omega)
    refine ⟨cur', h1, by rw [h2]; simp, fun j => ?_⟩
    rw [h3 j]
    simp only [List.length_cons]
    by_cases e1 : o = j
    · subst e1
      rw [if_neg (by omega), if_pos (by omega), Nat.sub_self, List.getElem?_cons_zero, Array.getElem?_setIfInBounds_self_of_lt (by omega)]
    · by_cases e2 : o + 1 ≤ j ∧ j < o + 1 + vs.length
      · rw [if_pos e2, if_pos (by omega), show j - o = (j - (o + 1)) + 1 from by omega, List.getElem?_cons_succ]
      · rw [if_neg e2, if_neg (by omega), Array.getElem?_setIfInBounds_ne e1]
theorem setCells_other (b : Nat) : ∀ (vs : List Value) (o : Nat) (w : World) (k : Nat), k ≠ b → (w.setCells b o vs).heap[k]? = w.heap[k]?
  | [], _, _, _, _ => rfl
  | v :: vs, o, w, k, h => (setCells_other b vs (o + 1) _ k h).trans (Dag.blk_other h)
theorem setCells_rest (b : Nat) : ∀ (vs : List Value) (o : Nat) (w : World), (w.setCells b o vs).os = w.os ∧ (w.setCells b o vs).tape = w.tape ∧ (w.setCells b o vs).output = w.output ∧ (w.setCells b o vs).heap.size = w.heap.size
  | [], _, _ => ⟨rfl, rfl, rfl, rfl⟩
  | v :: vs, o, w => by
    obtain ⟨h1, h2, h3, h4⟩ := setCells_rest b vs (o + 1) (w.setCell ⟨b, o, none⟩ v)
    exact ⟨h1, h2, h3, h4.trans (by simp [World.setCell])⟩
end Srt

structure RowS (w : World) (g c : Nat) (X : List StepD) : Prop where
  blk : ∃ cur : Array Value, w.heap[g]? = some (Obj.cells cur 58 (0, 0)) ∧ cur.size = c * 2 ∧ ∀ k s, X[k]? = some s → cur[k * 2]? = some (.int .i64 s.at_) ∧ cur[k * 2 + 1]? = some (.int .i64 s.fr)
  cap : X.length ≤ c
  top : c ≤ maxLen
section
variable {w w' : World} {g c : Nat} {X : List StepD}
theorem RowS.stp (h : RowS w g c X) : Stp w (some ⟨g, 0, none⟩) c X := by
  obtain ⟨cur, h1, h2, h3⟩ := h.blk
  refine ⟨fun k s hk => ⟨g, 0, rfl, ?_, ?_⟩, h.cap, h.top, fun e => by cases e⟩
  · rw [cell_of_row w g _ cur _ (0, 0) h1, Nat.zero_add]; exact (h3 k s hk).1
  · rw [cell_of_row w g _ cur _ (0, 0) h1, Nat.zero_add]; exact (h3 k s hk).2
theorem RowS.lt (h : RowS w g c X) {k : Nat} (hk : k < X.length) : ∃ s, X[k]? = some s ∧ w.cell? ⟨g, k * 2, none⟩ = some (.int .i64 s.at_) ∧ w.cell? ⟨g, k * 2 + 1, none⟩ = some (.int .i64 s.fr) := by
  obtain ⟨b, off, s, e, hs, h0, h1⟩ := h.stp.lt hk
  injection e with e
  injection e with e1 e2
  subst e1 e2
  rw [Nat.zero_add] at h0 h1
  exact ⟨s, hs, h0, h1⟩
theorem RowS.glt (h : RowS w g c X) : g < w.heap.size := by obtain ⟨cur, h1, _⟩ := h.blk; exact Dag.blk_lt h1
theorem RowS.below (h : RowS w g c X) (hb : Below w.heap.size w w') : RowS w' g c X := by
  obtain ⟨cur, h1, h2, h3⟩ := h.blk
  exact ⟨⟨cur, by rw [hb.block g (Dag.blk_lt h1)]; exact h1, h2, h3⟩, h.cap, h.top⟩
theorem flat_len_take {cur : Array Value} : ∀ {X : List StepD} {o : Nat}, (∀ k s, X[k]? = some s → cur[o + k * 2]? = some (.int .i64 s.at_) ∧ cur[o + k * 2 + 1]? = some (.int .i64 s.fr)) → (cur.toList.drop o).take (X.length * 2) = flat X
  | [], o, _ => by simp [flat]
  | s :: X, o, h => by
    have h0 := h 0 s rfl
    have h1 := flat_len_take (cur := cur) (X := X) (o := o + 2) fun k u hk => by
      have := h (k + 1) u (by simpa using hk)
      rw [show o + (k + 1) * 2 = o + 2 + k * 2 from by omega] at this
      exact this
    rw [Nat.zero_mul, Nat.add_zero] at h0
    obtain ⟨a0, a1⟩ := h0
    rw [← Array.getElem?_toList] at a0 a1
    obtain ⟨p0, e0⟩ := List.getElem?_eq_some_iff.1 a0
    obtain ⟨p1, e1⟩ := List.getElem?_eq_some_iff.1 a1
    rw [List.drop_eq_getElem_cons p0, List.drop_eq_getElem_cons p1, e0, e1]
    simp only [flat, List.length_cons]
    rw [show (X.length + 1) * 2 = X.length * 2 + 1 + 1 from by omega, List.take_succ_cons, List.take_succ_cons, ← h1]
theorem RowS.own (h : RowS w g c X) {base : Nat} (hb : base ≤ g) : OwnS w base (.slice (some ⟨g, 0, none⟩) X.length c) X := by
  obtain ⟨cur, h1, h2, h3⟩ := h.blk
  refine ⟨by rw [flat_len], Or.inr ⟨g, c, cur, rfl, hb, h1, h.cap, h.top, h2, ?_⟩⟩
  have := flat_len_take (cur := cur) (X := X) (o := 0) fun k s hk => by rw [Nat.zero_add]; exact h3 k s hk
  rwa [List.drop_zero] at this
theorem OwnS.row {base : Nat} {v : Value} (h : OwnS w base v X) (hn : 0 < X.length) : ∃ g c, v = .slice (some ⟨g, 0, none⟩) X.length c ∧ base ≤ g ∧ RowS w g c X := by
  rcases h.2 with ⟨hv, hl⟩ | ⟨g, cap, cur, hv, hbg, hh, h1, h2, h3, h4⟩
  · omega
  · refine ⟨g, cap, hv, hbg, ⟨cur, hh, h3, fun k s hk => ?_⟩, h1, h2⟩
    have cell : ∀ i u, (flat X)[i]? = some u → cur[i]? = some u := fun i u hi => by
      have hi1 : i < (flat X).length := (List.getElem?_eq_some_iff.1 hi).1
      rw [flat_len] at hi1
      have e' : (cur.toList.take (X.length * 2))[i]? = some u := by rw [h4]; exact hi
      rw [List.getElem?_take, if_pos (by omega)] at e'
      rw [← e', Array.getElem?_toList]
    exact ⟨cell _ _ (flat_0 hk).1, cell _ _ (flat_0 hk).2⟩
theorem grown_refl (w : World) (r : Option Nat) : w.grownBy w r := ⟨rfl, rfl, rfl, Nat.le_refl _, fun _ _ _ => rfl⟩
theorem grown_trans {a b d : World} {r : Option Nat} (h : a.grownBy b r) (k : b.grownBy d r) : a.grownBy d r :=
  ⟨k.os.trans h.os, k.tape.trans h.tape, k.output.trans h.output, Nat.le_trans h.size k.size, fun i hi hr => (k.block i (Nat.lt_of_lt_of_le hi h.size) hr).trans (h.block i hi hr)⟩
theorem Below.grow {a b : World} (h : Below a.heap.size a b) (r : Option Nat) : a.grownBy b r := ⟨h.os, h.tape, h.output, h.size, fun i hi _ => h.block i hi⟩
/-- one step stored in place -/
theorem RowS.put (h : RowS w g c X) {k : Nat} (hk : k < X.length) (u : StepD) : RowS (w.setCells g (k * 2) [.int .i64 u.at_, .int .i64 u.fr]) g c (X.set k u) ∧ w.grownBy (w.setCells g (k * 2) [.int .i64 u.at_, .int .i64 u.fr]) (some g) := by
  obtain ⟨cur, h1, h2, h3⟩ := h.blk
  have hc := h.cap
  obtain ⟨r1, r2, r3, r4⟩ := Srt.setCells_rest g [.int .i64 u.at_, .int .i64 u.fr] (k * 2) w
  obtain ⟨cur', e1, e2, e3⟩ := Srt.setCells_blk g _ [.int .i64 u.at_, .int .i64 u.fr] (k * 2) w cur h1 (by simp only [List.length_cons, List.length_nil]; omega)
  simp only [List.length_cons, List.length_nil] at e3
  refine ⟨⟨⟨cur', e1, by rw [e2, h2], fun i s hi => ?_⟩, by rw [List.length_set]; exact hc, h.top⟩, r1, r2, r3, by rw [r4]; exact Nat.le_refl _, fun i _ hr => Srt.setCells_other g _ _ w i (fun e => hr (by rw [e]))⟩
  by_cases q : k = i
  · subst q
    rw [List.getElem?_set_self hk] at hi
    injection hi with hi
    subst hi
    rw [e3, e3, if_pos (by omega), if_pos (by omega), Nat.sub_self, show k * 2 + 1 - k * 2 = 1 from by omega]
    exact ⟨rfl, rfl⟩
  · rw [List.getElem?_set_ne q] at hi
    rw [e3, e3, if_neg (by omega), if_neg (by omega)]
    exact h3 i s hi
theorem RowS.there (h : RowS w g c X) {k : Nat} (hk : k < X.length) : w.there g (k * 2) 2 := by
  obtain ⟨cur, h1, h2, h3⟩ := h.blk
  have hc := h.cap
  intro j hj
  refine ⟨?_, Dag.blk_frozen h1 _⟩
  rw [Dag.blk_cell h1, Array.getElem?_eq_getElem (by omega)]; rfl
end
theorem wpList_put {w : World} {ops : Array Oper} {rest : List Oper} {op : Oper} {a : Act} {Q : Exit → Act → World → Prop} (hgd : op.guard = none) (x y : Operand) (ho : op.op = .store 58 x y)
    (g c : Nat) (X : List StepD) (k : Nat) (u : StepD) (o : Nat) (hx : a.eval x = .pointer (some ⟨g, o, none⟩)) (hok : o = k * 2) (hy : a.eval y = .agg #[.int .i64 u.at_, .int .i64 u.fr]) (hb : RowS w g c X) (hk : k < X.length)
    (h : ∀ w', RowS w' g c (X.set k u) → w.grownBy w' (some g) → wpList Try.prog ops Q rest (a.put op.dst undef) w') : wpList Try.prog ops Q (op :: rest) a w := by
  subst hok
  obtain ⟨i0, hi0, hz0, hz1, hz2⟩ := info_parts info_step
  refine wpList_store_mid hgd 58 x y ho g (k * 2) _ hx hy (hb.there hk) (by rw [hi0, Option.map_some, hz1]; rfl) (all_oneCell_toArray (cs := [.int .i64 u.at_, .int .i64 u.fr]) (fun v hv => by simp only [List.mem_cons, List.mem_nil_iff, or_false] at hv; rcases hv with rfl | rfl <;> rfl)) ?_
  exact h _ (hb.put hk u).1 (hb.put hk u).2
theorem set_via {X : List StepD} {i j : Nat} {s u : StepD} (hs : X[i]? = some s) (hu : X[j]? = some u) : Via (swI i j 1) X ((X.set i u).set j s) := by
  have hi := (List.getElem?_eq_some_iff.1 hs).1
  have hj := (List.getElem?_eq_some_iff.1 hu).1
  refine ⟨by simp, fun k hk => ?_⟩
  unfold swI
  by_cases q1 : k = i
  · subst q1
    rw [if_pos (by omega), Nat.sub_self, Nat.add_zero, hu]
    by_cases q : j = k
    · subst q
      rw [List.getElem?_set_self (by simp; exact hj)]
      rw [← hs, hu]
    · rw [List.getElem?_set_ne q, List.getElem?_set_self hi]
  · rw [if_neg (by omega)]
    by_cases q2 : k = j
    · subst q2
      rw [if_pos (by omega), List.getElem?_set_self (by simp; exact hj), Nat.sub_self, Nat.add_zero, hs]
    · rw [if_neg (by omega), List.getElem?_set_ne (fun e => q2 e.symm), List.getElem?_set_ne (fun e => q1 e.symm)]
end Go.Proofs.Ytapojmniokdjfaa.Stp

