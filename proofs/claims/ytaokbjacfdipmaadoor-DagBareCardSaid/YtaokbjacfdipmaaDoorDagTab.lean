/- Rows of rows that the call made, no two in one block: what is read, written, laid behind them. -/
import Derived.Test.YtaokbjacfdipmaaDoorDagArr
namespace Go.Proofs.YtaokbjacfdipmaaDoor
open Go.RowKit
set_option linter.unusedVariables false

structure Tbl (w : World) (base : Nat) (t e : TypeId) (v : Value) (vs : List Value) (rows : List (List Value)) : Prop where
  out : Own1 w base t v vs
  len : vs.length = rows.length
  own : ∀ (k : Nat) (us : List Value) (u : Value), rows[k]? = some us → vs[k]? = some u → Own1 w base e u us
  apart : ∀ (j k : Nat) (x y : Value) (b : Nat), j ≠ k → vs[j]? = some x → vs[k]? = some y → x.ownBlock = some b → y.ownBlock ≠ some b

section
variable {w w' : World} {base : Nat} {t e : TypeId} {v v' : Value} {vs : List Value} {rows : List (List Value)}
theorem Tbl.nil (w : World) (base : Nat) (t e : TypeId) : Tbl w base t e (.slice none 0 0) [] [] :=
  ⟨Own1.nil _ _ _, rfl, (fun k us u h => by simp at h), (fun j k x y b _ h => by simp at h)⟩
theorem Tbl.at_ (h : Tbl w base t e v vs rows) {k : Nat} {us : List Value} (hk : rows[k]? = some us) : ∃ u, vs[k]? = some u ∧ Own1 w base e u us := by
  have hlt : k < vs.length := by rw [h.len]; exact (List.getElem?_eq_some_iff.1 hk).1
  exact ⟨_, List.getElem?_eq_getElem hlt, h.own k us _ hk (List.getElem?_eq_getElem hlt)⟩
/-- one row: its cell, and itself -/
theorem Tbl.row {A : Option Addr} {n c : Nat} (h : Tbl w base t e (.slice A n c) vs rows) {k : Nat} {us : List Value} (hk : rows[k]? = some us) :
    ∃ g A' c', A = some ⟨g, 0, none⟩ ∧ base ≤ g ∧ g < w.heap.size ∧ vs[k]? = some (.slice A' us.length c') ∧ w.cell? ⟨g, k, none⟩ = some (.slice A' us.length c') ∧ w.frozen? ⟨g, k, none⟩ = false ∧ Own1 w base e (.slice A' us.length c') us := by
  obtain ⟨u, hu, ho⟩ := h.at_ hk
  obtain ⟨A', c', e1, _⟩ := ho.slice
  subst e1
  obtain ⟨g, eg, hb, hlt, hc, hf, _⟩ := Own1.at_ h.out hu
  exact ⟨g, A', c', eg, hb, hlt, hu, hc, hf, ho⟩
/-- what lies elsewhere may turn -/
theorem Tbl.keep (h : Tbl w base t e v vs rows) (hv : ∀ b, v.ownBlock = some b → w'.heap[b]? = w.heap[b]?) (hk : ∀ (k : Nat) (u : Value) (b : Nat), vs[k]? = some u → u.ownBlock = some b → w'.heap[b]? = w.heap[b]?) : Tbl w' base t e v vs rows :=
  ⟨h.out.keep hv, h.len, fun k us u h1 h2 => (h.own k us u h1 h2).keep fun b e => hk k u b h2 e, h.apart⟩
theorem Tbl.lt (h : Tbl w base t e v vs rows) {k b : Nat} {u : Value} (hu : vs[k]? = some u) (hb : u.ownBlock = some b) : base ≤ b ∧ b < w.heap.size ∧ ∃ cs, w.heap[b]? = some (.cells cs e (0, 0)) := by
  have hlt : k < rows.length := by rw [← h.len]; exact (List.getElem?_eq_some_iff.1 hu).1
  have ho := h.own k _ u (List.getElem?_eq_getElem hlt) hu
  exact ⟨(ho.lt hb).1, (ho.lt hb).2, ho.typed hb⟩
theorem Tbl.below (h : Tbl w base t e v vs rows) (hb : Below w.heap.size w w') : Tbl w' base t e v vs rows :=
  h.keep (fun b e => hb.block b (h.out.lt e).2) fun k u b hu e => hb.block b (h.lt hu e).2.1
theorem Tbl.rebase (h : Tbl w base t e v vs rows) {base' : Nat} (hb : base' ≤ base) : Tbl w base' t e v vs rows := ⟨h.out.rebase hb, h.len, fun k us u h1 h2 => (h.own k us u h1 h2).rebase hb, h.apart⟩
/-- a row's block is not the outer one -/
theorem Tbl.ne (h : Tbl w base t e v vs rows) (hte : t ≠ e) {k b : Nat} {u : Value} (hu : vs[k]? = some u) (hb : u.ownBlock = some b) : v.ownBlock ≠ some b := by
  intro e'
  obtain ⟨_, _, cs, hc⟩ := h.lt hu hb
  obtain ⟨cs', hc'⟩ := h.out.typed e'
  exact blk_ne hc' hc hte rfl
/-- one row is another one: in its own block, or in a new one -/
theorem Tbl.update (h : Tbl w base t e v vs rows) (hte : t ≠ e) {g k : Nat} {n c : Nat} (hv : v = .slice (some ⟨g, 0, none⟩) n c) {u u' : Value} {us' : List Value} (hu : vs[k]? = some u)
    {w1 : World} (hk : ∀ b, b < w.heap.size → u.ownBlock ≠ some b → w1.heap[b]? = w.heap[b]?) (ho : Own1 w1 base e u' us') (hb : u'.ownBlock = u.ownBlock ∨ ∀ b, u'.ownBlock = some b → w.heap.size ≤ b) :
    Tbl (w1.setCell ⟨g, k, none⟩ u') base t e v (vs.set k u') (rows.set k us') ∧ w1.cell? ⟨g, k, none⟩ = some u ∧ w1.frozen? ⟨g, k, none⟩ = false := by
  subst hv
  have hgu : u.ownBlock ≠ some g := fun e' => h.ne hte hu e' rfl
  have hout1 : Own1 w1 base t (.slice (some ⟨g, 0, none⟩) n c) vs := h.out.keep fun b e' => by
    have hgb : g = b := by simpa [Value.ownBlock] using e'
    subst hgb
    exact hk _ (h.out.lt (by rfl)).2 hgu
  obtain ⟨g2, eg, _, _, hc, hf, _, hset⟩ := Own1.at_ hout1 hu
  injection eg with eg
  injection eg with eg
  subst eg
  have hu'g : u'.ownBlock ≠ some g := by
    intro e'
    rcases hb with hb | hb
    · rw [hb] at e'; exact hgu e'
    · have := hb g e'
      have := (h.out.lt (b := g) rfl).2
      omega
  have hkl : k < vs.length := (List.getElem?_eq_some_iff.1 hu).1
  refine ⟨⟨hset u', by simp [h.len], fun j us x hj hx => ?_, fun i j x y b hij hx hy hbx => ?_⟩, hc, hf⟩
  · by_cases e' : k = j
    · subst e'
      rw [List.getElem?_set, if_pos rfl, if_pos (by rw [← h.len]; exact hkl)] at hj
      rw [List.getElem?_set, if_pos rfl, if_pos hkl] at hx
      injection hj with hj
      injection hx with hx
      subst hj hx
      exact ho.keep fun b e => blk_other fun e' => hu'g (by rw [e, e'])
    · rw [List.getElem?_set, if_neg e'] at hj hx
      refine (h.own j us x hj hx).keep fun b e => ?_
      have hbg : b ≠ g := fun e2 => h.ne hte hx e (by rw [e2]; rfl)
      rw [blk_other hbg]
      exact hk b (h.lt hx e).2.1 (fun e2 => h.apart k j u x b (fun e3 => e' e3) hu hx e2 e)
  · have key : ∀ {a z : Value} {j : Nat}, k ≠ j → a = u' → vs[j]? = some z → ∀ b, a.ownBlock = some b → z.ownBlock ≠ some b := by
      intro a z j hkj ea hz b hab
      subst ea
      rcases hb with hb | hb
      · rw [hb] at hab; exact h.apart k j u z b hkj hu hz hab
      · intro e2
        have := hb b hab
        have := (h.lt hz e2).2.1
        omega
    rw [List.getElem?_set] at hx hy
    by_cases ei : k = i
    · subst ei
      rw [if_pos rfl, if_pos hkl] at hx
      rw [if_neg hij] at hy
      injection hx with hx
      exact key hij hx.symm hy b hbx
    · rw [if_neg ei] at hx
      by_cases ej : k = j
      · subst ej
        rw [if_pos rfl, if_pos hkl] at hy
        injection hy with hy
        intro e2
        exact key ei hy.symm hx b e2 hbx
      · rw [if_neg ej] at hy
        exact h.apart i j x y b hij hx hy hbx
/-- append onto a row, the new row laid in its place -/
theorem Tbl.appended {g k n c : Nat} (h : Tbl w base t e (.slice (some ⟨g, 0, none⟩) n c) vs rows) (hte : t ≠ e) {u u' : Value} {us' : List Value} (hu : vs[k]? = some u) {tmp : Obj} {w1 : World} (hg : (w.alloc tmp).grownBy w1 u.ownBlock)
    (ho : Own1 w1 base e u' us') (hb : u'.ownBlock = u.ownBlock ∨ u'.ownBlock = some (w.alloc tmp).heap.size) (hbase : base ≤ w.heap.size) :
    Tbl (w1.setCell ⟨g, k, none⟩ u') base t e (.slice (some ⟨g, 0, none⟩) n c) (vs.set k u') (rows.set k us') ∧ w1.cell? ⟨g, k, none⟩ = some u ∧ w1.frozen? ⟨g, k, none⟩ = false ∧ Below base w (w1.setCell ⟨g, k, none⟩ u') := by
  obtain ⟨h1, h2, h3⟩ := h.update hte rfl hu (w1 := w1) (u' := u') (us' := us') (fun b hb hne => (hg.block b (Nat.lt_of_lt_of_le hb (by simp)) (fun e => hne e.symm)).trans (Below.heap_alloc w tmp b hb)) ho (by
    rcases hb with hb | hb
    · exact Or.inl hb
    · refine Or.inr fun b e => ?_
      rw [hb] at e
      injection e with e
      simp at e
      omega)
  refine ⟨h1, h2, h3, ?_⟩
  exact (((Below.refl _ w).alloc hbase tmp).grown hg (by simp; omega) fun j e => (h.lt hu e).1).setCell (p := ⟨g, k, none⟩) (h.out.lt rfl).1 _
/-- one cell of a row -/
theorem Tbl.setIn (h : Tbl w base t e v vs rows) (hte : t ≠ e) {k j : Nat} {us : List Value} {A : Option Addr} {c : Nat} {y : Value} (hk : rows[k]? = some us) (hu : vs[k]? = some (.slice A us.length c)) (hj : us[j]? = some y) (x : Value) :
    ∃ g, A = some ⟨g, 0, none⟩ ∧ base ≤ g ∧ g < w.heap.size ∧ w.cell? ⟨g, j, none⟩ = some y ∧ w.frozen? ⟨g, j, none⟩ = false ∧ Tbl (w.setCell ⟨g, j, none⟩ x) base t e v vs (rows.set k (us.set j x)) := by
  have ho := h.own k us _ hk hu
  obtain ⟨g, eg, hb, hlt, hc, hf, _, hset⟩ := Own1.at_ ho hj
  subst eg
  have hkl : k < rows.length := (List.getElem?_eq_some_iff.1 hk).1
  refine ⟨g, rfl, hb, hlt, hc, hf, h.out.keep fun b e => blk_other fun e' => h.ne hte hu (b := g) rfl (by rw [e, e']), by simp [h.len], fun i us' u' hi hu' => ?_, h.apart⟩
  by_cases e' : k = i
  · subst e'
    rw [List.getElem?_set, if_pos rfl, if_pos hkl] at hi
    injection hi with hi
    rw [hu] at hu'
    injection hu' with hu'
    subst hi hu'
    have := hset x
    rw [show (Value.slice (some ⟨g, 0, none⟩) us.length c) = .slice (some ⟨g, 0, none⟩) us.length c from rfl] at this
    exact this
  · rw [List.getElem?_set, if_neg e'] at hi
    exact (h.own i us' u' hi hu').keep fun b e => blk_other fun e2 => by
      subst e2
      exact h.apart k i _ u' b e' hu hu' rfl e
/-- one row more -/
theorem Tbl.push (h : Tbl w base t e v vs rows) (hte : t ≠ e) {u : Value} {us : List Value} (hk : ∀ b, b < w.heap.size → v.ownBlock ≠ some b → w'.heap[b]? = w.heap[b]?) (hout : Own1 w' base t v' (vs ++ [u])) (ho : Own1 w' base e u us) (hu : ∀ b, u.ownBlock = some b → w.heap.size ≤ b) :
    Tbl w' base t e v' (vs ++ [u]) (rows ++ [us]) := by
  refine ⟨hout, by simp [h.len], fun k us' x hk' hx => ?_, fun i j x y b hij hx hy hb => ?_⟩
  · rcases Nat.lt_or_ge k vs.length with a | a
    · rw [List.getElem?_append_left a] at hx
      rw [List.getElem?_append_left (by rw [← h.len]; exact a)] at hk'
      exact (h.own k us' x hk' hx).keep fun b e => hk b (h.lt hx e).2.1 (h.ne hte hx e)
    · rw [List.getElem?_append_right a] at hx
      rw [List.getElem?_append_right (by rw [← h.len]; exact a)] at hk'
      have e0 : k - vs.length = 0 := by have := (List.getElem?_eq_some_iff.1 hx).1; simp at this; omega
      rw [← h.len] at hk'
      rw [e0] at hx hk'
      simp at hx hk'
      subst hx hk'
      exact ho
  · have last : ∀ {k : Nat} {z : Value}, (vs ++ [u])[k]? = some z → vs[k]? = some z ∨ (k = vs.length ∧ z = u) := by
      intro k z hz
      rcases Nat.lt_or_ge k vs.length with a | a
      · rw [List.getElem?_append_left a] at hz; exact Or.inl hz
      · rw [List.getElem?_append_right a] at hz
        have e0 : k - vs.length = 0 := by have := (List.getElem?_eq_some_iff.1 hz).1; simp at this; omega
        rw [e0] at hz
        simp at hz
        exact Or.inr ⟨by omega, hz.symm⟩
    rcases last hx with hx' | ⟨ei, ex⟩
    · rcases last hy with hy' | ⟨ej, ey⟩
      · exact h.apart i j x y b hij hx' hy' hb
      · intro e2
        rw [ey] at e2
        have := hu b e2
        have := (h.lt hx' hb).2.1
        omega
    · rcases last hy with hy' | ⟨ej, ey⟩
      · intro e2
        rw [ex] at hb
        have := hu b hb
        have := (h.lt hy' e2).2.1
        omega
      · omega
end
/-- rows of numbers are read as such -/
theorem Tbl.irows {w : World} {base : Nat} {n c : Nat} {A : Option Addr} {vs : List Value} {t : TypeId} {ls : List (List Int)} (h : Tbl w base t 3 (.slice A n c) vs (ls.map ints)) : n = ls.length ∧ IRows w A c ls := by
  obtain ⟨hn, hs⟩ := h.out.sl
  have hl : vs.length = ls.length := by rw [h.len]; simp
  refine ⟨by omega, ⟨fun k xs hk => ?_, by have := hs.cap; omega, hs.top, hs.nil⟩⟩
  have hk' : (ls.map ints)[k]? = some (ints xs) := by rw [List.getElem?_map, hk]; rfl
  obtain ⟨u, hu, ho⟩ := h.at_ hk'
  obtain ⟨A', c', e1, hi⟩ := OwnI.ints ho
  subst e1
  obtain ⟨b, off, eA, hc⟩ := hs.cells k _ hu
  exact ⟨b, off, A', c', eA, hc, hi⟩
theorem Tbl.make {w : World} {base : Nat} {t e : TypeId} (hb : base ≤ w.heap.size) (n : Nat) (hn : n ≤ 1000000) {g : Nat} (hg : w.heap.size = g) :
    Tbl (w.alloc (.cells (Array.replicate n (.slice none 0 0)) t)) base t e (.slice (some ⟨g, 0, none⟩) n n) (List.replicate n (.slice none 0 0)) (List.replicate n []) := by
  refine ⟨Own1.make w base t hb n hn _ hg, by simp, fun k us u hk hu => ?_, fun j k x y b _ hx _ hbx => ?_⟩
  · rw [List.getElem?_replicate] at hk hu
    split at hk
    · rw [if_pos (by assumption)] at hu
      injection hk with hk
      injection hu with hu
      subst hk hu
      exact Own1.nil _ _ _
    · cases hk
  · rw [List.getElem?_replicate] at hx
    split at hx
    · injection hx with hx
      subst hx
      cases hbx
    · cases hx

end Go.Proofs.YtaokbjacfdipmaaDoor
