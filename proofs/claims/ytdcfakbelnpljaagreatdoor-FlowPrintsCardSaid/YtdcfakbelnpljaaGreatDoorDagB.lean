/- Layer Dag over, for a seat that needs several layers: DagMem, DagSet, DagIter. -/
import Derived.Test.YtdcfakbelnpljaaGreatDoorDagA
import Derived.Test.YtdcfakbelnpljaaGreatDoorProg
import Derived.WalkKit
import Derived.ProofKit
import Derived.Lib.Hide
import Derived.OpenShut
import Derived.Laws.AppendOwn
import Derived.Laws.AppendOwnNone
import Derived.Laws.OwnMore
import Derived.Laws.MakeOwn
import Derived.Maps.AppendAt
import Derived.OwnWalk
import Derived.Laws.BitsAllLaws
import Derived.Lib.TrailingZeros
import Derived.Shelf.Spec.TrailingZeros
import Derived.BigQuiet
import Derived.IntWalk
import Derived.RangeFuncNested
import Derived.RangeFuncBound
import Derived.RangeFuncCalls
import Derived.RangeFuncLeaves
import Derived.Shelf.Abstract
import Derived.OwnWalkIn
import Derived.TacticsInMore
import Derived.LoopNIn
import Derived.LoopIn
namespace Go.Proofs.YtdcfakbelnpljaaGreatDoor.Dag
set_option maxRecDepth 100000
/-! Slices in memory: what they hold; rows that the call made; rows of such rows; append onto these. -/
open Go.RowKit
set_option linter.unusedVariables false

theorem blw {w w1 w2 : World} (h : Below w.heap.size w w1) (k : Below w1.heap.size w1 w2) : Below w.heap.size w w2 := h.trans (k.mono h.size)
theorem blk_lt {w : World} {g : Nat} {o : Obj} (h : w.heap[g]? = some o) : g < w.heap.size := (Array.getElem?_eq_some_iff.1 h).1
theorem blk_cell {w : World} {g : Nat} {cs : Array Value} {t : TypeId} (h : w.heap[g]? = some (.cells cs t (0, 0))) (i : Nat) : w.cell? ⟨g, i, none⟩ = cs[i]? := cell_of_row w g i cs t (0, 0) h
theorem blk_frozen {w : World} {g : Nat} {cs : Array Value} {t : TypeId} (h : w.heap[g]? = some (.cells cs t (0, 0))) (i : Nat) : w.frozen? ⟨g, i, none⟩ = false := by simp [World.frozen?, h]
theorem blk_set {w : World} {g : Nat} {cs : Array Value} {t : TypeId} (h : w.heap[g]? = some (.cells cs t (0, 0))) (i : Nat) (u : Value) : (w.setCell ⟨g, i, none⟩ u).heap[g]? = some (.cells (cs.setIfInBounds i u) t (0, 0)) := by
  simp [World.setCell, Array.getElem?_modify, h]
theorem blk_other {w : World} {g b i : Nat} {u : Value} (h : g ≠ b) : (w.setCell ⟨b, i, none⟩ u).heap[g]? = w.heap[g]? := Below.heap_setCell _ _ _ _ h

/-- '.slice A us.length c' holds the values us, one cell each -/
structure Sl (w : World) (A : Option Addr) (c : Nat) (us : List Value) : Prop where
  cells : ∀ k u, us[k]? = some u → ∃ b off, A = some ⟨b, off, none⟩ ∧ w.cell? ⟨b, off + k, none⟩ = some u
  cap : us.length ≤ c
  top : c ≤ maxLen
  nil : A = none → c = 0
section
variable {w w' : World} {A : Option Addr} {c : Nat} {us : List Value}
theorem Sl.empty (w : World) : Sl w none 0 [] := ⟨fun k x h => by simp at h, Nat.le_refl _, Nat.zero_le _, fun _ => rfl⟩
theorem Sl.below (h : Sl w A c us) (hb : Below w.heap.size w w') : Sl w' A c us := by
  refine ⟨fun k x hx => ?_, h.cap, h.top, h.nil⟩
  obtain ⟨b, off, e, hc⟩ := h.cells k x hx
  exact ⟨b, off, e, (hb.cell (p := ⟨b, off + k, none⟩) (World.block_lt_of_cell? w _ hc)).trans hc⟩
theorem Sl.at_ (h : Sl w A c us) {k : Nat} (hk : k < us.length) : ∃ b off u, A = some ⟨b, off, none⟩ ∧ us[k]? = some u ∧ w.cell? ⟨b, off + k, none⟩ = some u := by
  have hx : us[k]? = some us[k] := List.getElem?_eq_getElem hk
  obtain ⟨b, off, e, hc⟩ := h.cells k _ hx
  exact ⟨b, off, _, e, hx, hc⟩
end
theorem Sl.nilAny (w : World) (A : Option Addr) (c : Nat) (hc : c ≤ maxLen) (hn : A = none → c = 0) : Sl w A c [] := ⟨fun k x h => by simp at h, Nat.zero_le _, hc, hn⟩

def ints (xs : List Int) : List Value := xs.map (Value.int .i64)
theorem ints_len (xs : List Int) : (ints xs).length = xs.length := by simp [ints]
theorem ints_app (a b : List Int) : ints (a ++ b) = ints a ++ ints b := by simp [ints]
theorem ints_get {xs : List Int} {k : Nat} {x : Int} (h : xs[k]? = some x) : (ints xs)[k]? = some (.int .i64 x) := by simp [ints, h]
theorem ints_get' {xs : List Int} {k : Nat} {u : Value} (h : (ints xs)[k]? = some u) : ∃ x, xs[k]? = some x ∧ u = .int .i64 x := by
  unfold ints at h
  rw [List.getElem?_map] at h
  cases hx : xs[k]? with
  | none => rw [hx] at h; cases h
  | some x => rw [hx] at h; injection h with h; exact ⟨x, rfl, h.symm⟩
theorem ints_one (xs : List Int) : ∀ u ∈ ints xs, u.oneCell' = true := by
  intro u hu
  obtain ⟨y, _, rfl⟩ := List.mem_map.1 hu
  rfl
def Ints (w : World) (A : Option Addr) (c : Nat) (xs : List Int) : Prop := Sl w A c (ints xs)
section
variable {w w' : World} {A : Option Addr} {c : Nat} {xs : List Int}
theorem Ints.empty (w : World) : Ints w none 0 [] := Sl.empty w
theorem Ints.below (h : Ints w A c xs) (hb : Below w.heap.size w w') : Ints w' A c xs := Sl.below h hb
theorem Ints.len (h : Ints w A c xs) : xs.length ≤ c := by have := Sl.cap h; rwa [ints_len] at this
theorem Ints.at_ (h : Ints w A c xs) {k : Nat} (hk : k < xs.length) : ∃ b off x, A = some ⟨b, off, none⟩ ∧ xs[k]? = some x ∧ w.cell? ⟨b, off + k, none⟩ = some (.int .i64 x) := by
  obtain ⟨b, off, u, e, hu, hc⟩ := Sl.at_ h (k := k) (by rw [ints_len]; exact hk)
  obtain ⟨x, hx, rfl⟩ := ints_get' hu
  exact ⟨b, off, x, e, hx, hc⟩
end

/-- '.slice A ls.length c' holds slices that hold the lists ls -/
structure IRows (w : World) (A : Option Addr) (c : Nat) (ls : List (List Int)) : Prop where
  cells : ∀ k xs, ls[k]? = some xs → ∃ b off A' c', A = some ⟨b, off, none⟩ ∧ w.cell? ⟨b, off + k, none⟩ = some (.slice A' xs.length c') ∧ Ints w A' c' xs
  cap : ls.length ≤ c
  top : c ≤ maxLen
  nil : A = none → c = 0
section
variable {w w' : World} {A : Option Addr} {c : Nat} {ls : List (List Int)}
theorem IRows.empty (w : World) : IRows w none 0 [] := ⟨fun k x h => by simp at h, Nat.le_refl _, Nat.zero_le _, fun _ => rfl⟩
theorem IRows.below (h : IRows w A c ls) (hb : Below w.heap.size w w') : IRows w' A c ls := by
  refine ⟨fun k x hx => ?_, h.cap, h.top, h.nil⟩
  obtain ⟨b, off, A', c', e, hc, hi⟩ := h.cells k x hx
  exact ⟨b, off, A', c', e, (hb.cell (p := ⟨b, off + k, none⟩) (World.block_lt_of_cell? w _ hc)).trans hc, hi.below hb⟩
theorem IRows.at_ (h : IRows w A c ls) {k : Nat} (hk : k < ls.length) :
    ∃ b off A' c' xs, A = some ⟨b, off, none⟩ ∧ ls[k]? = some xs ∧ w.cell? ⟨b, off + k, none⟩ = some (.slice A' xs.length c') ∧ Ints w A' c' xs := by
  have hx : ls[k]? = some ls[k] := List.getElem?_eq_getElem hk
  obtain ⟨b, off, A', c', e, hc, hi⟩ := h.cells k _ hx
  exact ⟨b, off, A', c', _, e, hx, hc, hi⟩
end

/-! rows that the call made -/
abbrev Own1 (w : World) (base : Nat) (e : TypeId) (v : Value) (us : List Value) : Prop := w.ownsRow base e 1 v us.length us
theorem own_len {w : World} {base : Nat} {e : TypeId} {v : Value} {n : Nat} {us : List Value} (h : w.ownsRow base e 1 v n us) : us.length = n := by have := h.1; omega
section
variable {w w' : World} {base : Nat} {e : TypeId} {v : Value} {us : List Value}
theorem Own1.nil (w : World) (base : Nat) (e : TypeId) : Own1 w base e (.slice none 0 0) [] := World.ownsRow_nil w base e 1
theorem Own1.keep (h : Own1 w base e v us) (hk : ∀ b, v.ownBlock = some b → w'.heap[b]? = w.heap[b]?) : Own1 w' base e v us := by
  refine ⟨h.1, ?_⟩
  rcases h.2 with h0 | ⟨g, cap, cur, hv, hbg, hh, rest⟩
  · exact Or.inl h0
  · exact Or.inr ⟨g, cap, cur, hv, hbg, by rw [hk g (by rw [hv]; rfl)]; exact hh, rest⟩
theorem Own1.lt (h : Own1 w base e v us) {b : Nat} (hb : v.ownBlock = some b) : base ≤ b ∧ b < w.heap.size := World.ownsRow.lt h b hb
theorem Own1.below (h : Own1 w base e v us) (hb : Below w.heap.size w w') : Own1 w' base e v us := h.keep fun b e => hb.block b (h.lt e).2
theorem Own1.rebase (h : Own1 w base e v us) {base' : Nat} (hb : base' ≤ base) : Own1 w base' e v us := by
  refine ⟨h.1, ?_⟩
  rcases h.2 with h0 | ⟨g, cap, cur, hv, hbg, rest⟩
  · exact Or.inl h0
  · exact Or.inr ⟨g, cap, cur, hv, Nat.le_trans hb hbg, rest⟩
/-- its block bears its type -/
theorem Own1.typed (h : Own1 w base e v us) {b : Nat} (hb : v.ownBlock = some b) : ∃ cs, w.heap[b]? = some (.cells cs e (0, 0)) := by
  rcases h.2 with ⟨hv, _⟩ | ⟨g, cap, cur, hv, _, hh, _⟩
  · rw [hv] at hb; cases hb
  · rw [hv] at hb; injection hb with hb; subst hb; exact ⟨_, hh⟩
theorem Own1.slice (h : Own1 w base e v us) : ∃ A c, v = .slice A us.length c ∧ Sl w A c us ∧ (A = none ∨ ∃ g, A = some ⟨g, 0, none⟩) := by
  rcases h.2 with ⟨hv, hn⟩ | ⟨g, cap, cur, hv, hbg, hh, hnc, hcm, hcs, htake⟩
  · have hx : us = [] := List.eq_nil_of_length_eq_zero hn
    subst hx
    exact ⟨none, 0, hv, Sl.empty _, Or.inl rfl⟩
  · refine ⟨_, cap, hv, ⟨fun k u hu => ?_, hnc, hcm, fun e => by cases e⟩, Or.inr ⟨g, rfl⟩⟩
    refine ⟨g, 0, rfl, ?_⟩
    rw [Nat.zero_add, cell_of_row w g k cur _ (0, 0) hh]
    have hk : k < us.length := (List.getElem?_eq_some_iff.1 hu).1
    have e' : (cur.toList.take (us.length * 1))[k]? = some u := by rw [htake]; exact hu
    rw [List.getElem?_take, if_pos (by omega)] at e'
    rw [← e', Array.getElem?_toList]
theorem Own1.sl {A : Option Addr} {n c : Nat} (h : Own1 w base e (.slice A n c) us) : n = us.length ∧ Sl w A c us := by
  obtain ⟨A', c', e1, h1, _⟩ := h.slice
  injection e1 with a b c
  subst a b c
  exact ⟨rfl, h1⟩
/-- one cell of it -/
theorem Own1.at_ {A : Option Addr} {n c k : Nat} {u : Value} (h : Own1 w base e (.slice A n c) us) (hk : us[k]? = some u) :
    ∃ g, A = some ⟨g, 0, none⟩ ∧ base ≤ g ∧ g < w.heap.size ∧ w.cell? ⟨g, k, none⟩ = some u ∧ w.frozen? ⟨g, k, none⟩ = false ∧ (∃ cs, w.heap[g]? = some (.cells cs e (0, 0))) ∧
      (∀ x, Own1 (w.setCell ⟨g, k, none⟩ x) base e (.slice A n c) (us.set k x)) := by
  have hh := h
  obtain ⟨hn, hs⟩ := h.sl
  obtain ⟨b, off, e1, hc⟩ := hs.cells k u hk
  rcases h.2 with ⟨hv, h0⟩ | ⟨g, cap, cur, hv, hbg, hg, _⟩
  · rw [List.eq_nil_of_length_eq_zero h0] at hk; simp at hk
  · injection hv with a1 a2 a3
    subst a1 a2 a3
    injection e1 with e1
    injection e1 with e1 e2
    subst e1 e2
    rw [Nat.zero_add] at hc
    refine ⟨_, rfl, hbg, blk_lt hg, hc, blk_frozen hg k, ⟨_, hg⟩, fun x => ?_⟩
    have := (World.ownsRow.stored hh k x).1
    unfold Own1
    rw [List.length_set]
    exact this
end
theorem Own1.lit (w : World) (base : Nat) (e : TypeId) (hb : base ≤ w.heap.size) (us : List Value) (hl : us.length ≤ maxLen) :
    Own1 (w.alloc (.cells us.toArray e)) base e (.slice (some ⟨w.heap.size, 0, none⟩) us.length us.length) us := by
  have := World.ownsRow_lit (base := base) (e := e) (size := 1) w us.toArray us.length hb hl (by simp)
  simpa using this
theorem Own1.litm (w : World) (base : Nat) (e : TypeId) (hb : base ≤ w.heap.size) (us : List Value) {n g : Nat} (hn : us.length = n) (hg : w.heap.size = g) (hl : n ≤ maxLen) :
    Own1 (w.alloc (.cells us.toArray e)) base e (.slice (some ⟨g, 0, none⟩) n n) us := by
  subst hn hg; exact Own1.lit w base e hb us hl

abbrev OwnI (w : World) (base : Nat) (v : Value) (xs : List Int) : Prop := Own1 w base 3 v (ints xs)
theorem OwnI.ints {w : World} {base : Nat} {v : Value} {xs : List Int} (h : OwnI w base v xs) : ∃ A c, v = .slice A xs.length c ∧ Ints w A c xs := by
  obtain ⟨A, c, e, hs, _⟩ := Own1.slice h
  rw [ints_len] at e
  exact ⟨A, c, e, hs⟩
theorem OwnI.ints' {w : World} {base n c : Nat} {A : Option Addr} {xs : List Int} (h : OwnI w base (.slice A n c) xs) : n = xs.length ∧ Ints w A c xs := by
  obtain ⟨A', c', e1, h1⟩ := h.ints
  injection e1 with a b c
  subst a b c
  exact ⟨rfl, h1⟩

theorem info_int : (Tryz.prog.info? 3).map (fun i => (i.zero, i.size, i.bytes)) = some (some (.int .i64 0), 1, 8) := by kernel_rfl
theorem info_bool : (Tryz.prog.info? 4).map (fun i => (i.zero, i.size, i.bytes)) = some (some (.bool false), 1, 1) := by kernel_rfl
theorem info_u64 : (Tryz.prog.info? 163).map (fun i => (i.zero, i.size, i.bytes)) = some (some (.int .u64 0), 1, 8) := by kernel_rfl
theorem info_is : (Tryz.prog.info? 55).map (fun i => (i.zero, i.size, i.bytes)) = some (some (.slice none 0 0), 1, 24) := by kernel_rfl
theorem info_bs : (Tryz.prog.info? 132).map (fun i => (i.zero, i.size, i.bytes)) = some (some (.slice none 0 0), 1, 24) := by kernel_rfl
theorem info_set : (Tryz.prog.info? 153).map (fun i => (i.zero, i.size, i.bytes)) = some (some (.slice none 0 0), 1, 24) := by kernel_rfl

/-- append onto a row of the call's own; the source may be nil, empty, or neither -/
theorem wpList_appg {w : World} {ops : Array Oper} {rest : List Oper} {o : Oper} {a : Act} {Q : Exit → Act → World → Prop} (hgd : o.guard = none) (s x : Operand) (t e : TypeId) (z : Value) (bytes : Nat)
    (hu : Tryz.prog.underlying t = some (.slice e)) (hinfo : (Tryz.prog.info? e).map (fun i => (i.zero, i.size, i.bytes)) = some (some z, 1, bytes)) (hz : z.cells.size = 1) (hby : bytes ≤ 24)
    (ho : o.op = .call { callee := .builtin .append, args := #[s, x], argTypes := #[t, t] })
    (base : Nat) (v : Value) (us : List Value) (hs : a.eval s = v) (hown : Own1 w base e v us) (A : Option Addr) (c m : Nat) (zs : List Value) (hm : zs.length = m) (hx : a.eval x = .slice A m c)
    (hr : Sl w A c zs) (hone : ∀ u ∈ zs, u.oneCell' = true) (hlen : us.length + zs.length ≤ 100000000) (hbase : base ≤ w.heap.size)
    (h : ∀ (l : List Value) (A' : Option Addr) (c' : Nat) (w' : World), l = us ++ zs → Own1 w' base e (.slice A' l.length c') l → w.grownBy w' v.ownBlock → ((Value.slice A' l.length c').ownBlock = v.ownBlock ∨ (Value.slice A' l.length c').ownBlock = some w.heap.size) → Below base w w' →
      wpList Tryz.prog ops Q rest (a.put o.dst (.slice A' l.length c')) w') :
    wpList Tryz.prog ops Q (o :: rest) a w := by
  subst hm
  obtain ⟨i0, hi0, hz0, hz1, hz2⟩ := info_parts hinfo
  have fin : ∀ (v' : Value) (w' : World), w'.ownsRow base e 1 v' (us.length + zs.length) (us ++ zs) → w.grownBy w' v.ownBlock → (v'.ownBlock = v.ownBlock ∨ v'.ownBlock = some w.heap.size) →
      wpList Tryz.prog ops Q rest (a.put o.dst v') w' := by
    intro v' w' hown' hg hb
    have ho' : Own1 w' base e v' (us ++ zs) := by unfold Own1; rw [List.length_append]; exact hown'
    obtain ⟨A', c', hv', _⟩ := ho'.slice
    subst hv'
    exact h _ A' c' w' rfl ho' hg hb ((Below.refl _ _).grown hg hbase fun k hk => (Own1.lt hown hk).1)
  rcases A with _ | ad
  · have hc0 := hr.nil rfl
    have hz' : zs = [] := List.eq_nil_of_length_eq_zero (by have := hr.cap; omega)
    subst hz'
    subst hc0
    refine wpList_append_own_none hgd s x _ ho base _ i0 1 hu hi0 v us.length _ hs hown hx ?_
    exact fin v w (by simpa using hown) (World.grownBy.refl _ _) (Or.inl rfl)
  · refine wpList_append_own_at w hgd s x _ ho base _ i0 z 1 bytes hu hi0 hz0 hz1 hz2 hz (by decide) v us.length _ hs hown ad zs.length c zs hx (by simp) ?_ hone (by simp only [maxLen]; omega) ?_ hbase ?_
    · intro j u hu'
      obtain ⟨b, off, e, hc⟩ := hr.cells j u hu'
      injection e with e
      subst e
      rw [Go.WideShapes.add_plain, hc]
    · have : (us.length + zs.length) * bytes ≤ 100000000 * 24 := Nat.mul_le_mul hlen hby
      omega
    · intro v' w' hown' hg _ hb
      exact fin v' w' hown' hg hb

theorem made_one (z : Value) (hz : z.cells = #[z]) (n : Nat) : madeCells z.cells n = Array.replicate n z := by
  apply Array.ext
  · simp [madeCells, hz]
  · intro i h1 h2
    simp [madeCells, hz, Nat.mod_one]
/-- make of n elements -/
theorem run_mk (W : World) (t e : TypeId) (z : Value) (bytes : Nat) (hu : Tryz.prog.underlying t = some (.slice e)) (hinfo : (Tryz.prog.info? e).map (fun i => (i.zero, i.size, i.bytes)) = some (some z, 1, bytes)) (hz : z.cells = #[z]) (hby : bytes ≤ 24)
    (n : Nat) (hn : n ≤ 1000000) (x y : Int) (hx : x = (n : Int)) (hy : y = (n : Int)) :
    (Instr.makeSlice t (.int .i64 x) (.int .i64 y)).run Tryz.prog W = .ok (.slice (some ⟨W.heap.size, 0, none⟩) n n) (W.alloc (.cells (Array.replicate n z) e)) := by
  subst hx hy
  obtain ⟨i0, hi0, hz0, hz1, hz2⟩ := info_parts hinfo
  have hb : n * bytes ≤ 1000000 * 24 := Nat.mul_le_mul hn hby
  have hb2 : (i0.bytes : Int) * (n : Int) ≤ 281474976710656 := by
    rw [hz2, Int.mul_comm, ← Int.natCast_mul]
    omega
  have h := run_makeSlice (P := Tryz.prog) W t e i0 z hu hi0 hz0 .i64 .i64 (n : Int) (n : Int) (by omega) (by omega) (by rw [hz1]; omega) hb2 (by omega)
  rw [h, hz1, Int.toNat_natCast, Nat.mul_one, made_one z hz]
theorem Own1.make (w : World) (base : Nat) (e : TypeId) (hb : base ≤ w.heap.size) (n : Nat) (hn : n ≤ 1000000) (z : Value) {g : Nat} (hg : w.heap.size = g) :
    Own1 (w.alloc (.cells (Array.replicate n z) e)) base e (.slice (some ⟨g, 0, none⟩) n n) (List.replicate n z) := by
  have := Own1.litm w base e hb (List.replicate n z) (n := n) (by simp) hg (by simp only [maxLen]; omega)
  simpa using this
/-- a literal of one element, where it lies -/
theorem Sl.one {w : World} {e : TypeId} {u : Value} {g : Nat} (hg : w.heap.size = g) : Sl (w.alloc (.cells #[u] e)) (some ⟨g, 0, none⟩) 1 [u] := by
  subst hg
  refine ⟨fun k x hx => ?_, Nat.le_refl _, by simp [maxLen], fun e => by cases e⟩
  match k, hx with
  | 0, hx =>
    simp at hx; subst hx
    exact ⟨_, 0, rfl, (cell_of_row _ _ _ _ _ (0, 0) (heap_alloc_new w _)).trans rfl⟩
  | k + 1, hx => simp at hx

/-! Sets of at most 30 numbers, one word: newSet, add, remove, has, join; the number of a word's trailing zeros. -/
open Go.RowKit
set_option linter.unusedVariables false

/-- w' is w with one cell written, and draws -/
structure Wr (w w' : World) (g i : Nat) (x : Value) : Prop where
  os : w'.os = w.os
  tape : w'.tape = w.tape
  output : w'.output = w.output
  heap : w'.heap = (w.setCell ⟨g, i, none⟩ x).heap
theorem Wr.size {w w' : World} {g i : Nat} {x : Value} (h : Wr w w' g i x) : w'.heap.size = w.heap.size := by rw [h.heap]; simp [World.setCell]
theorem Wr.block {w w' : World} {g i k : Nat} {x : Value} (h : Wr w w' g i x) (hk : k ≠ g) : w'.heap[k]? = w.heap[k]? := by rw [h.heap]; exact Below.heap_setCell _ _ _ _ hk
theorem Wr.below {a w w' : World} {base g i : Nat} {x : Value} (h : Wr w w' g i x) (ha : Below base a w) (hg : base ≤ g) : Below base a w' := by
  have := ha.setCell (p := ⟨g, i, none⟩) hg x
  exact ⟨h.os.trans ha.os, h.tape.trans ha.tape, h.output.trans ha.output, by rw [h.size]; exact ha.size, fun k hk => by rw [h.heap]; exact this.block k hk⟩
theorem Wr.blk {w w' : World} {g i : Nat} {x : Value} {cs : Array Value} {t : TypeId} (h : Wr w w' g i x) (hc : w.heap[g]? = some (.cells cs t (0, 0))) : w'.heap[g]? = some (.cells (cs.setIfInBounds i x) t (0, 0)) := by
  rw [h.heap]; exact blk_set hc i x
theorem Wr.keep1 {w w' : World} {g i base : Nat} {x v : Value} {e : TypeId} {us : List Value} (h : Wr w w' g i x) (ho : Own1 w base e v us) (hne : v.ownBlock ≠ some g) : Own1 w' base e v us :=
  ho.keep fun b hb => h.block fun e => hne (by rw [hb, e])

/-- a word's cell -/
structure Word (w : World) (g wd : Nat) : Prop where
  blk : w.heap[g]? = some (.cells #[.int .u64 (wd : Int)] 163 (0, 0))
theorem Word.cell {w : World} {g wd : Nat} (h : Word w g wd) : w.cell? ⟨g, 0, none⟩ = some (.int .u64 (wd : Int)) := blk_cell h.blk 0
theorem Word.frozen {w : World} {g wd : Nat} (h : Word w g wd) : w.frozen? ⟨g, 0, none⟩ = false := blk_frozen h.blk 0
theorem Word.keep {w w' : World} {g wd : Nat} (h : Word w g wd) (hk : w'.heap[g]? = w.heap[g]?) : Word w' g wd := ⟨by rw [hk]; exact h.blk⟩
theorem Word.lt {w : World} {g wd : Nat} (h : Word w g wd) : g < w.heap.size := blk_lt h.blk
theorem Wr.word {w w' : World} {g wd x : Nat} (h : Wr w w' g 0 (.int .u64 (x : Int))) (hw : Word w g wd) : Word w' g x := ⟨by have := h.blk hw.blk; simpa using this⟩

/-- a set of numbers below n, at most 30: no cell, or one -/
structure SetAt (w : World) (base n : Nat) (v : Value) (wd : Nat) : Prop where
  ex : ∃ g, v = .slice (some ⟨g, 0, none⟩) (if n = 0 then 0 else 1) (if n = 0 then 0 else 1) ∧ base ≤ g ∧ (n ≠ 0 → Word w g wd)
  lt : wd < 2 ^ n
theorem SetAt.keep {w w' : World} {base n wd : Nat} {v : Value} (h : SetAt w base n v wd) (hk : ∀ b, v.ownBlock = some b → b < w.heap.size → w'.heap[b]? = w.heap[b]?) : SetAt w' base n v wd := by
  obtain ⟨⟨g, e, hb, hw⟩, hl⟩ := h
  exact ⟨⟨g, e, hb, fun hn => (hw hn).keep (hk g (by rw [e]; rfl) (hw hn).lt)⟩, hl⟩
theorem SetAt.below {w w' : World} {base n wd : Nat} {v : Value} (h : SetAt w base n v wd) (hb : Below w.heap.size w w') : SetAt w' base n v wd := h.keep fun b _ hlt => hb.block b hlt
theorem SetAt.open_ {w : World} {base n wd u : Nat} {v : Value} (h : SetAt w base n v wd) (hu : u < n) : ∃ g, v = .slice (some ⟨g, 0, none⟩) 1 1 ∧ base ≤ g ∧ Word w g wd := by
  obtain ⟨⟨g, e, hb, hw⟩, _⟩ := h
  have hn : n ≠ 0 := by omega
  rw [if_neg hn] at e
  exact ⟨g, e, hb, hw hn⟩

def Quiet (w w' : World) : Prop := w'.os = w.os ∧ w'.tape = w.tape ∧ w'.output = w.output ∧ w'.heap = w.heap
theorem Quiet.below {w w' : World} (h : Quiet w w') : Below w.heap.size w w' := ⟨h.1, h.2.1, h.2.2.1, by rw [h.2.2.2]; exact Nat.le_refl _, fun k _ => by rw [h.2.2.2]⟩
theorem Quiet.drew (w : World) (n : Nat) : Quiet w (w.drewN n) := ⟨rfl, rfl, rfl, rfl⟩

theorem pow_bd {u : Nat} (hu : u < 30) : 2 ^ u ≤ 536870912 := Nat.pow_le_pow_right (n := 2) (by decide) (show u ≤ 29 by omega)
theorem shl_lit (u : Nat) (hu : u < 30) : IntKind.u64.wrap ((2 : Int) ^ u) = ((2 ^ u : Nat) : Int) := by
  rw [IntKind.wrap_u64]
  have h := pow_bd hu
  have e : (2 : Int) ^ u = ((2 ^ u : Nat) : Int) := by simp
  rw [e]
  generalize 2 ^ u = p at h ⊢
  omega

def RetWr (w : World) (g : Nat) (x : Value) (e : Ending) (w' : World) : Prop := (∃ v, e = .returned v) ∧ Wr w w' g 0 x
set_option maxHeartbeats 800000 in
theorem add_any (g u wd : Nat) (w : World) (hw : Word w g wd) (hu : u < 30) (hwd : wd < 1073741824) :
    Calls Tryz.prog 108 #[.slice (some ⟨g, 0, none⟩) 1 1, .int .i64 (u : Int)] w (RetWr w g (.int .u64 ((wd ||| 2 ^ u : Nat) : Int))) := by
  have hc := hw.cell
  have hf := hw.frozen
  have q1 : (u : Int) / 64 = 0 := by omega
  have q2 : (u : Int) % 64 = u := by omega
  have hb := pow_bd hu
  have q4 := u64_or_nat wd (2 ^ u) (by omega) (by omega)
  rw [← shl_lit u hu] at q4
  have hv : (u : Int) < 30 := by omega
  have Q4 := Lib.hid q4; clear q4
  clear hw hb
  go_enter Tryz.func108, Tryz.ntmps108
  go_wp2
  go_region
  rw [Q4.out]
  go_end0
  exact ⟨⟨_, rfl⟩, rfl, rfl, rfl, rfl⟩

set_option maxHeartbeats 800000 in
theorem remove_any (g u wd : Nat) (w : World) (hw : Word w g wd) (hu : u < 30) (hwd : wd < 1073741824) :
    Calls Tryz.prog 110 #[.slice (some ⟨g, 0, none⟩) 1 1, .int .i64 (u : Int)] w (RetWr w g (.int .u64 ((wd &&& (18446744073709551615 - 2 ^ u) : Nat) : Int))) := by
  have hc := hw.cell
  have hf := hw.frozen
  have q1 : (u : Int) / 64 = 0 := by omega
  have q2 : (u : Int) % 64 = u := by omega
  have hb := pow_bd hu
  have q4 := u64_andNot_nat wd (2 ^ u) (by omega) (by omega)
  rw [← shl_lit u hu] at q4
  have hv : (u : Int) < 30 := by omega
  have Q4 := Lib.hid q4; clear q4
  clear hw hb
  go_enter Tryz.func110, Tryz.ntmps110
  go_wp2
  go_region
  rw [Q4.out]
  go_end0
  exact ⟨⟨_, rfl⟩, rfl, rfl, rfl, rfl⟩

theorem and_bit (wd u : Nat) (hu : u < 30) (hwd : wd < 1073741824) : bits .and .u64 (wd : Int) (IntKind.u64.wrap ((2 : Int) ^ u)) = ((wd &&& 2 ^ u : Nat) : Int) := by
  have hb := pow_bd hu
  rw [shl_lit u hu, bits_and_u64_nat wd (2 ^ u) (by omega) (by omega)]
theorem and_bit_ne (wd u : Nat) : (wd &&& 2 ^ u ≠ 0) ↔ wd.testBit u = true := by
  constructor
  · intro h
    cases ht : wd.testBit u with
    | true => rfl
    | false =>
      exfalso
      apply h
      apply Nat.eq_of_testBit_eq
      intro i
      rw [Nat.testBit_and, Nat.testBit_two_pow, Nat.zero_testBit]
      by_cases e : u = i
      · subst e; rw [ht]; rfl
      · simp [e]
  · intro h h0
    have : (wd &&& 2 ^ u).testBit u = true := by rw [Nat.testBit_and, h, Nat.testBit_two_pow]; simp
    rw [h0] at this
    simp at this

def RetQ (w : World) (v : Value) (e : Ending) (w' : World) : Prop := e = .returned v ∧ Quiet w w'
set_option maxHeartbeats 800000 in
theorem newSet_any (n : Nat) (w : World) (hn : n ≤ 30) :
    Calls Tryz.prog 107 #[.int .i64 (n : Int)] w fun e w' => ∃ v, e = .returned v ∧ SetAt w' w.heap.size n v 0 ∧ Below w.heap.size w w' := by
  by_cases h0 : n = 0
  · subst h0
    have hm := fun W : World => run_mk W 153 163 _ 8 Tryz.underlying153 info_u64 rfl (by decide) 0 (by decide) 0 0 rfl rfl
    go_enter Tryz.func107, Tryz.ntmps107
    go_wp2
    go_ret
    exact ⟨_, rfl, ⟨⟨_, rfl, Nat.le_refl _, fun h => absurd rfl h⟩, by decide⟩, (Below.refl _ _).alloc (Nat.le_refl _) _⟩
  · have hn' : (n : Int) ≤ 30 := by omega
    have hq : ((n : Int) + 64 - 1) / 64 = 1 := by omega
    have hm := fun W : World => run_mk W 153 163 _ 8 Tryz.underlying153 info_u64 rfl (by decide) 1 (by decide) 1 1 rfl rfl
    go_enter Tryz.func107, Tryz.ntmps107
    go_wp2
    go_ret
    refine ⟨_, rfl, ⟨⟨_, by rw [if_neg h0]; rfl, Nat.le_refl _, fun _ => ⟨heap_alloc_new w _⟩⟩, Nat.pow_pos (by decide)⟩, (Below.refl _ _).alloc (Nat.le_refl _) _⟩

/-! A word's trailing zeros; the numbers of a set, one by one: what it asks of a round, what it gives. -/
open Go.RowKit Go.Shelf
set_option linter.unusedVariables false
attribute [local go_sem] Oper.semAt_some

theorem wide_call {P : Program} {n : Nat} {f : FuncId} {args : Array Value} {w : World} {R R' : Ending → World → Prop} (h : Calls P f args w R) (hm : ∀ e w', R e w' → R' e w') :
    Fence.wide.fn f ∧ (Fence.wide.depth.isSome = true → 1 ≤ n) ∧ CallsIn Fence.wide (n - 1) P f args w R' := ⟨trivial, (fun h => by cases h), (callsIn_wide.2 h).mono hm⟩
theorem wide_call_in {P : Program} {n l : Nat} {f : FuncId} {args : Array Value} {w : World} {R R' : Ending → World → Prop} (h : Calls P f args w R) (hm : ∀ e w', R e w' → R' e w') :
    (Fence.wide.inRound l).fn f ∧ ((Fence.wide.inRound l).depth.isSome = true → 1 ≤ n) ∧ CallsIn (Fence.wide.inRound l) (n - 1) P f args w R' := ⟨trivial, (fun h => by cases h), CallsIn.inRound l ((callsIn_wide.2 h).mono hm)⟩

/-- the library's table of 64 numbers -/
def Tab (w : World) : Prop := TabAt 6 Lib.deBruijn64tab w
theorem Tab.block {w w' : World} (h : Tab w) (hk : w'.heap[6]? = w.heap[6]?) : Tab w' := by
  intro j hj
  rw [World.cell?_of_block (w := w) (a := ⟨6, j, none⟩) hk]
  exact h j hj
theorem Tab.lt {w : World} (h : Tab w) : 6 < w.heap.size := World.block_lt_of_cell? w _ (h 0 (by decide))
theorem Tab.below {w w' : World} {base : Nat} (h : Tab w) (hb : Below base w w') (hbase : 6 < base) : Tab w' := h.block (hb.block _ hbase)

set_option maxHeartbeats 800000 in
theorem tz_core (x k idx : Nat) (w : World) (hx0 : ((x : Int) == 0) = false)
    (key : IntKind.u64.wrap (bits BinOp.and IntKind.u64 (x : Int) (IntKind.u64.wrap (-(x : Int))) * 285870213051353865) / 288230376151711744 = (idx : Int))
    (hi : idx < 64) (hk : k < 64) (hcell : w.cell? ⟨6, idx, none⟩ = some (.int .u8 k)) :
    Calls Tryz.prog 122 #[.int .u64 x] w fun e w' => e = .returned (.int .i64 k) ∧ w = w' := by
  go_enter Tryz.func122, Tryz.ntmps122
  go_wp2_with (simp only [key])
  go_ret
  exact ⟨rfl, rfl⟩
theorem tz_any (x : Nat) (w : World) (hx : x < 18446744073709551616) (h0 : x ≠ 0) (hT : Tab w) :
    Calls Tryz.prog 122 #[.int .u64 x] w fun e w' => e = .returned (.int .i64 (Lib.ctz 64 x : Int)) ∧ w = w' := by
  obtain ⟨hlow, hk⟩ := Lib.lowest_bit 64 x h0 hx
  obtain ⟨hi, htab⟩ := Lib.deBruijn64_at _ hk
  have hcell := hT _ hi
  rw [htab] at hcell
  exact tz_core x _ _ w (by simp; omega) (tz64_key x _ hx h0 hlow) hi hk hcell

/-- one round more of the numbers of a word -/
def Rounds (n : Nat) (l : Nat) (wd : Nat) (N : Nat) (J Jx : List Nat → World → Prop) : Prop :=
  ∀ (pre : List Nat) (x : Nat) (W : World), J pre W → (∃ post, bitsL N wd = pre ++ x :: post) → YieldAt Fence.wide n Tryz.prog l #[.int .i64 (x : Int)] W fun e W' =>
    (e = .returned (.bool true) ∧ J (pre ++ [x]) W') ∨ (e = .returned (.bool false) ∧ Jx (pre ++ [x]) W')

set_option maxRecDepth 100000 in
set_option maxHeartbeats 1600000 in
theorem all_in (n l N : Nat) (v : Value) (base wd : Nat) (J Jx : List Nat → World → Prop) (W : World) (hN : N ≤ 30) (hT : ∀ pre W, J pre W → Tab W)
    (hY : Rounds (n - 1) l wd N J Jx) (hs : SetAt W base N v wd) (h0 : J [] W) :
    CallsIn Fence.wide n Tryz.prog 109 #[v, .func (.yield l) #[] #[]] W fun e W' => (∃ v, e = .returned v) ∧ (J (bitsL N wd) W' ∨ ∃ pre, Jx pre W') := by
  obtain ⟨⟨g, rfl, hb, hw⟩, hlt⟩ := hs
  by_cases hN0 : N = 0
  · subst hN0
    refine callsIn_of_wp Tryz.func109 rfl trivial ?_ rfl
    simp only [Tryz.ntmps109, List.size_toArray, List.length_cons, List.length_nil, Nat.reduceAdd, Nat.reduceSub, Array.replicate_succ, Array.replicate_zero, List.push_toArray, List.append_toArray, List.nil_append, List.cons_append]
    gi_wp2
    gi_loopw [8] (fun i wr => i = .int .i64 0 ∧ wr = W) (fun i _ => 0)
    case atStart => exact ⟨rfl, rfl⟩
    case round =>
      obtain ⟨rfl, rfl⟩ := hrel
      gi_wp2
      go_end0
      exact ⟨⟨_, rfl⟩, Or.inl (by simpa [bitsL] using h0)⟩
  · rw [if_neg hN0]
    have hc := (hw hN0).cell
    have hf := (hw hN0).frozen
    have HT := Lib.hid hT; clear hT
    have HY := Lib.hid hY; clear hY
    have H0 := Lib.hid h0; clear h0
    have hlt64 : 2 ^ N ≤ 1073741824 := Nat.pow_le_pow_right (n := 2) (by decide) hN
    have HLT64 := Lib.hid hlt64; clear hlt64 hw
    refine callsIn_of_wp Tryz.func109 rfl trivial ?_ rfl
    simp only [Tryz.ntmps109, List.size_toArray, List.length_cons, List.length_nil, Nat.reduceAdd, Nat.reduceSub, Array.replicate_succ, Array.replicate_zero, List.push_toArray, List.append_toArray, List.nil_append, List.cons_append]
    gi_wp2
    gi_loopw [8] (fun i wr => (i = .int .i64 0 ∧ wr = W) ∨ (i = .int .i64 1 ∧ Hid (J (bitsL N wd) wr))) (fun i _ => 2 - (intOf i).toNat)
    case atStart => exact Or.inl ⟨rfl, rfl⟩
    case round =>
      rcases hrel with ⟨rfl, rfl⟩ | ⟨rfl, hJ⟩
      · gi_wp2
        gi_loopw [5] (fun u wq => ∃ (wd' : Nat) (pre : List Nat), u = .int .u64 (wd' : Int) ∧ Hid (bitsL N wd = pre ++ bitsL N wd') ∧ Hid (wd' < 2 ^ N) ∧ Hid (J pre wq)) (fun u _ => (intOf u).toNat)
        case atStart => exact ⟨wd, [], rfl, Lib.hid rfl, Lib.hid hlt, H0⟩
        case round =>
          obtain ⟨wd', pre, rfl, hpre, hlt', hJ⟩ := hrel
          by_cases hz : wd' = 0
          · subst hz
            gi_wp2
            go_roundw
            case rel => exact Or.inr ⟨rfl, Lib.hid (by rw [hpre.out, bitsL_zero, List.append_nil]; exact hJ.out)⟩
            case measure => simp [intOf]
          · obtain ⟨hst, hcl, hdec⟩ := bitsL_step hz hlt'.out (by omega)
            have hb1 : wd' < 1073741824 := Nat.lt_of_lt_of_le hlt'.out HLT64.out
            obtain ⟨c, hcc⟩ : ∃ c, Lib.ctz 64 wd' = c := ⟨_, rfl⟩
            have ct := fun (w : World) (hT : Tab w) => tz_any wd' w (by omega) hz hT
            rw [hcc] at hst hcl ct
            have hsub : bits .and .u64 (wd' : Int) ((wd' : Int) - 1) = ((wd' &&& (wd' - 1) : Nat) : Int) := by
              rw [show (wd' : Int) - 1 = ((wd' - 1 : Nat) : Int) from by omega]
              exact bits_and_u64_nat _ _ (by omega) (by omega)
            obtain ⟨q, hq⟩ : ∃ q, wd' &&& (wd' - 1) = q := ⟨_, rfl⟩
            rw [hq] at hst hsub hdec
            have hz1 : (1 : Int) ≤ (wd' : Int) := by omega
            have hzb : ((wd' : Int) == 0) = false := by rw [beq_eq_false_iff_ne]; omega
            have hc30 : (c : Int) < 30 := by omega
            obtain ⟨fn, tmps, assign, body, hy, hR⟩ := HY.out pre c wr hJ.out ⟨_, by rw [hpre.out, hst]⟩
            have HST := Lib.hid hst
            have HSUB := Lib.hid hsub
            have HQ := Lib.hid hq
            have CT := Lib.hid ct
            clear hst hsub hq ct hcc
            gi_wp2_with fail
            refine wide_call (CT.out _ (HT.out _ _ hJ.out)) ?_
            rintro e w' ⟨rfl, rfl⟩
            gi_wp2
            refine ⟨(fun h => by cases h), hR.mono ?_⟩
            rintro e W3 (⟨rfl, hJ3⟩ | ⟨rfl, hJx3⟩)
            · gi_wp2
              go_roundw
              case rel => exact ⟨q, pre ++ [c], by rw [HSUB.out], Lib.hid (by rw [hpre.out, HST.out, List.append_assoc]; rfl), Lib.hid (by have := hlt'.out; omega), Lib.hid hJ3⟩
              case measure => rw [HSUB.out]; simp [intOf]; omega
            · gi_wp2
              refine bodyPost_ret (results_none rfl _ _ _) rfl ?_
              exact ⟨⟨_, rfl⟩, Or.inr ⟨_, hJx3⟩⟩
      · gi_wp2
        go_end0
        exact ⟨⟨_, rfl⟩, Or.inl hJ.out⟩

end Go.Proofs.YtdcfakbelnpljaaGreatDoor.Dag
