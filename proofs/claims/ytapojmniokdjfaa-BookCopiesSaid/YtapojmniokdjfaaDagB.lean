/- Layer Dag over, for a seat that needs several layers: DagMem, DagSet, DagIter. -/
import Derived.Test.YtapojmniokdjfaaDagA
import Derived.Test.YtapojmniokdjfaaProg
import Derived.WalkKit
import Derived.ProofKit
import Derived.Lib.Hide
import Derived.OpenShut
import Derived.Laws.AppendOwn
import Derived.Laws.AppendOwnNone
import Derived.Laws.OwnMore
import Derived.Laws.MakeOwn
import Derived.Maps.AppendAt
import Derived.OwnWalk
import Derived.Laws.BitsAllLaws
import Derived.Lib.TrailingZeros
import Derived.Shelf.Spec.TrailingZeros
import Derived.BigQuiet
import Derived.IntWalk
import Derived.RangeFuncNested
import Derived.RangeFuncBound
import Derived.RangeFuncCalls
import Derived.RangeFuncLeaves
import Derived.Shelf.Abstract
import Derived.OwnWalkIn
import Derived.TacticsInMore
import Derived.LoopNIn
import Derived.LoopIn
namespace Go.Proofs.Ytapojmniokdjfaa.Dag
set_option maxRecDepth 100000
/-! Slices in memory: what they hold; rows that the call made; rows of such rows; append onto these. -/
open Go.RowKit
set_option linter.unusedVariables false

theorem blw {w w1 w2 : World} (h : Below w.heap.size w w1) (k : Below w1.heap.size w1 w2) : Below w.heap.size w w2 := h.trans (k.mono h.size)
theorem blk_lt {w : World} {g : Nat} {o : Obj} (h : w.heap[g]? = some o) : g < w.heap.size := (Array.getElem?_eq_some_iff.1 h).1
theorem blk_cell {w : World} {g : Nat} {cs : Array Value} {t : TypeId} (h : w.heap[g]? = some (.cells cs t (0, 0))) (i : Nat) : w.cell? ⟨g, i, none⟩ = cs[i]? := cell_of_row w g i cs t (0, 0) h
theorem blk_frozen {w : World} {g : Nat} {cs : Array Value} {t : TypeId} (h : w.heap[g]? = some (.cells cs t (0, 0))) (i : Nat) : w.frozen? ⟨g, i, none⟩ = false := by simp [World.frozen?, h]
theorem blk_set {w : World} {g : Nat} {cs : Array Value} {t : TypeId} (h : w.heap[g]? = some (.cells cs t (0, 0))) (i : Nat) (u : Value) : (w.setCell ⟨g, i, none⟩ u).heap[g]? = some (.cells (cs.setIfInBounds i u) t (0, 0)) := by
  simp [World.setCell, Array.getElem?_modify, h]
theorem blk_other {w : World} {g b i : Nat} {u : Value} (h : g ≠ b) : (w.setCell ⟨b, i, none⟩ u).heap[g]? = w.heap[g]? := Below.heap_setCell _ _ _ _ h

/-- '.slice A us.length c' holds the values us, one cell each -/
structure Sl (w : World) (A : Option Addr) (c : Nat) (us : List Value) : Prop where
  cells : ∀ k u, us[k]? = some u → ∃ b off, A = some ⟨b, off, none⟩ ∧ w.cell? ⟨b, off + k, none⟩ = some u
  cap : us.length ≤ c
  top : c ≤ maxLen
  nil : A = none → c = 0
section
variable {w w' : World} {A : Option Addr} {c : Nat} {us : List Value}
theorem Sl.empty (w : World) : Sl w none 0 [] := ⟨fun k x h => by simp at h, Nat.le_refl _, Nat.zero_le _, fun _ => rfl⟩
theorem Sl.below (h : Sl w A c us) (hb : Below w.heap.size w w') : Sl w' A c us := by
  refine ⟨fun k x hx => ?_, h.cap, h.top, h.nil⟩
  obtain ⟨b, off, e, hc⟩ := h.cells k x hx
  exact ⟨b, off, e, (hb.cell (p := ⟨b, off + k, none⟩) (World.block_lt_of_cell? w _ hc)).trans hc⟩
theorem Sl.at_ (h : Sl w A c us) {k : Nat} (hk : k < us.length) : ∃ b off u, A = some ⟨b, off, none⟩ ∧ us[k]? = some u ∧ w.cell? ⟨b, off + k, none⟩ = some u := by
  have hx : us[k]? = some us[k] := List.getElem?_eq_getElem hk
  obtain ⟨b, off, e, hc⟩ := h.cells k _ hx
  exact ⟨b, off, _, e, hx, hc⟩
end
theorem Sl.nilAny (w : World) (A : Option Addr) (c : Nat) (hc : c ≤ maxLen) (hn : A = none → c = 0) : Sl w A c [] := ⟨fun k x h => by simp at h, Nat.zero_le _, hc, hn⟩

def ints (xs : List Int) : List Value := xs.map (Value.int .i64)
theorem ints_len (xs : List Int) : (ints xs).length = xs.length := by simp [ints]
theorem ints_app (a b : List Int) : ints (a ++ b) = ints a ++ ints b := by simp [ints]
theorem ints_get {xs : List Int} {k : Nat} {x : Int} (h : xs[k]? = some x) : (ints xs)[k]? = some (.int .i64 x) := by simp [ints, h]
theorem ints_get' {xs : List Int} {k : Nat} {u : Value} (h : (ints xs)[k]? = some u) : ∃ x, xs[k]? = some x ∧ u = .int .i64 x := by
  unfold ints at h
  rw [List.getElem?_map] at h
  cases hx : xs[k]? with
  | none => rw [hx] at h; cases h
  | some x => rw [hx] at h; injection h with h; exact ⟨x, rfl, h.symm⟩
theorem ints_one (xs : List Int) : ∀ u ∈ ints xs, u.oneCell' = true := by
  intro u hu
  obtain ⟨y, _, rfl⟩ := List.mem_map.1 hu
  rfl
def Ints (w : World) (A : Option Addr) (c : Nat) (xs : List Int) : Prop := Sl w A c (ints xs)
section
variable {w w' : World} {A : Option Addr} {c : Nat} {xs : List Int}
theorem Ints.empty (w : World) : Ints w none 0 [] := Sl.empty w
theorem Ints.below (h : Ints w A c xs) (hb : Below w.heap.size w w') : Ints w' A c xs := Sl.below h hb
theorem Ints.len (h : Ints w A c xs) : xs.length ≤ c := by have := Sl.cap h; rwa [ints_len] at this
theorem Ints.at_ (h : Ints w A c xs) {k : Nat} (hk : k < xs.length) : ∃ b off x, A = some ⟨b, off, none⟩ ∧ xs[k]? = some x ∧ w.cell? ⟨b, off + k, none⟩ = some (.int .i64 x) := by
  obtain ⟨b, off, u, e, hu, hc⟩ := Sl.at_ h (k := k) (by rw [ints_len]; exact hk)
  obtain ⟨x, hx, rfl⟩ := ints_get' hu
  exact ⟨b, off, x, e, hx, hc⟩
end

/-- '.slice A ls.length c' holds slices that hold the lists ls -/
structure IRows (w : World) (A : Option Addr) (c : Nat) (ls : List (List Int)) : Prop where
  cells : ∀ k xs, ls[k]? = some xs → ∃ b off A' c', A = some ⟨b, off, none⟩ ∧ w.cell? ⟨b, off + k, none⟩ = some (.slice A' xs.length c') ∧ Ints w A' c' xs
  cap : ls.length ≤ c
  top : c ≤ maxLen
  nil : A = none → c = 0
section
variable {w w' : World} {A : Option Addr} {c : Nat} {ls : List (List Int)}
theorem IRows.empty (w : World) : IRows w none 0 [] := ⟨fun k x h => by simp at h, Nat.le_refl _, Nat.zero_le _, fun _ => rfl⟩
theorem IRows.below (h : IRows w A c ls) (hb : Below w.heap.size w w') : IRows w' A c ls := by
  refine ⟨fun k x hx => ?_, h.cap, h.top, h.nil⟩
  obtain ⟨b, off, A', c', e, hc, hi⟩ := h.cells k x hx
  exact ⟨b, off, A', c', e, (hb.cell (p := ⟨b, off + k, none⟩) (World.block_lt_of_cell? w _ hc)).trans hc, hi.below hb⟩
theorem IRows.at_ (h : IRows w A c ls) {k : Nat} (hk : k < ls.length) :
    ∃ b off A' c' xs, A = some ⟨b, off, none⟩ ∧ ls[k]? = some xs ∧ w.cell? ⟨b, off + k, none⟩ = some (.slice A' xs.length c') ∧ Ints w A' c' xs := by
  have hx : ls[k]? = some ls[k] := List.getElem?_eq_getElem hk
  obtain ⟨b, off, A', c', e, hc, hi⟩ := h.cells k _ hx
  exact ⟨b, off, A', c', _, e, hx, hc, hi⟩
end

/-! rows that the call made -/
abbrev Own1 (w : World) (base : Nat) (e : TypeId) (v : Value) (us : List Value) : Prop := w.ownsRow base e 1 v us.length us
theorem own_len {w : World} {base : Nat} {e : TypeId} {v : Value} {n : Nat} {us : List Value} (h : w.ownsRow base e 1 v n us) : us.length = n := by have := h.1; omega
section
variable {w w' : World} {base : Nat} {e : TypeId} {v : Value} {us : List Value}
theorem Own1.nil (w : World) (base : Nat) (e : TypeId) : Own1 w base e (.slice none 0 0) [] := World.ownsRow_nil w base e 1
theorem Own1.keep (h : Own1 w base e v us) (hk : ∀ b, v.ownBlock = some b → w'.heap[b]? = w.heap[b]?) : Own1 w' base e v us := by
  refine ⟨h.1, ?_⟩
  rcases h.2 with h0 | ⟨g, cap, cur, hv, hbg, hh, rest⟩
  · exact Or.inl h0
  · exact Or.inr ⟨g, cap, cur, hv, hbg, by rw [hk g (by rw [hv]; rfl)]; exact hh, rest⟩
theorem Own1.lt (h : Own1 w base e v us) {b : Nat} (hb : v.ownBlock = some b) : base ≤ b ∧ b < w.heap.size := World.ownsRow.lt h b hb
theorem Own1.below (h : Own1 w base e v us) (hb : Below w.heap.size w w') : Own1 w' base e v us := h.keep fun b e => hb.block b (h.lt e).2
theorem Own1.rebase (h : Own1 w base e v us) {base' : Nat} (hb : base' ≤ base) : Own1 w base' e v us := by
  refine ⟨h.1, ?_⟩
  rcases h.2 with h0 | ⟨g, cap, cur, hv, hbg, rest⟩
  · exact Or.inl h0
  · exact Or.inr ⟨g, cap, cur, hv, Nat.le_trans hb hbg, rest⟩
/-- its block bears its type -/
theorem Own1.typed (h : Own1 w base e v us) {b : Nat} (hb : v.ownBlock = some b) : ∃ cs, w.heap[b]? = some (.cells cs e (0, 0)) := by
  rcases h.2 with ⟨hv, _⟩ | ⟨g, cap, cur, hv, _, hh, _⟩
  · rw [hv] at hb; cases hb
  · rw [hv] at hb; injection hb with hb; subst hb; exact ⟨_, hh⟩
theorem Own1.slice (h : Own1 w base e v us) : ∃ A c, v = .slice A us.length c ∧ Sl w A c us ∧ (A = none ∨ ∃ g, A = some ⟨g, 0, none⟩) := by
  rcases h.2 with ⟨hv, hn⟩ | ⟨g, cap, cur, hv, hbg, hh, hnc, hcm, hcs, htake⟩
  · have hx : us = [] := List.eq_nil_of_length_eq_zero hn
    subst hx
    exact ⟨none, 0, hv, Sl.empty _, Or.inl rfl⟩
  · refine ⟨_, cap, hv, ⟨fun k u hu => ?_, hnc, hcm, fun e => by cases e⟩, Or.inr ⟨g, rfl⟩⟩
    refine ⟨g, 0, rfl, ?_⟩
    rw [Nat.zero_add, cell_of_row w g k cur _ (0, 0) hh]
    have hk : k < us.length := (List.getElem?_eq_some_iff.1 hu).1
    have e' : (cur.toList.take (us.length * 1))[k]? = some u := by rw [htake]; exact hu
    rw [List.getElem?_take, if_pos (by omega)] at e'
    rw [← e', Array.getElem?_toList]
theorem Own1.sl {A : Option Addr} {n c : Nat} (h : Own1 w base e (.slice A n c) us) : n = us.length ∧ Sl w A c us := by
  obtain ⟨A', c', e1, h1, _⟩ := h.slice
  injection e1 with a b c
  subst a b c
  exact ⟨rfl, h1⟩
/-- one cell of it -/
theorem Own1.at_ {A : Option Addr} {n c k : Nat} {u : Value} (h : Own1 w base e (.slice A n c) us) (hk : us[k]? = some u) :
    ∃ g, A = some ⟨g, 0, none⟩ ∧ base ≤ g ∧ g < w.heap.size ∧ w.cell? ⟨g, k, none⟩ = some u ∧ w.frozen? ⟨g, k, none⟩ = false ∧ (∃ cs, w.heap[g]? = some (.cells cs e (0, 0))) ∧
      (∀ x, Own1 (w.setCell ⟨g, k, none⟩ x) base e (.slice A n c) (us.set k x)) := by
  have hh := h
  obtain ⟨hn, hs⟩ := h.sl
  obtain ⟨b, off, e1, hc⟩ := hs.cells k u hk
  rcases h.2 with ⟨hv, h0⟩ | ⟨g, cap, cur, hv, hbg, hg, _⟩
  · rw [List.eq_nil_of_length_eq_zero h0] at hk; simp at hk
  · injection hv with a1 a2 a3
    subst a1 a2 a3
    injection e1 with e1
    injection e1 with e1 e2
    subst e1 e2
    rw [Nat.zero_add] at hc
    refine ⟨_, rfl, hbg, blk_lt hg, hc, blk_frozen hg k, ⟨_, hg⟩, fun x => ?_⟩
    have := (World.ownsRow.stored hh k x).1
    unfold Own1
    rw [List.length_set]
    exact this
end
theorem Own1.lit (w : World) (base : Nat) (e : TypeId) (hb : base ≤ w.heap.size) (us : List Value) (hl : us.length ≤ maxLen) :
    Own1 (w.alloc (.cells us.toArray e)) base e (.slice (some ⟨w.heap.size, 0, none⟩) us.length us.length) us := by
  have := World.ownsRow_lit (base := base) (e := e) (size := 1) w us.toArray us.length hb hl (by simp)
  simpa using this
theorem Own1.litm (w : World) (base : Nat) (e : TypeId) (hb : base ≤ w.heap.size) (us : List Value) {n g : Nat} (hn : us.length = n) (hg : w.heap.size = g) (hl : n ≤ maxLen) :
    Own1 (w.alloc (.cells us.toArray e)) base e (.slice (some ⟨g, 0, none⟩) n n) us := by
  subst hn hg; exact Own1.lit w base e hb us hl

abbrev OwnI (w : World) (base : Nat) (v : Value) (xs : List Int) : Prop := Own1 w base 3 v (ints xs)
theorem OwnI.ints {w : World} {base : Nat} {v : Value} {xs : List Int} (h : OwnI w base v xs) : ∃ A c, v = .slice A xs.length c ∧ Ints w A c xs := by
  obtain ⟨A, c, e, hs, _⟩ := Own1.slice h
  rw [ints_len] at e
  exact ⟨A, c, e, hs⟩
theorem OwnI.ints' {w : World} {base n c : Nat} {A : Option Addr} {xs : List Int} (h : OwnI w base (.slice A n c) xs) : n = xs.length ∧ Ints w A c xs := by
  obtain ⟨A', c', e1, h1⟩ := h.ints
  injection e1 with a b c
  subst a b c
  exact ⟨rfl, h1⟩

theorem info_int : (Try.prog.info? 3).map (fun i => (i.zero, i.size, i.bytes)) = some (some (.int .i64 0), 1, 8) := by kernel_rfl
theorem info_bool : (Try.prog.info? 4).map (fun i => (i.zero, i.size, i.bytes)) = some (some (.bool false), 1, 1) := by kernel_rfl
theorem info_u64 : (Try.prog.info? 112).map (fun i => (i.zero, i.size, i.bytes)) = some (some (.int .u64 0), 1, 8) := by kernel_rfl
theorem info_is : (Try.prog.info? 28).map (fun i => (i.zero, i.size, i.bytes)) = some (some (.slice none 0 0), 1, 24) := by kernel_rfl
/-- append onto a row of the call's own; the source may be nil, empty, or neither -/
theorem wpList_appG {w : World} {ops : Array Oper} {rest : List Oper} {o : Oper} {a : Act} {Q : Exit → Act → World → Prop} (hgd : o.guard = none) (s x : Operand) (t e : TypeId) (z : Value) (bytes : Nat)
    (hu : Try.prog.underlying t = some (.slice e)) (hinfo : (Try.prog.info? e).map (fun i => (i.zero, i.size, i.bytes)) = some (some z, 1, bytes)) (hz : z.cells.size = 1)
    (ho : o.op = .call { callee := .builtin .append, args := #[s, x], argTypes := #[t, t] })
    (base : Nat) (v : Value) (us : List Value) (hs : a.eval s = v) (hown : Own1 w base e v us) (A : Option Addr) (c m : Nat) (zs : List Value) (hm : zs.length = m) (hx : a.eval x = .slice A m c)
    (hr : Sl w A c zs) (hone : ∀ u ∈ zs, u.oneCell' = true) (hlen : us.length + zs.length ≤ maxLen) (hlb : (us.length + zs.length) * bytes ≤ 140737488355328) (hbase : base ≤ w.heap.size)
    (h : ∀ (l : List Value) (A' : Option Addr) (c' : Nat) (w' : World), l = us ++ zs → Own1 w' base e (.slice A' l.length c') l → w.grownBy w' v.ownBlock → ((Value.slice A' l.length c').ownBlock = v.ownBlock ∨ (Value.slice A' l.length c').ownBlock = some w.heap.size) → Below base w w' →
      wpList Try.prog ops Q rest (a.put o.dst (.slice A' l.length c')) w') :
    wpList Try.prog ops Q (o :: rest) a w := by
  subst hm
  obtain ⟨i0, hi0, hz0, hz1, hz2⟩ := info_parts hinfo
  have fin : ∀ (v' : Value) (w' : World), w'.ownsRow base e 1 v' (us.length + zs.length) (us ++ zs) → w.grownBy w' v.ownBlock → (v'.ownBlock = v.ownBlock ∨ v'.ownBlock = some w.heap.size) →
      wpList Try.prog ops Q rest (a.put o.dst v') w' := by
    intro v' w' hown' hg hb
    have ho' : Own1 w' base e v' (us ++ zs) := by unfold Own1; rw [List.length_append]; exact hown'
    obtain ⟨A', c', hv', _⟩ := ho'.slice
    subst hv'
    exact h _ A' c' w' rfl ho' hg hb ((Below.refl _ _).grown hg hbase fun k hk => (Own1.lt hown hk).1)
  rcases A with _ | ad
  · have hc0 := hr.nil rfl
    have hz' : zs = [] := List.eq_nil_of_length_eq_zero (by have := hr.cap; omega)
    subst hz'
    subst hc0
    refine wpList_append_own_none hgd s x _ ho base _ i0 1 hu hi0 v us.length _ hs hown hx ?_
    exact fin v w (by simpa using hown) (World.grownBy.refl _ _) (Or.inl rfl)
  · refine wpList_append_own_at w hgd s x _ ho base _ i0 z 1 bytes hu hi0 hz0 hz1 hz2 hz (by decide) v us.length _ hs hown ad zs.length c zs hx (by simp) ?_ hone hlen ?_ hbase ?_
    · intro j u hu'
      obtain ⟨b, off, e, hc⟩ := hr.cells j u hu'
      injection e with e
      subst e
      rw [Go.WideShapes.add_plain, hc]
    · exact hlb
    · intro v' w' hown' hg _ hb
      exact fin v' w' hown' hg hb

/-- the same, for at most a hundred million elements -/
theorem wpList_appg {w : World} {ops : Array Oper} {rest : List Oper} {o : Oper} {a : Act} {Q : Exit → Act → World → Prop} (hgd : o.guard = none) (s x : Operand) (t e : TypeId) (z : Value) (bytes : Nat)
    (hu : Try.prog.underlying t = some (.slice e)) (hinfo : (Try.prog.info? e).map (fun i => (i.zero, i.size, i.bytes)) = some (some z, 1, bytes)) (hz : z.cells.size = 1) (hby : bytes ≤ 24)
    (ho : o.op = .call { callee := .builtin .append, args := #[s, x], argTypes := #[t, t] })
    (base : Nat) (v : Value) (us : List Value) (hs : a.eval s = v) (hown : Own1 w base e v us) (A : Option Addr) (c m : Nat) (zs : List Value) (hm : zs.length = m) (hx : a.eval x = .slice A m c)
    (hr : Sl w A c zs) (hone : ∀ u ∈ zs, u.oneCell' = true) (hlen : us.length + zs.length ≤ 100000000) (hbase : base ≤ w.heap.size)
    (h : ∀ (l : List Value) (A' : Option Addr) (c' : Nat) (w' : World), l = us ++ zs → Own1 w' base e (.slice A' l.length c') l → w.grownBy w' v.ownBlock → ((Value.slice A' l.length c').ownBlock = v.ownBlock ∨ (Value.slice A' l.length c').ownBlock = some w.heap.size) → Below base w w' →
      wpList Try.prog ops Q rest (a.put o.dst (.slice A' l.length c')) w') :
    wpList Try.prog ops Q (o :: rest) a w :=
  wpList_appG hgd s x t e z bytes hu hinfo hz ho base v us hs hown A c m zs hm hx hr hone (Nat.le_trans hlen (by decide)) (Nat.le_trans (Nat.mul_le_mul hlen hby) (by decide)) hbase h

theorem made_one (z : Value) (hz : z.cells = #[z]) (n : Nat) : madeCells z.cells n = Array.replicate n z := by
  apply Array.ext
  · simp [madeCells, hz]
  · intro i h1 h2
    simp [madeCells, hz, Nat.mod_one]
/-- make of n elements -/
theorem run_mk (W : World) (t e : TypeId) (z : Value) (bytes : Nat) (hu : Try.prog.underlying t = some (.slice e)) (hinfo : (Try.prog.info? e).map (fun i => (i.zero, i.size, i.bytes)) = some (some z, 1, bytes)) (hz : z.cells = #[z]) (hby : bytes ≤ 24)
    (n : Nat) (hn : n ≤ 1000000) (x y : Int) (hx : x = (n : Int)) (hy : y = (n : Int)) :
    (Instr.makeSlice t (.int .i64 x) (.int .i64 y)).run Try.prog W = .ok (.slice (some ⟨W.heap.size, 0, none⟩) n n) (W.alloc (.cells (Array.replicate n z) e)) := by
  subst hx hy
  obtain ⟨i0, hi0, hz0, hz1, hz2⟩ := info_parts hinfo
  have hb : n * bytes ≤ 1000000 * 24 := Nat.mul_le_mul hn hby
  have hb2 : (i0.bytes : Int) * (n : Int) ≤ 281474976710656 := by
    rw [hz2, Int.mul_comm, ← Int.natCast_mul]
    omega
  have h := run_makeSlice (P := Try.prog) W t e i0 z hu hi0 hz0 .i64 .i64 (n : Int) (n : Int) (by omega) (by omega) (by rw [hz1]; omega) hb2 (by omega)
  rw [h, hz1, Int.toNat_natCast, Nat.mul_one, made_one z hz]
theorem Own1.make (w : World) (base : Nat) (e : TypeId) (hb : base ≤ w.heap.size) (n : Nat) (hn : n ≤ 1000000) (z : Value) {g : Nat} (hg : w.heap.size = g) :
    Own1 (w.alloc (.cells (Array.replicate n z) e)) base e (.slice (some ⟨g, 0, none⟩) n n) (List.replicate n z) := by
  have := Own1.litm w base e hb (List.replicate n z) (n := n) (by simp) hg (by simp only [maxLen]; omega)
  simpa using this
/-- a literal of one element, where it lies -/
theorem Sl.one {w : World} {e : TypeId} {u : Value} {g : Nat} (hg : w.heap.size = g) : Sl (w.alloc (.cells #[u] e)) (some ⟨g, 0, none⟩) 1 [u] := by
  subst hg
  refine ⟨fun k x hx => ?_, Nat.le_refl _, by simp [maxLen], fun e => by cases e⟩
  match k, hx with
  | 0, hx =>
    simp at hx; subst hx
    exact ⟨_, 0, rfl, (cell_of_row _ _ _ _ _ (0, 0) (heap_alloc_new w _)).trans rfl⟩
  | k + 1, hx => simp at hx


/-! Sets of many numbers as words of 64: in plain words. -/
def wdN (wd i : Nat) : Nat := (wd >>> (64 * i)) % 18446744073709551616
theorem wdN_lt (wd i : Nat) : wdN wd i < 18446744073709551616 := Nat.mod_lt _ (by decide)
theorem wdN_bit (wd i j : Nat) : (wdN wd i).testBit j = (decide (j < 64) && wd.testBit (64 * i + j)) := by
  unfold wdN
  rw [show (18446744073709551616 : Nat) = 2 ^ 64 from by decide, Nat.testBit_mod_two_pow, Nat.testBit_shiftRight]
theorem wdN_zero (i : Nat) : wdN 0 i = 0 := by simp [wdN]
theorem wdN_or (wd u j : Nat) : wdN (wd ||| 2 ^ u) j = if j = u / 64 then wdN wd j ||| 2 ^ (u % 64) else wdN wd j := by
  apply Nat.eq_of_testBit_eq
  intro i
  split
  · rename_i h
    rw [wdN_bit, or_bit, or_bit, wdN_bit]
    by_cases hi : i < 64
    · have : decide (64 * j + i = u) = decide (i = u % 64) := by rw [decide_eq_decide]; omega
      rw [this]; simp [hi]
    · have h1 : decide (i < 64) = false := by simp; omega
      have h2 : decide (i = u % 64) = false := by simp; omega
      rw [h1, h2]; rfl
  · rename_i h
    rw [wdN_bit, or_bit, wdN_bit]
    by_cases hi : i < 64
    · have : decide (64 * j + i = u) = false := by simp; omega
      rw [this]; simp
    · have h1 : decide (i < 64) = false := by simp; omega
      rw [h1]; rfl
def clr (wd u : Nat) : Nat := wd ^^^ (wd &&& 2 ^ u)
theorem clr_bit (wd u i : Nat) : (clr wd u).testBit i = (wd.testBit i && decide (i ≠ u)) := by
  unfold clr
  rw [Nat.testBit_xor, Nat.testBit_and, Nat.testBit_two_pow]
  by_cases h : u = i
  · subst h; simp
  · have h2 : decide (u = i) = false := by simp [h]
    have h3 : decide (i ≠ u) = true := by simp; exact fun e => h e.symm
    rw [h2, h3]; simp
theorem clr_lt {n wd u : Nat} (h : wd < 2 ^ n) : clr wd u < 2 ^ n := by
  apply Nat.lt_pow_two_of_testBit
  intro i hi
  rw [clr_bit, Nat.testBit_lt_two_pow (Nat.lt_of_lt_of_le h (Nat.pow_le_pow_right (by decide) hi))]
  rfl
theorem wdN_clr (wd u j : Nat) : wdN (clr wd u) j = if j = u / 64 then wdN wd j &&& (18446744073709551615 - 2 ^ (u % 64)) else wdN wd j := by
  apply Nat.eq_of_testBit_eq
  intro i
  split
  · rename_i h
    rw [wdN_bit, clr_bit, clear_bit _ _ _ (by have := wdN_lt wd j; have : (2 : Nat) ^ 64 = 18446744073709551616 := by decide
                                              omega) (by omega), wdN_bit]
    by_cases hi : i < 64
    · have : decide (64 * j + i ≠ u) = decide (i ≠ u % 64) := by rw [decide_eq_decide]; omega
      rw [this]; simp [hi]
    · have h1 : decide (i < 64) = false := by simp; omega
      rw [h1]; rfl
  · rename_i h
    rw [wdN_bit, clr_bit, wdN_bit]
    by_cases hi : i < 64
    · have : decide (64 * j + i ≠ u) = true := by simp; omega
      rw [this]; simp
    · have h1 : decide (i < 64) = false := by simp; omega
      rw [h1]; rfl
/-- what is left from word i on -/
def hiS (i wd : Nat) : Nat := (wd >>> (64 * i)) <<< (64 * i)
theorem hiS_bit (i wd j : Nat) : (hiS i wd).testBit j = (decide (64 * i ≤ j) && wd.testBit j) := by
  unfold hiS
  rw [Nat.testBit_shiftLeft, Nat.testBit_shiftRight]
  by_cases h : 64 * i ≤ j
  · rw [show 64 * i + (j - 64 * i) = j from by omega]
  · have : decide (j ≥ 64 * i) = false := by simp; omega
    rw [this]; rfl
theorem hiS_zero (wd : Nat) : hiS 0 wd = wd := by simp [hiS]
theorem hiS_end {n wd i : Nat} (h : wd < 2 ^ n) (hi : n ≤ 64 * i) : hiS i wd = 0 := by
  apply Nat.eq_of_testBit_eq
  intro j
  rw [hiS_bit, Nat.zero_testBit]
  by_cases hj : 64 * i ≤ j
  · rw [Nat.testBit_lt_two_pow (Nat.lt_of_lt_of_le h (Nat.pow_le_pow_right (by decide) (by omega)))]; simp
  · have : decide (64 * i ≤ j) = false := by simp; omega
    rw [this]; rfl
/-- what is left of word i, and the words behind it -/
def catS (u i wd : Nat) : Nat := (u <<< (64 * i)) ||| hiS (i + 1) wd
theorem catS_bit (u i wd j : Nat) : (catS u i wd).testBit j = ((decide (64 * i ≤ j) && u.testBit (j - 64 * i)) || (decide (64 * (i + 1) ≤ j) && wd.testBit j)) := by
  unfold catS
  rw [Nat.testBit_or, Nat.testBit_shiftLeft, hiS_bit]
theorem catS_zero (i wd : Nat) : catS 0 i wd = hiS (i + 1) wd := by simp [catS]
theorem catS_start (i wd : Nat) : catS (wdN wd i) i wd = hiS i wd := by
  apply Nat.eq_of_testBit_eq
  intro j
  rw [catS_bit, hiS_bit, wdN_bit]
  by_cases h1 : 64 * i ≤ j
  · rw [show 64 * i + (j - 64 * i) = j from by omega]
    by_cases h2 : 64 * (i + 1) ≤ j
    · have e : decide (j - 64 * i < 64) = false := by simp; omega
      rw [e]; simp [h1, h2]
    · have e : decide (j - 64 * i < 64) = true := by simp; omega
      rw [e]; simp [h1, h2]
  · have e1 : decide (64 * i ≤ j) = false := by simp; omega
    have e2 : decide (64 * (i + 1) ≤ j) = false := by simp; omega
    rw [e1, e2]; rfl
theorem catS_step {n u i wd : Nat} (h0 : u ≠ 0) (h : u < 18446744073709551616) (hn : catS u i wd < 2 ^ n) :
    bitsL n (catS u i wd) = (i * 64 + Lib.ctz 64 u) :: bitsL n (catS (u &&& (u - 1)) i wd) ∧ Lib.ctz 64 u < 64 ∧ i * 64 + Lib.ctz 64 u < n ∧ u &&& (u - 1) < u ∧ catS (u &&& (u - 1)) i wd < 2 ^ n := by
  have h64 : u < 2 ^ 64 := by have : (2 : Nat) ^ 64 = 18446744073709551616 := by decide
                              omega
  obtain ⟨h1, h2, h3⟩ := lowbit h0 h64
  obtain ⟨c, hc⟩ : ∃ c, Lib.ctz 64 u = c := ⟨_, rfl⟩
  rw [hc] at h1 h2 h3 ⊢
  have hc64 : c < 64 := by
    rcases Nat.lt_or_ge c 64 with a | a
    · exact a
    · rw [Nat.testBit_lt_two_pow (Nat.lt_of_lt_of_le h64 (Nat.pow_le_pow_right (by decide) a))] at h1; cases h1
  have hb : (catS u i wd).testBit (i * 64 + c) = true := by
    rw [catS_bit, show i * 64 + c - 64 * i = c from by omega, h1]
    have : decide (64 * i ≤ i * 64 + c) = true := by simp; omega
    rw [this]; rfl
  have hcn : i * 64 + c < n := by
    rcases Nat.lt_or_ge (i * 64 + c) n with a | a
    · exact a
    · rw [Nat.testBit_lt_two_pow (Nat.lt_of_lt_of_le hn (Nat.pow_le_pow_right (by decide) a))] at hb; cases hb
  have key : ∀ j, (catS (u &&& (u - 1)) i wd).testBit j = ((catS u i wd).testBit j && decide (j ≠ i * 64 + c)) := by
    intro j
    rw [catS_bit, catS_bit, h3]
    by_cases e1 : 64 * i ≤ j
    · by_cases e2 : 64 * (i + 1) ≤ j
      · have a1 : decide (j ≠ i * 64 + c) = true := by simp; omega
        have a2 : decide (j - 64 * i ≠ c) = true := by simp; omega
        rw [a1, a2]; simp
      · have a1 : decide (j - 64 * i ≠ c) = decide (j ≠ i * 64 + c) := by rw [decide_eq_decide]; omega
        have a2 : decide (64 * (i + 1) ≤ j) = false := by simp; omega
        rw [a1, a2]; simp [Bool.and_assoc]
    · have a1 : decide (64 * i ≤ j) = false := by simp; omega
      have a2 : decide (64 * (i + 1) ≤ j) = false := by simp; omega
      rw [a1, a2]; simp
  refine ⟨filter_least hcn hb (fun j hj => ?_) (fun j _ => key j), hc64, hcn, ?_, ?_⟩
  · rw [catS_bit]
    have a2 : decide (64 * (i + 1) ≤ j) = false := by simp; omega
    rw [a2, Bool.false_and, Bool.or_false]
    by_cases e1 : 64 * i ≤ j
    · rw [h2 (j - 64 * i) (by omega)]; simp
    · have a1 : decide (64 * i ≤ j) = false := by simp; omega
      rw [a1]; rfl
  · have h4 := Nat.and_le_right (n := u) (m := u - 1)
    omega
  · apply Nat.lt_pow_two_of_testBit
    intro j hj
    rw [key, Nat.testBit_lt_two_pow (Nat.lt_of_lt_of_le hn (Nat.pow_le_pow_right (by decide) hj))]
    rfl
theorem hiS_lt {n i wd : Nat} (h : wd < 2 ^ n) : hiS i wd < 2 ^ n := by
  apply Nat.lt_pow_two_of_testBit
  intro j hj
  rw [hiS_bit, Nat.testBit_lt_two_pow (Nat.lt_of_lt_of_le h (Nat.pow_le_pow_right (by decide) hj))]
  simp

/-! Sets of at most 4096 numbers, a word for each 64: newSet, add, remove; the number of a word's trailing zeros. -/
open Go.RowKit
set_option linter.unusedVariables false

/-- w' is w with one cell written, and draws -/
structure Wr (w w' : World) (g i : Nat) (x : Value) : Prop where
  os : w'.os = w.os
  tape : w'.tape = w.tape
  output : w'.output = w.output
  heap : w'.heap = (w.setCell ⟨g, i, none⟩ x).heap
theorem Wr.size {w w' : World} {g i : Nat} {x : Value} (h : Wr w w' g i x) : w'.heap.size = w.heap.size := by rw [h.heap]; simp [World.setCell]
theorem Wr.block {w w' : World} {g i k : Nat} {x : Value} (h : Wr w w' g i x) (hk : k ≠ g) : w'.heap[k]? = w.heap[k]? := by rw [h.heap]; exact Below.heap_setCell _ _ _ _ hk
theorem Wr.below {a w w' : World} {base g i : Nat} {x : Value} (h : Wr w w' g i x) (ha : Below base a w) (hg : base ≤ g) : Below base a w' := by
  have := ha.setCell (p := ⟨g, i, none⟩) hg x
  exact ⟨h.os.trans ha.os, h.tape.trans ha.tape, h.output.trans ha.output, by rw [h.size]; exact ha.size, fun k hk => by rw [h.heap]; exact this.block k hk⟩
theorem Wr.blk {w w' : World} {g i : Nat} {x : Value} {cs : Array Value} {t : TypeId} (h : Wr w w' g i x) (hc : w.heap[g]? = some (.cells cs t (0, 0))) : w'.heap[g]? = some (.cells (cs.setIfInBounds i x) t (0, 0)) := by
  rw [h.heap]; exact blk_set hc i x
theorem Wr.keep1 {w w' : World} {g i base : Nat} {x v : Value} {e : TypeId} {us : List Value} (h : Wr w w' g i x) (ho : Own1 w base e v us) (hne : v.ownBlock ≠ some g) : Own1 w' base e v us :=
  ho.keep fun b hb => h.block fun e => hne (by rw [hb, e])

/-- the words of a set of numbers below n -/
def wordsS (n wd : Nat) : List Value := (List.range ((n + 63) / 64)).map fun i => .int .u64 ((wdN wd i : Nat) : Int)
theorem wordsS_get {n wd i : Nat} (hi : i < (n + 63) / 64) : (wordsS n wd)[i]? = some (.int .u64 ((wdN wd i : Nat) : Int)) := by
  unfold wordsS
  rw [List.getElem?_map, List.getElem?_range hi]; rfl
theorem wordsS_zero (n : Nat) : wordsS n 0 = List.replicate ((n + 63) / 64) (.int .u64 0) := by
  unfold wordsS
  apply List.ext_getElem
  · simp
  · intro i h1 h2
    simp [wdN_zero]
theorem wordsS_set {n wd wd2 i y : Nat} (h : ∀ j, wdN wd2 j = if j = i then y else wdN wd j) : (wordsS n wd).set i (.int .u64 (y : Int)) = wordsS n wd2 := by
  unfold wordsS
  apply List.ext_getElem
  · simp
  · intro j h1 h2
    simp only [List.length_map, List.length_range] at h2
    rw [List.getElem_set]
    simp only [List.getElem_map, List.getElem_range]
    rw [h j]
    by_cases e : i = j
    · subst e; simp
    · rw [if_neg e, if_neg (fun e2 => e e2.symm)]
structure Word (w : World) (g n wd : Nat) : Prop where
  blk : w.heap[g]? = some (.cells (wordsS n wd).toArray 112 (0, 0))
theorem Word.cell {w : World} {g n wd : Nat} (h : Word w g n wd) {i : Nat} (hi : i < (n + 63) / 64) : w.cell? ⟨g, i, none⟩ = some (.int .u64 ((wdN wd i : Nat) : Int)) := by
  rw [blk_cell h.blk i, List.getElem?_toArray]; exact wordsS_get hi
theorem Word.frozen {w : World} {g n wd : Nat} (h : Word w g n wd) (i : Nat) : w.frozen? ⟨g, i, none⟩ = false := blk_frozen h.blk i
theorem Word.keep {w w' : World} {g n wd : Nat} (h : Word w g n wd) (hk : w'.heap[g]? = w.heap[g]?) : Word w' g n wd := ⟨by rw [hk]; exact h.blk⟩
theorem Word.lt {w : World} {g n wd : Nat} (h : Word w g n wd) : g < w.heap.size := blk_lt h.blk
theorem Wr.word {w w' : World} {g n wd wd2 i y : Nat} (h : Wr w w' g i (.int .u64 (y : Int))) (hw : Word w g n wd) (hx : ∀ j, wdN wd2 j = if j = i then y else wdN wd j) : Word w' g n wd2 := ⟨by
  rw [h.blk hw.blk, List.setIfInBounds_toArray, wordsS_set hx]⟩

/-- a set of numbers below n -/
structure SetAt (w : World) (base n : Nat) (v : Value) (wd : Nat) : Prop where
  ex : ∃ g, v = .slice (some ⟨g, 0, none⟩) ((n + 63) / 64) ((n + 63) / 64) ∧ base ≤ g ∧ Word w g n wd
  lt : wd < 2 ^ n
theorem SetAt.keep {w w' : World} {base n wd : Nat} {v : Value} (h : SetAt w base n v wd) (hk : ∀ b, v.ownBlock = some b → b < w.heap.size → w'.heap[b]? = w.heap[b]?) : SetAt w' base n v wd := by
  obtain ⟨⟨g, e, hb, hw⟩, hl⟩ := h
  exact ⟨⟨g, e, hb, hw.keep (hk g (by rw [e]; rfl) hw.lt)⟩, hl⟩
theorem SetAt.below {w w' : World} {base n wd : Nat} {v : Value} (h : SetAt w base n v wd) (hb : Below w.heap.size w w') : SetAt w' base n v wd := h.keep fun b _ hlt => hb.block b hlt
theorem SetAt.open_ {w : World} {base n wd g m : Nat} (h : SetAt w base n (.slice (some ⟨g, 0, none⟩) m m) wd) : m = (n + 63) / 64 ∧ base ≤ g ∧ Word w g n wd := by
  obtain ⟨⟨g', e, hb, hw⟩, _⟩ := h
  injection e with e e1 e2
  injection e with e
  injection e with e
  subst e
  exact ⟨e1, hb, hw⟩

def Quiet (w w' : World) : Prop := w'.os = w.os ∧ w'.tape = w.tape ∧ w'.output = w.output ∧ w'.heap = w.heap
theorem Quiet.below {w w' : World} (h : Quiet w w') : Below w.heap.size w w' := ⟨h.1, h.2.1, h.2.2.1, by rw [h.2.2.2]; exact Nat.le_refl _, fun k _ => by rw [h.2.2.2]⟩
theorem Quiet.drew (w : World) (n : Nat) : Quiet w (w.drewN n) := ⟨rfl, rfl, rfl, rfl⟩

theorem pow_bd {u : Nat} (hu : u < 64) : 2 ^ u ≤ 9223372036854775808 := Nat.pow_le_pow_right (n := 2) (by decide) (show u ≤ 63 by omega)
theorem shl_lit (u : Nat) (hu : u < 64) : IntKind.u64.wrap ((2 : Int) ^ u) = ((2 ^ u : Nat) : Int) := by
  rw [IntKind.wrap_u64]
  have h := pow_bd hu
  have e : (2 : Int) ^ u = ((2 ^ u : Nat) : Int) := by simp
  rw [e]
  generalize 2 ^ u = p at h ⊢
  omega

/-- a set in block g has become wd2; one cell of it was written -/
def RetWr (w : World) (g n wd2 : Nat) (e : Ending) (w' : World) : Prop := (∃ v, e = .returned v) ∧ Word w' g n wd2 ∧ ∃ i x, Wr w w' g i x
theorem retWr {w w' : World} {g n wd wd2 i y : Nat} {v : Value} (h : Wr w w' g i (.int .u64 (y : Int))) (hw : Word w g n wd) (hx : ∀ j, wdN wd2 j = if j = i then y else wdN wd j) : RetWr w g n wd2 (.returned v) w' := ⟨⟨_, rfl⟩, h.word hw hx, _, _, h⟩
/-! A word's trailing zeros; the numbers of a set, one by one: what it asks of a round, what it gives. -/
open Go.RowKit Go.Shelf
set_option linter.unusedVariables false
attribute [local go_sem] Oper.semAt_some

theorem wide_call {P : Program} {n : Nat} {f : FuncId} {args : Array Value} {w : World} {R R' : Ending → World → Prop} (h : Calls P f args w R) (hm : ∀ e w', R e w' → R' e w') :
    Fence.wide.fn f ∧ (Fence.wide.depth.isSome = true → 1 ≤ n) ∧ CallsIn Fence.wide (n - 1) P f args w R' := ⟨trivial, (fun h => by cases h), (callsIn_wide.2 h).mono hm⟩
theorem wide_call_in {P : Program} {n l : Nat} {f : FuncId} {args : Array Value} {w : World} {R R' : Ending → World → Prop} (h : Calls P f args w R) (hm : ∀ e w', R e w' → R' e w') :
    (Fence.wide.inRound l).fn f ∧ ((Fence.wide.inRound l).depth.isSome = true → 1 ≤ n) ∧ CallsIn (Fence.wide.inRound l) (n - 1) P f args w R' := ⟨trivial, (fun h => by cases h), CallsIn.inRound l ((callsIn_wide.2 h).mono hm)⟩

/-- one round more of the numbers of a word -/
def Rounds (n : Nat) (l : Nat) (wd : Nat) (N : Nat) (J Jx : List Nat → World → Prop) : Prop :=
  ∀ (pre : List Nat) (x : Nat) (W : World), J pre W → (∃ post, bitsL N wd = pre ++ x :: post) → YieldAt Fence.wide n Try.prog l #[.int .i64 (x : Int)] W fun e W' =>
    (e = .returned (.bool true) ∧ J (pre ++ [x]) W') ∨ (e = .returned (.bool false) ∧ Jx (pre ++ [x]) W')

end Go.Proofs.Ytapojmniokdjfaa.Dag

