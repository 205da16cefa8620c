/- Slices in memory: what they hold; rows that the call made; rows of such rows; append onto these. -/
import Derived.Test.YtaokbjacfdipmaaDoorDagPure
import Derived.Test.YtaokbjacfdipmaaDoorProg
import Derived.WalkKit
import Derived.ProofKit
import Derived.Lib.Hide
import Derived.OpenShut
import Derived.Laws.AppendOwn
import Derived.Laws.AppendOwnNone
import Derived.Laws.OwnMore
import Derived.Laws.MakeOwn
import Derived.Maps.AppendAt
import Derived.OwnWalk
namespace Go.Proofs.YtaokbjacfdipmaaDoor
open Go.RowKit
set_option linter.unusedVariables false

theorem blw {w w1 w2 : World} (h : Below w.heap.size w w1) (k : Below w1.heap.size w1 w2) : Below w.heap.size w w2 := h.trans (k.mono h.size)
theorem blk_lt {w : World} {g : Nat} {o : Obj} (h : w.heap[g]? = some o) : g < w.heap.size := (Array.getElem?_eq_some_iff.1 h).1
theorem blk_cell {w : World} {g : Nat} {cs : Array Value} {t : TypeId} (h : w.heap[g]? = some (.cells cs t (0, 0))) (i : Nat) : w.cell? ⟨g, i, none⟩ = cs[i]? := cell_of_row w g i cs t (0, 0) h
theorem blk_frozen {w : World} {g : Nat} {cs : Array Value} {t : TypeId} (h : w.heap[g]? = some (.cells cs t (0, 0))) (i : Nat) : w.frozen? ⟨g, i, none⟩ = false := by simp [World.frozen?, h]
theorem blk_set {w : World} {g : Nat} {cs : Array Value} {t : TypeId} (h : w.heap[g]? = some (.cells cs t (0, 0))) (i : Nat) (u : Value) : (w.setCell ⟨g, i, none⟩ u).heap[g]? = some (.cells (cs.setIfInBounds i u) t (0, 0)) := by
  simp [World.setCell, Array.getElem?_modify, h]
theorem blk_other {w : World} {g b i : Nat} {u : Value} (h : g ≠ b) : (w.setCell ⟨b, i, none⟩ u).heap[g]? = w.heap[g]? := Below.heap_setCell _ _ _ _ h

/-- '.slice A us.length c' holds the values us, one cell each -/
structure Sl (w : World) (A : Option Addr) (c : Nat) (us : List Value) : Prop where
  cells : ∀ k u, us[k]? = some u → ∃ b off, A = some ⟨b, off, none⟩ ∧ w.cell? ⟨b, off + k, none⟩ = some u
  cap : us.length ≤ c
  top : c ≤ maxLen
  nil : A = none → c = 0
section
variable {w w' : World} {A : Option Addr} {c : Nat} {us : List Value}
theorem Sl.empty (w : World) : Sl w none 0 [] := ⟨fun k x h => by simp at h, Nat.le_refl _, Nat.zero_le _, fun _ => rfl⟩
theorem Sl.below (h : Sl w A c us) (hb : Below w.heap.size w w') : Sl w' A c us := by
  refine ⟨fun k x hx => ?_, h.cap, h.top, h.nil⟩
  obtain ⟨b, off, e, hc⟩ := h.cells k x hx
  exact ⟨b, off, e, (hb.cell (p := ⟨b, off + k, none⟩) (World.block_lt_of_cell? w _ hc)).trans hc⟩
theorem Sl.at_ (h : Sl w A c us) {k : Nat} (hk : k < us.length) : ∃ b off u, A = some ⟨b, off, none⟩ ∧ us[k]? = some u ∧ w.cell? ⟨b, off + k, none⟩ = some u := by
  have hx : us[k]? = some us[k] := List.getElem?_eq_getElem hk
  obtain ⟨b, off, e, hc⟩ := h.cells k _ hx
  exact ⟨b, off, _, e, hx, hc⟩
end
theorem Sl.nilAny (w : World) (A : Option Addr) (c : Nat) (hc : c ≤ maxLen) (hn : A = none → c = 0) : Sl w A c [] := ⟨fun k x h => by simp at h, Nat.zero_le _, hc, hn⟩

def ints (xs : List Int) : List Value := xs.map (Value.int .i64)
theorem ints_len (xs : List Int) : (ints xs).length = xs.length := by simp [ints]
theorem ints_app (a b : List Int) : ints (a ++ b) = ints a ++ ints b := by simp [ints]
theorem ints_get {xs : List Int} {k : Nat} {x : Int} (h : xs[k]? = some x) : (ints xs)[k]? = some (.int .i64 x) := by simp [ints, h]
theorem ints_get' {xs : List Int} {k : Nat} {u : Value} (h : (ints xs)[k]? = some u) : ∃ x, xs[k]? = some x ∧ u = .int .i64 x := by
  unfold ints at h
  rw [List.getElem?_map] at h
  cases hx : xs[k]? with
  | none => rw [hx] at h; cases h
  | some x => rw [hx] at h; injection h with h; exact ⟨x, rfl, h.symm⟩
theorem ints_one (xs : List Int) : ∀ u ∈ ints xs, u.oneCell' = true := by
  intro u hu
  obtain ⟨y, _, rfl⟩ := List.mem_map.1 hu
  rfl
def Ints (w : World) (A : Option Addr) (c : Nat) (xs : List Int) : Prop := Sl w A c (ints xs)
section
variable {w w' : World} {A : Option Addr} {c : Nat} {xs : List Int}
theorem Ints.empty (w : World) : Ints w none 0 [] := Sl.empty w
theorem Ints.below (h : Ints w A c xs) (hb : Below w.heap.size w w') : Ints w' A c xs := Sl.below h hb
theorem Ints.len (h : Ints w A c xs) : xs.length ≤ c := by have := Sl.cap h; rwa [ints_len] at this
theorem Ints.at_ (h : Ints w A c xs) {k : Nat} (hk : k < xs.length) : ∃ b off x, A = some ⟨b, off, none⟩ ∧ xs[k]? = some x ∧ w.cell? ⟨b, off + k, none⟩ = some (.int .i64 x) := by
  obtain ⟨b, off, u, e, hu, hc⟩ := Sl.at_ h (k := k) (by rw [ints_len]; exact hk)
  obtain ⟨x, hx, rfl⟩ := ints_get' hu
  exact ⟨b, off, x, e, hx, hc⟩
end

/-- '.slice A ls.length c' holds slices that hold the lists ls -/
structure IRows (w : World) (A : Option Addr) (c : Nat) (ls : List (List Int)) : Prop where
  cells : ∀ k xs, ls[k]? = some xs → ∃ b off A' c', A = some ⟨b, off, none⟩ ∧ w.cell? ⟨b, off + k, none⟩ = some (.slice A' xs.length c') ∧ Ints w A' c' xs
  cap : ls.length ≤ c
  top : c ≤ maxLen
  nil : A = none → c = 0
section
variable {w w' : World} {A : Option Addr} {c : Nat} {ls : List (List Int)}
theorem IRows.empty (w : World) : IRows w none 0 [] := ⟨fun k x h => by simp at h, Nat.le_refl _, Nat.zero_le _, fun _ => rfl⟩
theorem IRows.below (h : IRows w A c ls) (hb : Below w.heap.size w w') : IRows w' A c ls := by
  refine ⟨fun k x hx => ?_, h.cap, h.top, h.nil⟩
  obtain ⟨b, off, A', c', e, hc, hi⟩ := h.cells k x hx
  exact ⟨b, off, A', c', e, (hb.cell (p := ⟨b, off + k, none⟩) (World.block_lt_of_cell? w _ hc)).trans hc, hi.below hb⟩
theorem IRows.at_ (h : IRows w A c ls) {k : Nat} (hk : k < ls.length) :
    ∃ b off A' c' xs, A = some ⟨b, off, none⟩ ∧ ls[k]? = some xs ∧ w.cell? ⟨b, off + k, none⟩ = some (.slice A' xs.length c') ∧ Ints w A' c' xs := by
  have hx : ls[k]? = some ls[k] := List.getElem?_eq_getElem hk
  obtain ⟨b, off, A', c', e, hc, hi⟩ := h.cells k _ hx
  exact ⟨b, off, A', c', _, e, hx, hc, hi⟩
end

/-! rows that the call made -/
abbrev Own1 (w : World) (base : Nat) (e : TypeId) (v : Value) (us : List Value) : Prop := w.ownsRow base e 1 v us.length us
theorem own_len {w : World} {base : Nat} {e : TypeId} {v : Value} {n : Nat} {us : List Value} (h : w.ownsRow base e 1 v n us) : us.length = n := by have := h.1; omega
section
variable {w w' : World} {base : Nat} {e : TypeId} {v : Value} {us : List Value}
theorem Own1.nil (w : World) (base : Nat) (e : TypeId) : Own1 w base e (.slice none 0 0) [] := World.ownsRow_nil w base e 1
theorem Own1.keep (h : Own1 w base e v us) (hk : ∀ b, v.ownBlock = some b → w'.heap[b]? = w.heap[b]?) : Own1 w' base e v us := by
  refine ⟨h.1, ?_⟩
  rcases h.2 with h0 | ⟨g, cap, cur, hv, hbg, hh, rest⟩
  · exact Or.inl h0
  · exact Or.inr ⟨g, cap, cur, hv, hbg, by rw [hk g (by rw [hv]; rfl)]; exact hh, rest⟩
theorem Own1.lt (h : Own1 w base e v us) {b : Nat} (hb : v.ownBlock = some b) : base ≤ b ∧ b < w.heap.size := World.ownsRow.lt h b hb
theorem Own1.below (h : Own1 w base e v us) (hb : Below w.heap.size w w') : Own1 w' base e v us := h.keep fun b e => hb.block b (h.lt e).2
theorem Own1.rebase (h : Own1 w base e v us) {base' : Nat} (hb : base' ≤ base) : Own1 w base' e v us := by
  refine ⟨h.1, ?_⟩
  rcases h.2 with h0 | ⟨g, cap, cur, hv, hbg, rest⟩
  · exact Or.inl h0
  · exact Or.inr ⟨g, cap, cur, hv, Nat.le_trans hb hbg, rest⟩
/-- its block bears its type -/
theorem Own1.typed (h : Own1 w base e v us) {b : Nat} (hb : v.ownBlock = some b) : ∃ cs, w.heap[b]? = some (.cells cs e (0, 0)) := by
  rcases h.2 with ⟨hv, _⟩ | ⟨g, cap, cur, hv, _, hh, _⟩
  · rw [hv] at hb; cases hb
  · rw [hv] at hb; injection hb with hb; subst hb; exact ⟨_, hh⟩
theorem Own1.slice (h : Own1 w base e v us) : ∃ A c, v = .slice A us.length c ∧ Sl w A c us ∧ (A = none ∨ ∃ g, A = some ⟨g, 0, none⟩) := by
  rcases h.2 with ⟨hv, hn⟩ | ⟨g, cap, cur, hv, hbg, hh, hnc, hcm, hcs, htake⟩
  · have hx : us = [] := List.eq_nil_of_length_eq_zero hn
    subst hx
    exact ⟨none, 0, hv, Sl.empty _, Or.inl rfl⟩
  · refine ⟨_, cap, hv, ⟨fun k u hu => ?_, hnc, hcm, fun e => by cases e⟩, Or.inr ⟨g, rfl⟩⟩
    refine ⟨g, 0, rfl, ?_⟩
    rw [Nat.zero_add, cell_of_row w g k cur _ (0, 0) hh]
    have hk : k < us.length := (List.getElem?_eq_some_iff.1 hu).1
    have e' : (cur.toList.take (us.length * 1))[k]? = some u := by rw [htake]; exact hu
    rw [List.getElem?_take, if_pos (by omega)] at e'
    rw [← e', Array.getElem?_toList]
theorem Own1.sl {A : Option Addr} {n c : Nat} (h : Own1 w base e (.slice A n c) us) : n = us.length ∧ Sl w A c us := by
  obtain ⟨A', c', e1, h1, _⟩ := h.slice
  injection e1 with a b c
  subst a b c
  exact ⟨rfl, h1⟩
/-- one cell of it -/
theorem Own1.at_ {A : Option Addr} {n c k : Nat} {u : Value} (h : Own1 w base e (.slice A n c) us) (hk : us[k]? = some u) :
    ∃ g, A = some ⟨g, 0, none⟩ ∧ base ≤ g ∧ g < w.heap.size ∧ w.cell? ⟨g, k, none⟩ = some u ∧ w.frozen? ⟨g, k, none⟩ = false ∧ (∃ cs, w.heap[g]? = some (.cells cs e (0, 0))) ∧
      (∀ x, Own1 (w.setCell ⟨g, k, none⟩ x) base e (.slice A n c) (us.set k x)) := by
  have hh := h
  obtain ⟨hn, hs⟩ := h.sl
  obtain ⟨b, off, e1, hc⟩ := hs.cells k u hk
  rcases h.2 with ⟨hv, h0⟩ | ⟨g, cap, cur, hv, hbg, hg, _⟩
  · rw [List.eq_nil_of_length_eq_zero h0] at hk; simp at hk
  · injection hv with a1 a2 a3
    subst a1 a2 a3
    injection e1 with e1
    injection e1 with e1 e2
    subst e1 e2
    rw [Nat.zero_add] at hc
    refine ⟨_, rfl, hbg, blk_lt hg, hc, blk_frozen hg k, ⟨_, hg⟩, fun x => ?_⟩
    have := (World.ownsRow.stored hh k x).1
    unfold Own1
    rw [List.length_set]
    exact this
end
theorem Own1.lit (w : World) (base : Nat) (e : TypeId) (hb : base ≤ w.heap.size) (us : List Value) (hl : us.length ≤ maxLen) :
    Own1 (w.alloc (.cells us.toArray e)) base e (.slice (some ⟨w.heap.size, 0, none⟩) us.length us.length) us := by
  have := World.ownsRow_lit (base := base) (e := e) (size := 1) w us.toArray us.length hb hl (by simp)
  simpa using this
theorem Own1.litm (w : World) (base : Nat) (e : TypeId) (hb : base ≤ w.heap.size) (us : List Value) {n g : Nat} (hn : us.length = n) (hg : w.heap.size = g) (hl : n ≤ maxLen) :
    Own1 (w.alloc (.cells us.toArray e)) base e (.slice (some ⟨g, 0, none⟩) n n) us := by
  subst hn hg; exact Own1.lit w base e hb us hl

abbrev OwnI (w : World) (base : Nat) (v : Value) (xs : List Int) : Prop := Own1 w base 3 v (ints xs)
theorem OwnI.ints {w : World} {base : Nat} {v : Value} {xs : List Int} (h : OwnI w base v xs) : ∃ A c, v = .slice A xs.length c ∧ Ints w A c xs := by
  obtain ⟨A, c, e, hs, _⟩ := Own1.slice h
  rw [ints_len] at e
  exact ⟨A, c, e, hs⟩
theorem OwnI.ints' {w : World} {base n c : Nat} {A : Option Addr} {xs : List Int} (h : OwnI w base (.slice A n c) xs) : n = xs.length ∧ Ints w A c xs := by
  obtain ⟨A', c', e1, h1⟩ := h.ints
  injection e1 with a b c
  subst a b c
  exact ⟨rfl, h1⟩

theorem info_int : (Tryd.prog.info? 3).map (fun i => (i.zero, i.size, i.bytes)) = some (some (.int .i64 0), 1, 8) := by kernel_rfl
theorem info_bool : (Tryd.prog.info? 4).map (fun i => (i.zero, i.size, i.bytes)) = some (some (.bool false), 1, 1) := by kernel_rfl
theorem info_u64 : (Tryd.prog.info? 62).map (fun i => (i.zero, i.size, i.bytes)) = some (some (.int .u64 0), 1, 8) := by kernel_rfl
theorem info_is : (Tryd.prog.info? 30).map (fun i => (i.zero, i.size, i.bytes)) = some (some (.slice none 0 0), 1, 24) := by kernel_rfl
theorem info_bs : (Tryd.prog.info? 45).map (fun i => (i.zero, i.size, i.bytes)) = some (some (.slice none 0 0), 1, 24) := by kernel_rfl
theorem info_set : (Tryd.prog.info? 58).map (fun i => (i.zero, i.size, i.bytes)) = some (some (.slice none 0 0), 1, 24) := by kernel_rfl

/-- append onto a row of the call's own; the source may be nil, empty, or neither -/
theorem wpList_appg {w : World} {ops : Array Oper} {rest : List Oper} {o : Oper} {a : Act} {Q : Exit → Act → World → Prop} (hgd : o.guard = none) (s x : Operand) (t e : TypeId) (z : Value) (bytes : Nat)
    (hu : Tryd.prog.underlying t = some (.slice e)) (hinfo : (Tryd.prog.info? e).map (fun i => (i.zero, i.size, i.bytes)) = some (some z, 1, bytes)) (hz : z.cells.size = 1) (hby : bytes ≤ 24)
    (ho : o.op = .call { callee := .builtin .append, args := #[s, x], argTypes := #[t, t] })
    (base : Nat) (v : Value) (us : List Value) (hs : a.eval s = v) (hown : Own1 w base e v us) (A : Option Addr) (c m : Nat) (zs : List Value) (hm : zs.length = m) (hx : a.eval x = .slice A m c)
    (hr : Sl w A c zs) (hone : ∀ u ∈ zs, u.oneCell' = true) (hlen : us.length + zs.length ≤ 100000000) (hbase : base ≤ w.heap.size)
    (h : ∀ (l : List Value) (A' : Option Addr) (c' : Nat) (w' : World), l = us ++ zs → Own1 w' base e (.slice A' l.length c') l → w.grownBy w' v.ownBlock → ((Value.slice A' l.length c').ownBlock = v.ownBlock ∨ (Value.slice A' l.length c').ownBlock = some w.heap.size) → Below base w w' →
      wpList Tryd.prog ops Q rest (a.put o.dst (.slice A' l.length c')) w') :
    wpList Tryd.prog ops Q (o :: rest) a w := by
  subst hm
  obtain ⟨i0, hi0, hz0, hz1, hz2⟩ := info_parts hinfo
  have fin : ∀ (v' : Value) (w' : World), w'.ownsRow base e 1 v' (us.length + zs.length) (us ++ zs) → w.grownBy w' v.ownBlock → (v'.ownBlock = v.ownBlock ∨ v'.ownBlock = some w.heap.size) →
      wpList Tryd.prog ops Q rest (a.put o.dst v') w' := by
    intro v' w' hown' hg hb
    have ho' : Own1 w' base e v' (us ++ zs) := by unfold Own1; rw [List.length_append]; exact hown'
    obtain ⟨A', c', hv', _⟩ := ho'.slice
    subst hv'
    exact h _ A' c' w' rfl ho' hg hb ((Below.refl _ _).grown hg hbase fun k hk => (Own1.lt hown hk).1)
  rcases A with _ | ad
  · have hc0 := hr.nil rfl
    have hz' : zs = [] := List.eq_nil_of_length_eq_zero (by have := hr.cap; omega)
    subst hz'
    subst hc0
    refine wpList_append_own_none hgd s x _ ho base _ i0 1 hu hi0 v us.length _ hs hown hx ?_
    exact fin v w (by simpa using hown) (World.grownBy.refl _ _) (Or.inl rfl)
  · refine wpList_append_own_at w hgd s x _ ho base _ i0 z 1 bytes hu hi0 hz0 hz1 hz2 hz (by decide) v us.length _ hs hown ad zs.length c zs hx (by simp) ?_ hone (by simp only [maxLen]; omega) ?_ hbase ?_
    · intro j u hu'
      obtain ⟨b, off, e, hc⟩ := hr.cells j u hu'
      injection e with e
      subst e
      rw [Go.WideShapes.add_plain, hc]
    · have : (us.length + zs.length) * bytes ≤ 100000000 * 24 := Nat.mul_le_mul hlen hby
      omega
    · intro v' w' hown' hg _ hb
      exact fin v' w' hown' hg hb

theorem made_one (z : Value) (hz : z.cells = #[z]) (n : Nat) : madeCells z.cells n = Array.replicate n z := by
  apply Array.ext
  · simp [madeCells, hz]
  · intro i h1 h2
    simp [madeCells, hz, Nat.mod_one]
/-- make of n elements -/
theorem run_mk (W : World) (t e : TypeId) (z : Value) (bytes : Nat) (hu : Tryd.prog.underlying t = some (.slice e)) (hinfo : (Tryd.prog.info? e).map (fun i => (i.zero, i.size, i.bytes)) = some (some z, 1, bytes)) (hz : z.cells = #[z]) (hby : bytes ≤ 24)
    (n : Nat) (hn : n ≤ 1000000) (x y : Int) (hx : x = (n : Int)) (hy : y = (n : Int)) :
    (Instr.makeSlice t (.int .i64 x) (.int .i64 y)).run Tryd.prog W = .ok (.slice (some ⟨W.heap.size, 0, none⟩) n n) (W.alloc (.cells (Array.replicate n z) e)) := by
  subst hx hy
  obtain ⟨i0, hi0, hz0, hz1, hz2⟩ := info_parts hinfo
  have hb : n * bytes ≤ 1000000 * 24 := Nat.mul_le_mul hn hby
  have hb2 : (i0.bytes : Int) * (n : Int) ≤ 281474976710656 := by
    rw [hz2, Int.mul_comm, ← Int.natCast_mul]
    omega
  have h := run_makeSlice (P := Tryd.prog) W t e i0 z hu hi0 hz0 .i64 .i64 (n : Int) (n : Int) (by omega) (by omega) (by rw [hz1]; omega) hb2 (by omega)
  rw [h, hz1, Int.toNat_natCast, Nat.mul_one, made_one z hz]
theorem Own1.make (w : World) (base : Nat) (e : TypeId) (hb : base ≤ w.heap.size) (n : Nat) (hn : n ≤ 1000000) (z : Value) {g : Nat} (hg : w.heap.size = g) :
    Own1 (w.alloc (.cells (Array.replicate n z) e)) base e (.slice (some ⟨g, 0, none⟩) n n) (List.replicate n z) := by
  have := Own1.litm w base e hb (List.replicate n z) (n := n) (by simp) hg (by simp only [maxLen]; omega)
  simpa using this
/-- a literal of one element, where it lies -/
theorem Sl.one {w : World} {e : TypeId} {u : Value} {g : Nat} (hg : w.heap.size = g) : Sl (w.alloc (.cells #[u] e)) (some ⟨g, 0, none⟩) 1 [u] := by
  subst hg
  refine ⟨fun k x hx => ?_, Nat.le_refl _, by simp [maxLen], fun e => by cases e⟩
  match k, hx with
  | 0, hx =>
    simp at hx; subst hx
    exact ⟨_, 0, rfl, (cell_of_row _ _ _ _ _ (0, 0) (heap_alloc_new w _)).trans rfl⟩
  | k + 1, hx => simp at hx

end Go.Proofs.YtaokbjacfdipmaaDoor
