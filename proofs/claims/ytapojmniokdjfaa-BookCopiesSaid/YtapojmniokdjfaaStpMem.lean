/- Layer 9: steps in memory; append onto steps of one's own. -/
import Derived.Test.YtapojmniokdjfaaStpPure
import Derived.Test.YtapojmniokdjfaaRnkSeq
import Derived.OrdersHeld
import Derived.StillTail
import Derived.Deep.RegionHeld
import Derived.Deep.RegionHeld3
import Derived.Shelf.RegionOpen
namespace Go.Proofs.Ytapojmniokdjfaa.Stp
open Go.RowKit Go.Shelf
set_option linter.unusedVariables false
set_option maxRecDepth 100000

theorem blw {w w1 w2 : World} (h : Below w.heap.size w w1) (k : Below w1.heap.size w1 w2) : Below w.heap.size w w2 := h.trans (k.mono h.size)
theorem al (w : World) (o : Obj) : Below w.heap.size w (w.alloc o) := (Below.refl _ _).alloc (Nat.le_refl _) _
theorem dr (w : World) : Below w.heap.size w w.drew := ⟨rfl, rfl, rfl, Nat.le_refl _, fun _ _ => rfl⟩
theorem drN (w : World) (n : Nat) : Below w.heap.size w (w.drewN n) := ⟨rfl, rfl, rfl, Nat.le_refl _, fun _ _ => rfl⟩
theorem kp {w w' : World} {b o : Nat} {v : Value} (hb : Below w.heap.size w w') (h : w.cell? ⟨b, o, none⟩ = some v) : w'.cell? ⟨b, o, none⟩ = some v := (hb.cell (p := ⟨b, o, none⟩) (World.block_lt_of_cell? w _ h)).trans h

theorem new2 (w : World) (x y : Value) (t : TypeId) : (w.alloc (.cells #[x, y] t)).cell? ⟨w.heap.size, 0, none⟩ = some x ∧ (w.alloc (.cells #[x, y] t)).cell? ⟨w.heap.size, 1, none⟩ = some y := ⟨(Dag.blk_cell (heap_alloc_new w (.cells #[x, y] t)) 0).trans rfl, (Dag.blk_cell (heap_alloc_new w (.cells #[x, y] t)) 1).trans rfl⟩

def flat : List StepD → List Value
  | [] => []
  | s :: l => .int .i64 s.at_ :: .int .i64 s.fr :: flat l
theorem flat_len : ∀ l : List StepD, (flat l).length = l.length * 2
  | [] => rfl
  | s :: l => by simp only [flat, List.length_cons, flat_len l]; omega
theorem flat_app : ∀ (l : List StepD) (s : StepD), flat (l ++ [s]) = flat l ++ [.int .i64 s.at_, .int .i64 s.fr]
  | [], s => rfl
  | a :: l, s => by simp only [List.cons_append, flat, flat_app l s]
theorem flat_0 : ∀ {l : List StepD} {k : Nat} {s : StepD}, l[k]? = some s → (flat l)[k * 2]? = some (.int .i64 s.at_) ∧ (flat l)[k * 2 + 1]? = some (.int .i64 s.fr)
  | [], k, s, h => by simp at h
  | a :: l, 0, s, h => by simp at h; subst h; exact ⟨rfl, rfl⟩
  | a :: l, k + 1, s, h => by
    rw [List.getElem?_cons_succ] at h
    have := flat_0 h
    rw [show (k + 1) * 2 = k * 2 + 2 from by omega]
    exact this

/-- '.slice A l.length c' holds the steps l -/
structure Stp (w : World) (A : Option Addr) (c : Nat) (l : List StepD) : Prop where
  cells : ∀ k s, l[k]? = some s → ∃ b off, A = some ⟨b, off, none⟩ ∧ w.cell? ⟨b, off + k * 2, none⟩ = some (.int .i64 s.at_) ∧ w.cell? ⟨b, off + k * 2 + 1, none⟩ = some (.int .i64 s.fr)
  cap : l.length ≤ c
  top : c ≤ maxLen
  nil : A = none → c = 0
section
variable {w w' : World} {A : Option Addr} {c : Nat} {l : List StepD}
theorem Stp.empty (w : World) : Stp w none 0 [] := ⟨fun k x h => by simp at h, Nat.le_refl _, Nat.zero_le _, fun _ => rfl⟩
theorem Stp.below (h : Stp w A c l) (hb : Below w.heap.size w w') : Stp w' A c l := by
  refine ⟨fun k x hx => ?_, h.cap, h.top, h.nil⟩
  obtain ⟨b, off, e, h0, h1⟩ := h.cells k x hx
  exact ⟨b, off, e, kp hb h0, kp hb h1⟩
theorem Stp.lenI (h : Stp w A c l) : l.length ≤ 9223372036854775807 := Nat.le_trans h.cap (by have := h.top; simpa [maxLen] using this)
theorem Stp.lt (h : Stp w A c l) {k : Nat} (hk : k < l.length) : ∃ b off s, A = some ⟨b, off, none⟩ ∧ l[k]? = some s ∧ w.cell? ⟨b, off + k * 2, none⟩ = some (.int .i64 s.at_) ∧ w.cell? ⟨b, off + k * 2 + 1, none⟩ = some (.int .i64 s.fr) := by
  obtain ⟨s, hs⟩ : ∃ s, l[k]? = some s := ⟨_, List.getElem?_eq_getElem hk⟩
  obtain ⟨b, off, e, h0, h1⟩ := h.cells k s hs
  exact ⟨b, off, s, e, hs, h0, h1⟩
end
def cutS (A : Option Addr) (c lo : Nat) : Option Addr := if c = lo then A else A.map (·.add (lo * 2))
theorem Stp.cut {w : World} {A : Option Addr} {c : Nat} {l : List StepD} (h : Stp w A c l) (a n : Nat) (hn : a + n ≤ l.length) : Stp w (cutS A c a) (c - a) ((l.drop a).take n) := by
  have hc := h.cap
  refine ⟨fun k s hk => ?_, by rw [List.length_take, List.length_drop]; omega, by have := h.top; omega, fun e => ?_⟩
  · have hk1 : k < n := by
      rcases Nat.lt_or_ge k n with q | q
      · exact q
      · rw [List.getElem?_take, if_neg (by omega)] at hk; cases hk
    rw [List.getElem?_take, if_pos hk1, List.getElem?_drop] at hk
    obtain ⟨b, off, e, h0, h1⟩ := h.cells _ s hk
    have hlt := (List.getElem?_eq_some_iff.1 hk).1
    subst e
    refine ⟨b, off + a * 2, ?_, ?_, ?_⟩
    · unfold cutS
      by_cases q : c = a
      · omega
      · rw [if_neg q, Option.map_some, Go.WideShapes.add_plain]
    · rw [← h0]; congr 2; omega
    · rw [← h1]; congr 2; omega
  · unfold cutS at e
    by_cases q : c = a
    · omega
    · rw [if_neg q] at e
      cases A with
      | none => have := h.nil rfl; omega
      | some x => cases e
theorem info_step : (Try.prog.info? 58).map (fun i => (i.zero, i.size, i.bytes)) = some (some (.agg #[.int .i64 0, .int .i64 0]), 2, 16) := by kernel_rfl
theorem size_step (W : World) : (sizeOf (Try.prog.elem 38)).run Try.prog W = .ok 2 W := by
  obtain ⟨i0, hi, hz0, hz1, hz2⟩ := info_parts info_step
  rw [show Try.prog.elem 38 = 58 from by kernel_rfl]
  simp [sizeOf, typeInfo, hi, hz1]
theorem run_cut_l (A : Option Addr) (n c lo : Nat) (kl : IntKind) (l : Int) (hl : l = (lo : Int)) (h : lo ≤ n) (W : World) :
    (Instr.slice 38 (.slice A n c) (some (.int kl l)) none none).run Try.prog W = .ok (.slice (cutS A c lo) (n - lo) (c - lo)) W := by
  subst hl
  rw [run_slice_l W 38 A n c (by kernel_rfl) kl lo (by omega) (by omega), size_step]
  simp [Result.andThen, sliced, cutS]
theorem run_cut_lh (A : Option Addr) (n c lo hi : Nat) (kl kh : IntKind) (l h' : Int) (hl : l = (lo : Int)) (hh : h' = (hi : Int)) (h : lo ≤ hi) (h2 : hi ≤ c) (W : World) :
    (Instr.slice 38 (.slice A n c) (some (.int kl l)) (some (.int kh h')) none).run Try.prog W = .ok (.slice (cutS A c lo) (hi - lo) (c - lo)) W := by
  subst hl hh
  rw [run_slice_lh W 38 A n c (by kernel_rfl) kl kh lo hi (by omega) (by omega) (by omega), size_step]
  simp [Result.andThen, sliced, cutS]

/-- steps of one's own -/
abbrev OwnS (w : World) (base : Nat) (v : Value) (l : List StepD) : Prop := w.ownsRow base 58 2 v l.length (flat l)
section
variable {w w' : World} {base : Nat} {v : Value} {l : List StepD}
theorem OwnS.nil (w : World) (base : Nat) : OwnS w base (.slice none 0 0) [] := World.ownsRow_nil w base _ 2
theorem OwnS.below (h : OwnS w base v l) (hb : Below w.heap.size w w') : OwnS w' base v l := by
  refine ⟨h.1, ?_⟩
  rcases h.2 with h0 | ⟨g, cap, cur, hv, hbg, hh, rest⟩
  · exact Or.inl h0
  · exact Or.inr ⟨g, cap, cur, hv, hbg, by rw [hb.block g (Dag.blk_lt hh)]; exact hh, rest⟩
theorem OwnS.rebase (h : OwnS w base v l) {base' : Nat} (hb : base' ≤ base) : OwnS w base' v l := by
  refine ⟨h.1, ?_⟩
  rcases h.2 with h0 | ⟨g, cap, cur, hv, hbg, rest⟩
  · exact Or.inl h0
  · exact Or.inr ⟨g, cap, cur, hv, Nat.le_trans hb hbg, rest⟩
theorem OwnS.slice (h : OwnS w base v l) : ∃ A c, v = .slice A l.length c ∧ Stp w A c l := by
  rcases h.2 with ⟨hv, hn⟩ | ⟨g, cap, cur, hv, hbg, hh, h1, h2, h3, h4⟩
  · have hx : l = [] := List.eq_nil_of_length_eq_zero hn
    subst hx
    exact ⟨none, 0, hv, Stp.empty _⟩
  · have cell : ∀ i u, (flat l)[i]? = some u → w.cell? ⟨g, i, none⟩ = some u := fun i u hi => by
      rw [cell_of_row w g i cur _ (0, 0) hh]
      have hi1 : i < (flat l).length := (List.getElem?_eq_some_iff.1 hi).1
      rw [flat_len] at hi1
      have e' : (cur.toList.take (l.length * 2))[i]? = some u := by rw [h4]; exact hi
      rw [List.getElem?_take, if_pos (by omega)] at e'
      rw [← e', Array.getElem?_toList]
    refine ⟨_, cap, hv, ⟨fun k s hk => ⟨g, 0, rfl, ?_, ?_⟩, h1, h2, fun e => by cases e⟩⟩
    · rw [Nat.zero_add]; exact cell _ _ (flat_0 hk).1
    · rw [Nat.zero_add]; exact cell _ _ (flat_0 hk).2
theorem OwnS.stp {A : Option Addr} {n c : Nat} (h : OwnS w base (.slice A n c) l) : n = l.length ∧ Stp w A c l := by
  obtain ⟨A', c', e1, h1⟩ := h.slice
  injection e1 with a b c
  subst a b c
  exact ⟨rfl, h1⟩
theorem OwnS.blk (h : OwnS w base v l) {b : Nat} (hb : v.ownBlock = some b) : base ≤ b ∧ b < w.heap.size := World.ownsRow.lt h b hb
end
/-- append of one step onto steps of one's own -/
theorem wpList_app1 {w : World} {ops : Array Oper} {rest : List Oper} {o : Oper} {a : Act} {Q : Exit → Act → World → Prop} (hgd : o.guard = none) (s x : Operand)
    (ho : o.op = .call { callee := .builtin .append, args := #[s, x], argTypes := #[38, 38] })
    (base : Nat) (v : Value) (l : List StepD) (hs : a.eval s = v) (hown : OwnS w base v l) (g cx : Nat) (u : StepD) (hx : a.eval x = .slice (some ⟨g, 0, none⟩) 1 cx)
    (h0 : w.cell? ⟨g, 0, none⟩ = some (.int .i64 u.at_)) (h1 : w.cell? ⟨g, 1, none⟩ = some (.int .i64 u.fr)) (hlen : l.length ≤ 1000000) (hbase : base ≤ w.heap.size)
    (h : ∀ (A' : Option Addr) (c' : Nat) (w' : World), OwnS w' base (.slice A' (l ++ [u]).length c') (l ++ [u]) → w.grownBy w' v.ownBlock → Below base w w' →
      wpList Try.prog ops Q rest (a.put o.dst (.slice A' (l ++ [u]).length c')) w') :
    wpList Try.prog ops Q (o :: rest) a w := by
  obtain ⟨i0, hi0, hz0, hz1, hz2⟩ := info_parts info_step
  refine wpList_append_own_at w hgd s x _ ho base _ i0 (.agg #[.int .i64 0, .int .i64 0]) 2 16 Try.underlying38 hi0 hz0 hz1 hz2 rfl (by decide) v l.length (flat l) hs hown ⟨g, 0, none⟩ 1 cx [.int .i64 u.at_, .int .i64 u.fr] hx rfl ?_ ?_ (by simp only [maxLen]; omega) (by omega) hbase ?_
  · intro j y hy
    rw [Go.WideShapes.add_plain, Nat.zero_add]
    match j, hy with
    | 0, hy => injection hy with hy; subst hy; exact h0
    | 1, hy => injection hy with hy; subst hy; exact h1
    | j + 2, hy => simp at hy
  · intro y hy
    simp only [List.mem_cons, List.mem_nil_iff, or_false] at hy
    rcases hy with rfl | rfl <;> rfl
  · intro v' w' hown' hg _ hb
    have ho2 : OwnS w' base v' (l ++ [u]) := by
      unfold OwnS
      rw [flat_app, List.length_append, List.length_singleton]
      exact hown'
    obtain ⟨A', c', e, _⟩ := ho2.slice
    subst e
    exact h A' c' w' ho2 hg ((Below.refl _ _).grown hg hbase fun k hk => (hown.blk hk).1)
/-- a step's literal, read as a struct -/
theorem OwnS.lit {w : World} {base g : Nat} {l : List StepD} (h : w.heap[g]? = some (.cells (flat l).toArray 58 (0, 0))) (hb : base ≤ g) (hl : l.length ≤ maxLen) {n : Nat} (hn : l.length = n) : OwnS w base (.slice (some ⟨g, 0, none⟩) n n) l := by
  subst hn
  refine ⟨by rw [flat_len], Or.inr ⟨g, l.length, _, rfl, hb, h, Nat.le_refl _, hl, by simp [flat_len], by rw [← flat_len, List.take_of_length_le (by simp)]⟩⟩
end Go.Proofs.Ytapojmniokdjfaa.Stp

