/- Slices of slices of bytes: what they hold; rows of them that the call made; append onto these. -/
import Derived.Test.YtieeojigonbifaaJrnMem
namespace Go.Proofs.Ytieeojigonbifaa
open Go.RowKit
set_option linter.unusedVariables false

/-- '.slice A ls.length c' holds slices that hold the lists ls, all in blocks of which R holds -/
structure Rws (w : World) (R : Nat → Prop) (A : Option Addr) (c : Nat) (ls : List (List Int)) : Prop where
  cells : ∀ k xs, ls[k]? = some xs → ∃ b off A' c', A = some ⟨b, off, none⟩ ∧ R b ∧ w.cell? ⟨b, off + k, none⟩ = some (.slice A' xs.length c') ∧ Byts w R A' c' xs
  cap : ls.length ≤ c
  top : c ≤ maxLen
  nil : A = none → c = 0

section
variable {w w' : World} {R R' : Nat → Prop} {A : Option Addr} {c : Nat} {ls : List (List Int)}
theorem Rws.bts (h : Rws w R A c ls) : ∀ xs ∈ ls, Bts xs := by
  intro xs hx
  obtain ⟨k, hk⟩ := List.getElem?_of_mem hx
  obtain ⟨b, off, A', c', _, _, _, hb⟩ := h.cells k xs hk
  exact hb.bts
theorem Rws.at_ (h : Rws w R A c ls) {k : Nat} (hk : k < ls.length) :
    ∃ b off A' c' xs, A = some ⟨b, off, none⟩ ∧ R b ∧ ls[k]? = some xs ∧ w.cell? ⟨b, off + k, none⟩ = some (.slice A' xs.length c') ∧ Byts w R A' c' xs := by
  have hx : ls[k]? = some ls[k] := List.getElem?_eq_getElem hk
  obtain ⟨b, off, A', c', e, hr, hc, hb⟩ := h.cells k _ hx
  exact ⟨b, off, A', c', _, e, hr, hx, hc, hb⟩
theorem Rws.keep (h : Rws w R A c ls) (hk : ∀ b, R b → b < w.heap.size → w'.heap[b]? = w.heap[b]?) : Rws w' R A c ls := by
  refine ⟨fun k x hx => ?_, h.cap, h.top, h.nil⟩
  obtain ⟨b, off, A', c', e, hr, hc, hb⟩ := h.cells k x hx
  refine ⟨b, off, A', c', e, hr, ?_, hb.keep hk⟩
  rw [World.cell?_of_block (w := w) (hk b hr (World.block_lt_of_cell? w _ hc))]
  exact hc
theorem Rws.mono (h : Rws w R A c ls) (hR : ∀ b, b < w.heap.size → R b → R' b) : Rws w R' A c ls := by
  refine ⟨fun k x hx => ?_, h.cap, h.top, h.nil⟩
  obtain ⟨b, off, A', c', e, hr, hc, hb⟩ := h.cells k x hx
  exact ⟨b, off, A', c', e, hR b (World.block_lt_of_cell? w _ hc) hr, hc, hb.mono hR⟩
theorem Rws.old (h : Rws w R A c ls) : Rws w (fun b => b < w.heap.size) A c ls := h.mono fun _ hb _ => hb
theorem Rws.below (h : Rws w R A c ls) (hb : Below w.heap.size w w') : Rws w' R A c ls := h.keep fun b _ hlt => hb.block b hlt
theorem Rws.alloc (h : Rws w R A c ls) (o : Obj) : Rws (w.alloc o) R A c ls := h.keep fun b _ hlt => Below.heap_alloc w o b hlt
theorem Rws.take (h : Rws w R A c ls) (n : Nat) : Rws w R A c (ls.take n) := by
  refine ⟨fun k x hx => h.cells k x ?_, by have := h.cap; rw [List.length_take]; omega, h.top, h.nil⟩
  rw [List.getElem?_take] at hx
  split at hx
  · exact hx
  · cases hx
end
theorem Rws.empty (w : World) (R : Nat → Prop) : Rws w R none 0 [] := ⟨fun k x h => by simp at h, Nat.le_refl _, Nat.zero_le _, fun _ => rfl⟩
/-- a literal of one or two slices -/
theorem Rws.one {w : World} {R : Nat → Prop} {A : Option Addr} {c n g : Nat} {xs : List Int} (h : Byts w R A c xs) (hn : xs.length = n) (hg : w.heap.size = g) (hR : R g) :
    Rws (w.alloc (.cells #[.slice A n c] 22)) R (some ⟨g, 0, none⟩) 1 [xs] := by
  subst hn hg
  refine ⟨fun k x hx => ?_, Nat.le_refl _, by simp [maxLen], fun e => by cases e⟩
  match k, hx with
  | 0, hx =>
    simp at hx; subst hx
    exact ⟨_, 0, A, c, rfl, hR, (cell_of_row _ _ _ _ _ (0, 0) (heap_alloc_new w _)).trans rfl, h.alloc _⟩
  | k + 1, hx => simp at hx
theorem Rws.two {w : World} {R : Nat → Prop} {A B : Option Addr} {c d n m g : Nat} {xs ys : List Int} (h : Byts w R A c xs) (h' : Byts w R B d ys) (hn : xs.length = n) (hm : ys.length = m) (hg : w.heap.size = g) (hR : R g) :
    Rws (w.alloc (.cells #[.slice A n c, .slice B m d] 22)) R (some ⟨g, 0, none⟩) 2 [xs, ys] := by
  subst hn hm hg
  refine ⟨fun k x hx => ?_, Nat.le_refl _, by simp [maxLen], fun e => by cases e⟩
  match k, hx with
  | 0, hx =>
    simp at hx; subst hx
    exact ⟨_, 0, A, c, rfl, hR, (cell_of_row _ _ _ _ _ (0, 0) (heap_alloc_new w _)).trans rfl, h.alloc _⟩
  | 1, hx =>
    simp at hx; subst hx
    exact ⟨_, 0, B, d, rfl, hR, (cell_of_row _ _ _ _ _ (0, 0) (heap_alloc_new w _)).trans rfl, h'.alloc _⟩
  | k + 2, hx => simp at hx

/-- a row of slices that the call made; what these hold lies in blocks of which S holds, and elsewhere -/
def OwnR (w : World) (base : Nat) (S : Nat → Prop) (v : Value) (ls : List (List Int)) : Prop :=
  ∃ vs : List Value, w.ownsRow base 22 1 v ls.length vs ∧ ∀ (k : Nat) (xs : List Int), ls[k]? = some xs → ∃ A c, vs[k]? = some (Value.slice A xs.length c) ∧ Byts w (fun b => S b ∧ v.ownBlock ≠ some b) A c xs
theorem OwnR.nil (w : World) (base : Nat) (S : Nat → Prop) : OwnR w base S (.slice none 0 0) [] := ⟨[], World.ownsRow_nil w base _ 1, fun k xs h => by simp at h⟩
theorem OwnR.keep {w w' : World} {base : Nat} {S : Nat → Prop} {v : Value} {ls : List (List Int)} (h : OwnR w base S v ls) (hk : ∀ b, (S b ∨ v.ownBlock = some b) → b < w.heap.size → w'.heap[b]? = w.heap[b]?) : OwnR w' base S v ls := by
  obtain ⟨vs, h1, h2⟩ := h
  refine ⟨vs, ownsRow_keep h1 fun b e => hk b (Or.inr e) (h1.lt b e).2, fun k xs hx => ?_⟩
  obtain ⟨A, c, e, hb⟩ := h2 k xs hx
  exact ⟨A, c, e, hb.keep fun b hb hlt => hk b (Or.inl hb.1) hlt⟩
theorem OwnR.below {w w' : World} {base : Nat} {S : Nat → Prop} {v : Value} {ls : List (List Int)} (h : OwnR w base S v ls) (hb : Below w.heap.size w w') : OwnR w' base S v ls := h.keep fun b _ hlt => hb.block b hlt
theorem OwnR.alloc {w : World} {base : Nat} {S : Nat → Prop} {v : Value} {ls : List (List Int)} (h : OwnR w base S v ls) (o : Obj) : OwnR (w.alloc o) base S v ls := h.keep fun b _ hlt => Below.heap_alloc w o b hlt
theorem OwnR.own {w : World} {base : Nat} {S : Nat → Prop} {v : Value} {ls : List (List Int)} (h : OwnR w base S v ls) : ∀ k, v.ownBlock = some k → base ≤ k ∧ k < w.heap.size := by
  obtain ⟨vs, h1, _⟩ := h
  exact h1.lt
theorem OwnR.rws {w : World} {base : Nat} {S : Nat → Prop} {v : Value} {ls : List (List Int)} (h : OwnR w base S v ls) :
    ∃ A c, v = .slice A ls.length c ∧ Rws w (fun b => S b ∨ (base ≤ b ∧ v.ownBlock = some b)) A c ls := by
  obtain ⟨vs, h1, h2⟩ := h
  rcases h1.2 with ⟨hv, hn⟩ | ⟨g, cap, cur, hv, hbg, hh, hnc, hcm, hcs, htake⟩
  · have hx : ls = [] := List.eq_nil_of_length_eq_zero hn
    subst hx
    exact ⟨none, 0, hv, Rws.empty _ _⟩
  · refine ⟨_, cap, hv, ⟨fun k xs hx => ?_, hnc, hcm, fun e => by cases e⟩⟩
    obtain ⟨A, c, e, hb⟩ := h2 k xs hx
    refine ⟨g, 0, A, c, rfl, Or.inr ⟨hbg, by rw [hv]; rfl⟩, ?_, hb.mono fun b _ h => Or.inl h.1⟩
    rw [Nat.zero_add, cell_of_row w g k cur _ (0, 0) hh]
    have hk : k < ls.length := (List.getElem?_eq_some_iff.1 hx).1
    have e' : (cur.toList.take (ls.length * 1))[k]? = some (.slice A xs.length c) := by rw [htake]; exact e
    rw [List.getElem?_take, if_pos (by omega)] at e'
    rw [← e', Array.getElem?_toList]
theorem OwnR.lit {w : World} {base : Nat} {S : Nat → Prop} {A : Option Addr} {c : Nat} {xs : List Int} (hb : base ≤ w.heap.size) (h : Byts w S A c xs) :
    OwnR (w.alloc (.cells #[.slice A xs.length c] 22)) base S (.slice (some ⟨w.heap.size, 0, none⟩) 1 1) [xs] := by
  have h1 := World.ownsRow_lit (base := base) (e := 22) (size := 1) w #[.slice A xs.length c] 1 hb (by simp [maxLen]) (by simp)
  refine ⟨[.slice A xs.length c], by simpa using h1, fun k x hx => ?_⟩
  match k, hx with
  | 0, hx =>
    simp at hx; subst hx
    refine ⟨A, c, rfl, ?_⟩
    refine (h.mono (R' := fun b => S b ∧ (Value.slice (some ⟨w.heap.size, 0, none⟩) 1 1).ownBlock ≠ some b) fun b hlt hs => ⟨hs, ?_⟩).alloc _
    simp only [Value.ownBlock]
    intro e
    injection e with e
    omega
  | k + 1, hx => simp at hx

theorem wpList_appr {w : World} {ops : Array Oper} {rest : List Oper} {o : Oper} {a : Act} {Q : Exit → Act → World → Prop} (hgd : o.guard = none) (s x : Operand)
    (ho : o.op = .call { callee := .builtin .append, args := #[s, x], argTypes := #[34, 34] })
    (base : Nat) (S : Nat → Prop) (v : Value) (ls : List (List Int)) (hs : a.eval s = v) (hown : OwnR w base S v ls) (A : Option Addr) (c m : Nat) (R : Nat → Prop) (zs : List (List Int)) (hm : zs.length = m) (hx : a.eval x = .slice A m c)
    (hr : Rws w R A c zs) (hR : ∀ b, b < w.heap.size → R b → S b ∧ v.ownBlock ≠ some b) (hlen : ls.length + zs.length ≤ 100000000) (hbase : base ≤ w.heap.size)
    (h : ∀ (l : List (List Int)) (A' : Option Addr) (c' : Nat) (w' : World), l = ls ++ zs → OwnR w' base S (.slice A' l.length c') l → w.grownBy w' v.ownBlock → ((Value.slice A' l.length c').ownBlock = v.ownBlock ∨ (Value.slice A' l.length c').ownBlock = some w.heap.size) → Below base w w' →
      wpList Try.prog ops Q rest (a.put o.dst (.slice A' l.length c')) w') :
    wpList Try.prog ops Q (o :: rest) a w := by
  subst hm
  obtain ⟨i0, hi0, hz0, hz1, hz2⟩ := info_parts info_row
  obtain ⟨vs, h1, h2⟩ := hown
  have hvl : vs.length = ls.length := by have := h1.1; omega
  -- the cells that are appended
  obtain ⟨us, hul, hus⟩ : ∃ us : List Value, us.length = zs.length ∧ ∀ k xs, zs[k]? = some xs → ∃ b off A' c', A = some ⟨b, off, none⟩ ∧ us[k]? = some (.slice A' xs.length c') ∧ w.cell? ⟨b, off + k, none⟩ = some (.slice A' xs.length c') ∧ Byts w R A' c' xs := by
    have H : ∀ j, j ≤ zs.length → ∃ us : List Value, us.length = j ∧ ∀ k xs, k < j → zs[k]? = some xs → ∃ b off A' c', A = some ⟨b, off, none⟩ ∧ us[k]? = some (.slice A' xs.length c') ∧ w.cell? ⟨b, off + k, none⟩ = some (.slice A' xs.length c') ∧ Byts w R A' c' xs := by
      intro j
      induction j with
      | zero => exact fun _ => ⟨[], rfl, fun k xs hk => by omega⟩
      | succ j ih =>
        intro hj
        obtain ⟨us, e1, e2⟩ := ih (by omega)
        obtain ⟨b, off, A', c', xs, ea, _, ex, ec, eb⟩ := hr.at_ (k := j) (by omega)
        refine ⟨us ++ [.slice A' xs.length c'], by simp [e1], fun k ys hk hy => ?_⟩
        rcases Nat.lt_or_ge k j with hlt | hge
        · obtain ⟨b2, off2, A2, c2, f1, f2, f3, f4⟩ := e2 k ys hlt hy
          exact ⟨b2, off2, A2, c2, f1, by rw [List.getElem?_append_left (by omega)]; exact f2, f3, f4⟩
        · have : k = j := by omega
          subst this
          rw [ex] at hy
          injection hy with hy
          subst hy
          exact ⟨b, off, A', c', ea, by rw [List.getElem?_append_right (by omega), e1]; simp, ec, eb⟩
    obtain ⟨us, e1, e2⟩ := H zs.length (Nat.le_refl _)
    exact ⟨us, e1, fun k xs hx => e2 k xs (List.getElem?_eq_some_iff.1 hx).1 hx⟩
  have fin : ∀ (v' : Value) (w' : World), w'.ownsRow base 22 1 v' (ls.length + zs.length) (vs ++ us) → w.grownBy w' v.ownBlock → (v'.ownBlock = v.ownBlock ∨ v'.ownBlock = some w.heap.size) →
      wpList Try.prog ops Q rest (a.put o.dst v') w' := by
    intro v' w' hown' hg hb
    have keepB : ∀ {A c xs}, Byts w (fun b => S b ∧ v.ownBlock ≠ some b) A c xs → Byts w' (fun b => S b ∧ v'.ownBlock ≠ some b) A c xs := by
      intro A c xs hB
      refine (hB.mono (R' := fun b => S b ∧ v.ownBlock ≠ some b ∧ v'.ownBlock ≠ some b) fun b hlt hs => ⟨hs.1, hs.2, ?_⟩).keep (fun b hs hlt => hg.block b hlt (fun e => hs.2.1 e.symm)) |>.mono fun b _ hs => ⟨hs.1, hs.2.2⟩
      rcases hb with hb | hb
      · rw [hb]; exact hs.2
      · rw [hb]; intro e; injection e with e; omega
    have ho' : OwnR w' base S v' (ls ++ zs) := by
      refine ⟨vs ++ us, by rw [List.length_append]; exact hown', fun k xs hx => ?_⟩
      rcases Nat.lt_or_ge k ls.length with hlt | hge
      · rw [List.getElem?_append_left hlt] at hx
        obtain ⟨A2, c2, f1, f2⟩ := h2 k xs hx
        exact ⟨A2, c2, by rw [List.getElem?_append_left (by omega)]; exact f1, keepB f2⟩
      · rw [List.getElem?_append_right hge] at hx
        obtain ⟨b2, off2, A2, c2, f1, f2, f3, f4⟩ := hus _ xs hx
        exact ⟨A2, c2, by rw [List.getElem?_append_right (by omega), hvl]; exact f2, keepB (f4.mono hR)⟩
    obtain ⟨A', c', hv', _⟩ := ho'.rws
    subst hv'
    exact h _ A' c' w' rfl ho' hg hb ((Below.refl _ _).grown hg hbase fun k hk => (h1.lt k hk).1)
  rcases A with _ | ad
  · have hc0 := hr.nil rfl
    have hz : zs = [] := List.eq_nil_of_length_eq_zero (by have := hr.cap; omega)
    subst hz
    subst hc0
    have hu : us = [] := List.eq_nil_of_length_eq_zero (by simpa using hul)
    subst hu
    refine wpList_append_own_none hgd s x _ ho base _ i0 1 Try.underlying34 hi0 v ls.length _ hs h1 hx ?_
    exact fin v w (by simpa using h1) (World.grownBy.refl _ _) (Or.inl rfl)
  · refine wpList_append_own_at w hgd s x _ ho base _ i0 (.slice none 0 0) 1 24 Try.underlying34 hi0 hz0 hz1 hz2 rfl (by decide) v ls.length _ hs h1 ad zs.length c us hx (by omega) ?_ ?_ (by simp only [maxLen]; omega) (by omega) hbase ?_
    · intro j u hu
      have hj : j < zs.length := by have := (List.getElem?_eq_some_iff.1 hu).1; omega
      obtain ⟨b2, off2, A2, c2, f1, f2, f3, f4⟩ := hus j _ (List.getElem?_eq_getElem hj)
      injection f1 with f1
      subst f1
      rw [Go.WideShapes.add_plain, f3, ← hu, f2]
    · intro u hu
      obtain ⟨j, hj⟩ := List.getElem?_of_mem hu
      have hjl : j < zs.length := by have := (List.getElem?_eq_some_iff.1 hj).1; omega
      obtain ⟨b2, off2, A2, c2, f1, f2, f3, f4⟩ := hus j _ (List.getElem?_eq_getElem hjl)
      rw [f2] at hj
      injection hj with hj
      subst hj
      rfl
    · intro v' w' hown' hg _ hb
      exact fin v' w' hown' hg hb

end Go.Proofs.Ytieeojigonbifaa
