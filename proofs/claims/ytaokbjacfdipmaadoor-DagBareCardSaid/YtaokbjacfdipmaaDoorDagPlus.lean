/- One arc and more; what is come to from some, over arcs. -/
import Derived.Test.YtaokbjacfdipmaaDoorDagPure
import Derived.Test.YtaokbjacfdipmaaDoorDagBits
namespace Go.Proofs.YtaokbjacfdipmaaDoor
set_option linter.unusedVariables false

def PlusN (a : Nat → Nat → Bool) : Nat → Nat → Nat → Prop
  | 0, v, u => a v u = true
  | n + 1, v, u => ∃ x, PlusN a n v x ∧ a x u = true
def Plus (a : Nat → Nat → Bool) (v u : Nat) : Prop := ∃ n, PlusN a n v u
theorem Plus.one {a : Nat → Nat → Bool} {v u : Nat} (h : a v u = true) : Plus a v u := ⟨0, h⟩
theorem Plus.step {a : Nat → Nat → Bool} {v x u : Nat} (h : Plus a v x) (k : a x u = true) : Plus a v u := by
  obtain ⟨n, h⟩ := h
  exact ⟨n + 1, x, h, k⟩
theorem Plus.ind {a : Nat → Nat → Bool} {M : Nat → Prop} {v u : Nat} (h : Plus a v u) (h1 : ∀ u, a v u = true → M u) (h2 : ∀ x u, Plus a v x → M x → a x u = true → M u) : M u := by
  obtain ⟨n, h⟩ := h
  induction n generalizing u with
  | zero => exact h1 u h
  | succ n ih =>
    obtain ⟨x, h3, h4⟩ := h
    exact h2 x u ⟨n, h3⟩ (ih h3) h4
theorem Plus.trans {a : Nat → Nat → Bool} {v x u : Nat} (h : Plus a v x) (k : Plus a x u) : Plus a v u :=
  k.ind (M := Plus a v) (fun u h1 => h.step h1) fun y u _ ih h1 => ih.step h1
theorem Plus.head {a : Nat → Nat → Bool} {v x u : Nat} (h : a v x = true) (k : Plus a x u) : Plus a v u := (Plus.one h).trans k
theorem Plus.closed {a : Nat → Nat → Bool} {T : Nat → Prop} {v u : Nat} (h : Plus a v u) (h1 : ∀ u, a v u = true → T u) (h2 : ∀ x u, T x → a x u = true → T u) : T u :=
  h.ind h1 fun x u _ ih h => h2 x u ih h
theorem Plus.mono {a b : Nat → Nat → Bool} {v u : Nat} (h : Plus a v u) (hab : ∀ x y, a x y = true → b x y = true) : Plus b v u :=
  h.ind (M := Plus b v) (fun u h => .one (hab _ _ h)) fun x u _ ih h => .step ih (hab _ _ h)
theorem Plus.flip {a b : Nat → Nat → Bool} {v u : Nat} (h : Plus a v u) (hab : ∀ x y, a x y = true → b y x = true) : Plus b u v :=
  h.ind (M := fun u => Plus b u v) (fun u h => .one (hab _ _ h)) fun x u _ ih h => (Plus.one (hab _ _ h)).trans ih
theorem Plus.lt {E : List (List Int)} (hE : Valid E) {v u : Nat} (h : Plus (arc E) v u) : v < E.length ∧ u < E.length :=
  h.ind (M := fun u => v < E.length ∧ u < E.length) (fun u h => ⟨arc_lt h, hE.arc h⟩) fun x u _ ih h => ⟨ih.1, hE.arc h⟩

/-- what is come to from some of l, over one arc or more -/
def FarP (es : List (List Int)) (l : List Int) (u : Nat) : Prop := ∃ s : Nat, s < es.length ∧ (s : Int) ∈ l ∧ Plus (arc es) s u

def insL (ls : List Nat) (u : Nat) : List Nat := if u ∈ ls then ls else ls ++ [u]
theorem insL_in {ls : List Nat} {u : Nat} (h : u ∈ ls) : insL ls u = ls := if_pos h
theorem insL_out {ls : List Nat} {u : Nat} (h : u ∉ ls) : insL ls u = ls ++ [u] := if_neg h
theorem insL_mem {ls : List Nat} {u v : Nat} : v ∈ insL ls u ↔ v ∈ ls ∨ v = u := by
  unfold insL
  split
  · exact ⟨Or.inl, fun h => by rcases h with h | rfl <;> assumption⟩
  · simp
theorem insL_nodup {ls : List Nat} {u : Nat} (h : ls.Nodup) : (insL ls u).Nodup := by
  unfold insL
  split
  · exact h
  · rename_i hu
    rw [List.nodup_append]
    exact ⟨h, by simp, fun a ha b hb e => by simp at hb; subst hb e; exact hu ha⟩
theorem insL_take {ls : List Nat} {u i : Nat} (h : i ≤ ls.length) : (insL ls u).take i = ls.take i := by
  unfold insL
  split
  · rfl
  · exact List.take_append_of_le_length h
theorem insL_get {ls : List Nat} {u i x : Nat} (h : ls[i]? = some x) : (insL ls u)[i]? = some x := by
  unfold insL
  split
  · exact h
  · rw [List.getElem?_append_left (List.getElem?_eq_some_iff.1 h).1]; exact h
theorem insL_len {ls : List Nat} {u : Nat} : ls.length ≤ (insL ls u).length := by
  unfold insL
  split
  · exact Nat.le_refl _
  · simp

/-- the state of the search: the list, and what was found from its first i ones, and from the first j arcs of the next -/
structure Srch (es : List (List Int)) (l : List Int) (ls : List Nat) (i j : Nat) (f : Nat → Bool) : Prop where
  nodup : ls.Nodup
  lt : ∀ u ∈ ls, u < es.length
  from_ : ∀ u ∈ ls, (u : Int) ∈ l ∨ FarP es l u
  start : ∀ u : Nat, u < es.length → (u : Int) ∈ l → u ∈ ls
  found : ∀ u, u < es.length → (f u = true ↔ (∃ x ∈ ls.take i, arc es x u = true) ∨ ∃ x, ls[i]? = some x ∧ (u : Int) ∈ (row es x).take j)
  inn : ∀ u, u < es.length → f u = true → u ∈ ls
theorem Srch.step {es : List (List Int)} {l : List Int} {ls : List Nat} {i j : Nat} {f g : Nat → Bool} (h : Srch es l ls i j f) (hE : Valid es) {x u : Nat} (hx : ls[i]? = some x) (hu : (row es x)[j]? = some (u : Int)) (hg : ∀ v, v < es.length → g v = (f v || decide (v = u))) :
    Srch es l (insL ls u) i (j + 1) g := by
  have hxm : x ∈ ls := List.mem_of_getElem? hx
  have hxl := h.lt x hxm
  have ha : arc es x u = true := arc_iff.2 (List.mem_of_getElem? hu)
  have hul := hE.arc ha
  have hil : i ≤ ls.length := Nat.le_of_lt (List.getElem?_eq_some_iff.1 hx).1
  have ht : (row es x).take (j + 1) = (row es x).take j ++ [(u : Int)] := by rw [List.take_add_one, hu]; rfl
  refine ⟨insL_nodup h.nodup, fun v hv => ?_, fun v hv => ?_, fun v hv hl => insL_mem.2 (Or.inl (h.start v hv hl)), fun v hv => ?_, fun v hv hgv => ?_⟩
  · rcases insL_mem.1 hv with hv | rfl
    · exact h.lt v hv
    · exact hul
  · rcases insL_mem.1 hv with hv | rfl
    · exact h.from_ v hv
    · refine Or.inr ?_
      rcases h.from_ x hxm with h1 | ⟨s, h1, h2, h3⟩
      · exact ⟨x, hxl, h1, .one ha⟩
      · exact ⟨s, h1, h2, .step h3 ha⟩
  · rw [hg v hv, Bool.or_eq_true, h.found v hv, decide_eq_true_eq, insL_take hil, insL_get hx, hx]
    constructor
    · rintro ((h1 | ⟨y, hy, h2⟩) | rfl)
      · exact Or.inl h1
      · injection hy with hy
        subst hy
        exact Or.inr ⟨x, rfl, by rw [ht]; exact List.mem_append_left _ h2⟩
      · exact Or.inr ⟨x, rfl, by rw [ht]; simp⟩
    · rintro (h1 | ⟨y, hy, h2⟩)
      · exact Or.inl (Or.inl h1)
      · injection hy with hy
        subst hy
        rw [ht] at h2
        rcases List.mem_append.1 h2 with h2 | h2
        · exact Or.inl (Or.inr ⟨x, rfl, h2⟩)
        · simp at h2
          exact Or.inr (by omega)
  · rw [hg v hv, Bool.or_eq_true, decide_eq_true_eq] at hgv
    rcases hgv with hgv | rfl
    · exact insL_mem.2 (Or.inl (h.inn v hv hgv))
    · exact insL_mem.2 (Or.inr rfl)
theorem Srch.next {es : List (List Int)} {l : List Int} {ls : List Nat} {i : Nat} {f : Nat → Bool} {x : Nat} (h : Srch es l ls i (row es x).length f) (hx : ls[i]? = some x) : Srch es l ls (i + 1) 0 f := by
  refine ⟨h.nodup, h.lt, h.from_, h.start, fun v hv => ?_, h.inn⟩
  rw [h.found v hv, List.take_add_one, hx]
  constructor
  · rintro (⟨y, hy, ha⟩ | ⟨y, hy, ha⟩)
    · exact Or.inl ⟨y, List.mem_append_left _ hy, ha⟩
    · injection hy with hy
      subst hy
      rw [List.take_length] at ha
      exact Or.inl ⟨x, by simp, arc_iff.2 ha⟩
  · rintro (⟨y, hy, ha⟩ | ⟨y, _, ha⟩)
    · rcases List.mem_append.1 hy with hy | hy
      · exact Or.inl ⟨y, hy, ha⟩
      · simp at hy
        subst hy
        exact Or.inr ⟨y, rfl, by rw [List.take_length]; exact arc_iff.1 ha⟩
    · simp at ha
theorem Srch.done {es : List (List Int)} {l : List Int} {ls : List Nat} {f : Nat → Bool} (h : Srch es l ls ls.length 0 f) (hE : Valid es) {u : Nat} (hu : u < es.length) : f u = true ↔ FarP es l u := by
  have hf : ∀ v, v < es.length → (f v = true ↔ ∃ x ∈ ls, arc es x v = true) := by
    intro v hv
    rw [h.found v hv, List.take_length]
    constructor
    · rintro (h1 | ⟨x, _, h2⟩)
      · exact h1
      · simp at h2
    · exact Or.inl
  constructor
  · intro h1
    obtain ⟨x, hx, ha⟩ := (hf u hu).1 h1
    rcases h.from_ x hx with h2 | ⟨s, h2, h3, h4⟩
    · exact ⟨x, h.lt x hx, h2, .one ha⟩
    · exact ⟨s, h2, h3, .step h4 ha⟩
  · rintro ⟨s, h1, h2, h3⟩
    exact Plus.closed (T := fun v => f v = true) h3 (fun v hv => (hf v (hE.arc hv)).2 ⟨s, h.start s h1 h2, hv⟩)
      fun x v hx hv => (hf v (hE.arc hv)).2 ⟨x, h.inn x (arc_lt hv) hx, hv⟩

/-- the start: those of l that are there -/
structure Strt (es : List (List Int)) (l : List Int) (ls : List Nat) (k : Nat) : Prop where
  nodup : ls.Nodup
  mem : ∀ u, u ∈ ls ↔ u < es.length ∧ (u : Int) ∈ l.take k
theorem Strt.zero (es : List (List Int)) (l : List Int) : Strt es l [] 0 := ⟨List.nodup_nil, by simp⟩
theorem Strt.in_ {es : List (List Int)} {l : List Int} {ls : List Nat} {k u : Nat} (h : Strt es l ls k) (hu : l[k]? = some (u : Int)) (hl : u < es.length) : Strt es l (insL ls u) (k + 1) := by
  have ht : l.take (k + 1) = l.take k ++ [(u : Int)] := by rw [List.take_add_one, hu]; rfl
  refine ⟨insL_nodup h.nodup, fun v => ?_⟩
  rw [insL_mem, h.mem, ht]
  constructor
  · rintro (⟨h1, h2⟩ | rfl)
    · exact ⟨h1, List.mem_append_left _ h2⟩
    · exact ⟨hl, by simp⟩
  · rintro ⟨h1, h2⟩
    rcases List.mem_append.1 h2 with h2 | h2
    · exact Or.inl ⟨h1, h2⟩
    · simp at h2; exact Or.inr (by omega)
theorem Strt.out {es : List (List Int)} {l : List Int} {ls : List Nat} {k : Nat} {x : Int} (h : Strt es l ls k) (hu : l[k]? = some x) (hl : ¬ (0 ≤ x ∧ x < (es.length : Int))) : Strt es l ls (k + 1) := by
  have ht : l.take (k + 1) = l.take k ++ [x] := by rw [List.take_add_one, hu]; rfl
  refine ⟨h.nodup, fun v => ?_⟩
  rw [h.mem, ht]
  constructor
  · rintro ⟨h1, h2⟩; exact ⟨h1, List.mem_append_left _ h2⟩
  · rintro ⟨h1, h2⟩
    rcases List.mem_append.1 h2 with h2 | h2
    · exact ⟨h1, h2⟩
    · simp at h2; omega
theorem Strt.end_ {es : List (List Int)} {l : List Int} {ls : List Nat} (h : Strt es l ls l.length) : Srch es l ls 0 0 (fun _ => false) := by
  have hm : ∀ u, u ∈ ls ↔ u < es.length ∧ (u : Int) ∈ l := by intro u; rw [h.mem, List.take_length]
  exact ⟨h.nodup, fun u hu => ((hm u).1 hu).1, fun u hu => Or.inl ((hm u).1 hu).2, fun u h1 h2 => (hm u).2 ⟨h1, h2⟩, by simp, by simp⟩

end Go.Proofs.YtaokbjacfdipmaaDoor
