/- What each waits for, without what it waits for over others, in plain words. -/
import Derived.Test.YtaokbjacfdipmaaDoorDagWay
namespace Go.Proofs.YtaokbjacfdipmaaDoor
set_option linter.unusedVariables false

/-- does v wait for u, over whatever others -/
def plusB (E : List (List Int)) (v u : Nat) : Bool := (List.range E.length).any fun k => canB E v (k + 1) u
theorem plusB_iff {E : List (List Int)} (hf : (order E).length = E.length) (hE : Valid E) {v u : Nat} (hv : v < E.length) : plusB E v u = true ↔ Plus (arc E) v u := by
  unfold plusB
  rw [List.any_eq_true]
  constructor
  · rintro ⟨k, _, h⟩
    exact can_plus h
  · intro h
    obtain ⟨k, hk⟩ := plus_can h
    have := can_short hf hE hv hk
    exact ⟨k, by simp; omega, hk⟩
/-- does v wait for u over one of the first j that it waits for -/
def overB (E : List (List Int)) (v j u : Nat) : Bool := ((befL E v).take j).any fun x => plusB E x u
def indB (E : List (List Int)) (v u : Nat) : Bool := overB E v (befL E v).length u
theorem overB_zero (E : List (List Int)) (v u : Nat) : overB E v 0 u = false := by simp [overB]
theorem overB_succ {E : List (List Int)} {v j x : Nat} (h : (befL E v)[j]? = some x) (u : Nat) : overB E v (j + 1) u = (overB E v j u || plusB E x u) := by
  unfold overB
  rw [List.take_add_one, h, List.any_append]
  simp
theorem indB_iff {E : List (List Int)} {v u : Nat} : indB E v u = true ↔ ∃ x, x ∈ befL E v ∧ plusB E x u = true := by
  unfold indB overB
  rw [List.take_length, List.any_eq_true]
theorem plus_head {a : Nat → Nat → Bool} {v u : Nat} (h : Plus a v u) : a v u = true ∨ ∃ x, a v x = true ∧ Plus a x u :=
  h.ind (M := fun u => a v u = true ∨ ∃ x, a v x = true ∧ Plus a x u) (fun u h => Or.inl h) fun x u _ ih h => by
    rcases ih with ih | ⟨y, h1, h2⟩
    · exact Or.inr ⟨x, ih, .one h⟩
    · exact Or.inr ⟨y, h1, h2.step h⟩
theorem plus_bef {E : List (List Int)} (hf : (order E).length = E.length) (hE : Valid E) {v u : Nat} (hv : v < E.length) : plusB E v u = (decide (u ∈ befL E v) || indB E v u) := by
  rw [Bool.eq_iff_iff, plusB_iff hf hE hv, Bool.or_eq_true, decide_eq_true_eq, indB_iff]
  constructor
  · intro h
    rcases plus_head h with h | ⟨x, h1, h2⟩
    · exact Or.inl (bef_mem.2 ⟨hE.arc h, h⟩)
    · exact Or.inr ⟨x, bef_mem.2 ⟨hE.arc h1, h1⟩, (plusB_iff hf hE (hE.arc h1)).2 h2⟩
  · rintro (h | ⟨x, h1, h2⟩)
    · exact .one (bef_mem.1 h).2
    · exact .head (bef_mem.1 h1).2 ((plusB_iff hf hE (bef_mem.1 h1).1).1 h2)

/-- those that v waits for, but over none of the others -/
def barL (E : List (List Int)) (v : Nat) : List Nat := (befL E v).filter fun u => !indB E v u
def bareE (E : List (List Int)) : List (List Int) := (List.range E.length).map fun v => num (barL E v)
theorem bare_len (E : List (List Int)) : (bareE E).length = E.length := by simp [bareE]
theorem bare_get {E : List (List Int)} {v : Nat} (h : v < E.length) : (bareE E)[v]? = some (num (barL E v)) := range_map_get _ h
theorem bare_row {E : List (List Int)} {v : Nat} (h : v < E.length) : row (bareE E) v = num (barL E v) := row_some (bare_get h)
theorem bar_mem {E : List (List Int)} {v u : Nat} : u ∈ barL E v ↔ u ∈ befL E v ∧ indB E v u = false := by
  unfold barL
  rw [List.mem_filter, Bool.not_eq_true']
theorem bar_len (E : List (List Int)) (v : Nat) : (barL E v).length ≤ E.length := by
  refine Nat.le_trans (List.length_filter_le _ _) ?_
  exact nodup_len (bef_nodup E v) fun u hu => (bef_mem.1 hu).1
theorem valid_bare (E : List (List Int)) : Valid (bareE E) := valid_of_nums (f := barL E) fun v _ u hu => (bef_mem.1 (bar_mem.1 hu).1).1
theorem arc_bare {E : List (List Int)} {v u : Nat} : arc (bareE E) v u = true ↔ v < E.length ∧ u ∈ barL E v := by
  constructor
  · intro h
    have hv : v < E.length := by have := arc_lt h; rwa [bare_len] at this
    rw [arc_iff, bare_row hv, num_mem] at h
    exact ⟨hv, h⟩
  · rintro ⟨hv, h⟩
    rw [arc_iff, bare_row hv, num_mem]
    exact h
theorem arc_bare_arc {E : List (List Int)} {v u : Nat} (h : arc (bareE E) v u = true) : arc E v u = true := (bef_mem.1 (bar_mem.1 (arc_bare.1 h).2).1).2
theorem full_bare {E : List (List Int)} (hf : (order E).length = E.length) (hE : Valid E) : (order (bareE E)).length = (bareE E).length :=
  order_full (pos (order E)) fun v u ha _ => pos_arc hf hE (arc_bare_arc ha)
theorem plus_bare {E : List (List Int)} (hf : (order E).length = E.length) (hE : Valid E) {v u : Nat} : Plus (arc (bareE E)) v u ↔ Plus (arc E) v u := by
  refine ⟨fun h => h.mono fun x y h => arc_bare_arc h, ?_⟩
  have key : ∀ (d v u : Nat), pos (order E) v ≤ pos (order E) u + d → Plus (arc E) v u → Plus (arc (bareE E)) v u := by
    intro d
    induction d with
    | zero =>
      intro v u hd h
      have := pos_plus hf hE h
      omega
    | succ d ih =>
      intro v u hd h
      have two : ∀ x, Plus (arc E) v x → Plus (arc E) x u → Plus (arc (bareE E)) v u := by
        intro x h1 h2
        have p1 := pos_plus hf hE h1
        have p2 := pos_plus hf hE h2
        exact (ih v x (by omega) h1).trans (ih x u (by omega) h2)
      rcases plus_head h with h | ⟨x, h1, h2⟩
      · have hv := arc_lt h
        cases hi : indB E v u with
        | false => exact .one (arc_bare.2 ⟨hv, bar_mem.2 ⟨bef_mem.2 ⟨hE.arc h, h⟩, hi⟩⟩)
        | true =>
          obtain ⟨x, h1, h2⟩ := indB_iff.1 hi
          exact two x (.one (bef_mem.1 h1).2) ((plusB_iff hf hE (bef_mem.1 h1).1).1 h2)
      · exact two x (.one h1) h2
  exact key (pos (order E) v) v u (by omega)
theorem befL_bare {E : List (List Int)} {v : Nat} (hv : v < E.length) : befL (bareE E) v = barL E v := by
  have e1 : befL (bareE E) v = (List.range E.length).filter fun u => arc (bareE E) v u := by unfold befL; rw [bare_len]
  have e2 : barL E v = (List.range E.length).filter fun u => !indB E v u && arc E v u := by unfold barL befL; rw [List.filter_filter]
  rw [e1, e2]
  apply List.filter_congr
  intro u hu
  have hul : u < E.length := by simpa using hu
  rw [Bool.eq_iff_iff, arc_bare, bar_mem, bef_mem, Bool.and_eq_true, Bool.not_eq_true']
  constructor
  · rintro ⟨_, h1, h2⟩; exact ⟨h2, h1.2⟩
  · rintro ⟨h1, h2⟩; exact ⟨hv, ⟨hul, h2⟩, h1⟩
theorem bare_bare {E : List (List Int)} (hf : (order E).length = E.length) (hE : Valid E) : bareE (bareE E) = bareE E := by
  unfold bareE
  rw [show ((List.range E.length).map fun v => num (barL E v)).length = E.length from by simp]
  apply List.map_congr_left
  intro v hv
  have hvl : v < E.length := by simpa using hv
  congr 1
  show (befL (bareE E) v).filter (fun u => !indB (bareE E) v u) = barL E v
  rw [befL_bare hvl]
  apply List.filter_eq_self.2
  intro u hu
  rw [Bool.not_eq_true', Bool.eq_false_iff]
  intro h
  obtain ⟨x, h1, h2⟩ := indB_iff.1 h
  rw [befL_bare hvl] at h1
  have hx := bef_mem.1 (bar_mem.1 h1).1
  have h3 := (plusB_iff (full_bare hf hE) (valid_bare E) (by rw [bare_len]; exact hx.1)).1 h2
  have h4 := (plus_bare hf hE).1 h3
  have := (bar_mem.1 hu).2
  rw [Bool.eq_false_iff] at this
  exact this (indB_iff.2 ⟨x, (bar_mem.1 h1).1, (plusB_iff hf hE hx.1).2 h4⟩)

end Go.Proofs.YtaokbjacfdipmaaDoor
