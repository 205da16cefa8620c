/- Layer 5 in plain words: rows of numbers, arcs, rows turned round, the order. -/
import Derived.Lib.Hide
namespace Go.Proofs.YtaokbjacfdipmaaDoor
set_option linter.unusedVariables false

def num (l : List Nat) : List Int := l.map fun (n : Nat) => (n : Int)
theorem num_len (l : List Nat) : (num l).length = l.length := by simp [num]
theorem num_mem {l : List Nat} {u : Nat} : (u : Int) ∈ num l ↔ u ∈ l := by
  simp only [num, List.mem_map]
  constructor
  · rintro ⟨x, hx, e⟩
    have : x = u := by omega
    rwa [← this]
  · exact fun h => ⟨u, h, rfl⟩
theorem num_mem' {l : List Nat} {x : Int} : x ∈ num l ↔ ∃ u : Nat, x = (u : Int) ∧ u ∈ l := by
  simp only [num, List.mem_map]
  exact ⟨fun ⟨u, h, e⟩ => ⟨u, e.symm, h⟩, fun ⟨u, e, h⟩ => ⟨u, h, e.symm⟩⟩
theorem num_get {l : List Nat} {k : Nat} : (num l)[k]? = l[k]?.map fun (n : Nat) => (n : Int) := by unfold num; rw [List.getElem?_map]
theorem num_app (a b : List Nat) : num (a ++ b) = num a ++ num b := by simp [num]
theorem num_inj {a b : List Nat} (h : num a = num b) : a = b := by
  unfold num at h
  exact (List.map_inj_right (f := fun n : Nat => (n : Int)) (fun x y e => by have e' : (x : Int) = (y : Int) := e; omega)).1 h

def row (E : List (List Int)) (v : Nat) : List Int := E[v]?.getD []
def Valid (E : List (List Int)) : Prop := ∀ l ∈ E, ∀ x ∈ l, 0 ≤ x ∧ x < E.length
def arc (E : List (List Int)) (v u : Nat) : Bool := decide ((u : Int) ∈ row E v)
theorem arc_iff {E : List (List Int)} {v u : Nat} : arc E v u = true ↔ (u : Int) ∈ row E v := by simp [arc]
theorem row_out {E : List (List Int)} {v : Nat} (h : E.length ≤ v) : row E v = [] := by
  unfold row; rw [List.getElem?_eq_none h]; rfl
theorem row_some {E : List (List Int)} {v : Nat} {l : List Int} (h : E[v]? = some l) : row E v = l := by unfold row; rw [h]; rfl
theorem row_get {E : List (List Int)} {v : Nat} (h : v < E.length) : E[v]? = some (row E v) := by
  unfold row; rw [List.getElem?_eq_getElem h]; rfl
theorem row_mem {E : List (List Int)} {v : Nat} (h : v < E.length) : row E v ∈ E := List.mem_of_getElem? (row_get h)
theorem arc_lt {E : List (List Int)} {v u : Nat} (h : arc E v u = true) : v < E.length := by
  rcases Nat.lt_or_ge v E.length with a | a
  · exact a
  · rw [arc_iff, row_out a] at h; simp at h
theorem Valid.at_ {E : List (List Int)} (h : Valid E) {v : Nat} {x : Int} (hx : x ∈ row E v) : ∃ u : Nat, x = (u : Int) ∧ u < E.length ∧ v < E.length := by
  have hv : v < E.length := by
    rcases Nat.lt_or_ge v E.length with a | a
    · exact a
    · rw [row_out a] at hx; simp at hx
  have := h _ (row_mem hv) x hx
  exact ⟨x.toNat, by omega, by omega, hv⟩
theorem Valid.arc {E : List (List Int)} (h : Valid E) {v u : Nat} (ha : arc E v u = true) : u < E.length := by
  obtain ⟨k, e, hk, _⟩ := h.at_ (arc_iff.1 ha)
  omega

/-- what v waits for; what waits for v -/
def befL (E : List (List Int)) (v : Nat) : List Nat := (List.range E.length).filter fun u => arc E v u
def behL (E : List (List Int)) (v : Nat) : List Nat := (List.range E.length).filter fun w => arc E w v
theorem bef_mem {E : List (List Int)} {v u : Nat} : u ∈ befL E v ↔ u < E.length ∧ arc E v u = true := by simp [befL]
theorem beh_mem {E : List (List Int)} {v w : Nat} : w ∈ behL E v ↔ w < E.length ∧ arc E w v = true := by simp [behL]
def rev (E : List (List Int)) : List (List Int) := (List.range E.length).map fun v => num (behL E v)
def fro (E : List (List Int)) : List (List Int) := (List.range E.length).map fun v => num (befL E v)
theorem rev_len (E : List (List Int)) : (rev E).length = E.length := by simp [rev]
theorem fro_len (E : List (List Int)) : (fro E).length = E.length := by simp [fro]
theorem rev_get {E : List (List Int)} {v : Nat} (h : v < E.length) : (rev E)[v]? = some (num (behL E v)) := by
  unfold rev; rw [List.getElem?_map, List.getElem?_range h]; rfl
theorem fro_get {E : List (List Int)} {v : Nat} (h : v < E.length) : (fro E)[v]? = some (num (befL E v)) := by
  unfold fro; rw [List.getElem?_map, List.getElem?_range h]; rfl
theorem beh_out {E : List (List Int)} {v : Nat} (hE : Valid E) (h : E.length ≤ v) : behL E v = [] := by
  unfold behL
  rw [List.filter_eq_nil_iff]
  intro w _ ha
  have := hE.arc ha
  omega
theorem bef_out {E : List (List Int)} {v : Nat} (h : E.length ≤ v) : befL E v = [] := by
  unfold befL
  rw [List.filter_eq_nil_iff]
  intro w _ ha
  have := arc_lt ha
  omega
theorem rev_row {E : List (List Int)} (v : Nat) (h : v < E.length) : row (rev E) v = num (behL E v) := row_some (rev_get h)
theorem fro_row {E : List (List Int)} (v : Nat) (h : v < E.length) : row (fro E) v = num (befL E v) := row_some (fro_get h)
theorem valid_of_nums {n : Nat} {f : Nat → List Nat} (hf : ∀ v, v < n → ∀ u ∈ f v, u < n) : Valid ((List.range n).map fun v => num (f v)) := by
  intro l hl x hx
  obtain ⟨v, hv, rfl⟩ := List.mem_map.1 hl
  obtain ⟨u, rfl, hu⟩ := num_mem'.1 hx
  have := hf v (by simpa using hv) u hu
  simp; omega
theorem valid_rev (E : List (List Int)) : Valid (rev E) := valid_of_nums (f := behL E) fun v _ u hu => (beh_mem.1 hu).1
theorem valid_fro (E : List (List Int)) : Valid (fro E) := valid_of_nums (f := befL E) fun v _ u hu => (bef_mem.1 hu).1
theorem arc_rev {E : List (List Int)} {v u : Nat} (hv : v < E.length) : arc (rev E) v u = true ↔ u < E.length ∧ arc E u v = true := by
  rw [arc_iff, rev_row v hv, num_mem, beh_mem]
theorem arc_fro {E : List (List Int)} {v u : Nat} : arc (fro E) v u = true ↔ u < E.length ∧ arc E v u = true := by
  rcases Nat.lt_or_ge v E.length with hv | hv
  · rw [arc_iff, fro_row v hv, num_mem, bef_mem]
  · constructor
    · intro h; have := arc_lt h; rw [fro_len] at this; omega
    · intro ⟨_, h⟩; have := arc_lt h; omega
theorem rev_rev (E : List (List Int)) : rev (rev E) = fro E := by
  unfold rev fro
  rw [show (List.map (fun v => num (behL E v)) (List.range E.length)).length = E.length from by simp]
  apply List.map_congr_left
  intro v hv
  have hv' : v < E.length := by simpa using hv
  congr 1
  show (List.range (rev E).length).filter (fun w => arc (rev E) w v) = _
  rw [rev_len]
  apply List.filter_congr
  intro w hw
  have hw' : w < E.length := by simpa using hw
  rw [Bool.eq_iff_iff, arc_rev hw']
  exact ⟨fun h => h.2, fun h => ⟨hv', h⟩⟩
/-- of rows that are in order and valid, the arcs are the rows -/
theorem bef_fro (E : List (List Int)) (v : Nat) : befL (fro E) v = befL E v := by
  unfold befL
  rw [fro_len]
  apply List.filter_congr
  intro u hu
  have hu' : u < E.length := by simpa using hu
  rw [Bool.eq_iff_iff, arc_fro]
  exact ⟨fun h => h.2, fun h => ⟨hu', h⟩⟩
theorem beh_fro (E : List (List Int)) (v : Nat) (hv : v < E.length) : behL (fro E) v = behL E v := by
  unfold behL
  rw [fro_len]
  apply List.filter_congr
  intro u hu
  have hu' : u < E.length := by simpa using hu
  rw [Bool.eq_iff_iff, arc_fro]
  exact ⟨fun h => h.2, fun h => ⟨hv, h⟩⟩
theorem filter_range_nodup (n : Nat) (p : Nat → Bool) : ((List.range n).filter p).Nodup := List.Nodup.sublist List.filter_sublist List.nodup_range
theorem bef_nodup (E : List (List Int)) (v : Nat) : (befL E v).Nodup := filter_range_nodup _ _
theorem beh_nodup (E : List (List Int)) (v : Nat) : (behL E v).Nodup := filter_range_nodup _ _
theorem filter_range_lt {n : Nat} {p : Nat → Bool} {u : Nat} (h : u ∈ (List.range n).filter p) : u < n := by simpa using (List.mem_filter.1 h).1

/-- of how many, of those that w waits for, the order has not got -/
def cntN (E : List (List Int)) (o : List Nat) (w : Nat) : Nat := ((befL E w).filter fun u => !o.contains u).length
def may (E : List (List Int)) (o : List Nat) (v : Nat) : Bool := !o.contains v && cntN E o v == 0
def nextV (E : List (List Int)) (o : List Nat) : Option Nat := (List.range E.length).find? (may E o)
def ordF (E : List (List Int)) : Nat → List Nat → List Nat
  | 0, o => o
  | f + 1, o => match nextV E o with
    | none => o
    | some v => ordF E f (o ++ [v])
def order (E : List (List Int)) : List Nat := ordF E E.length []

theorem cnt_zero {E : List (List Int)} {o : List Nat} {w : Nat} : cntN E o w = 0 ↔ ∀ u ∈ befL E w, u ∈ o := by
  unfold cntN
  rw [List.length_eq_zero_iff, List.filter_eq_nil_iff]
  simp
theorem may_iff {E : List (List Int)} {o : List Nat} {v : Nat} : may E o v = true ↔ v ∉ o ∧ ∀ u ∈ befL E v, u ∈ o := by
  unfold may
  rw [Bool.and_eq_true, beq_iff_eq, cnt_zero]
  simp
theorem next_some {E : List (List Int)} {o : List Nat} {v : Nat} (h : nextV E o = some v) : v < E.length ∧ v ∉ o ∧ (∀ u ∈ befL E v, u ∈ o) := by
  have h1 := List.find?_some h
  have h2 := List.mem_of_find?_eq_some h
  exact ⟨by simpa using h2, may_iff.1 h1⟩
theorem next_none {E : List (List Int)} {o : List Nat} (h : nextV E o = none) {v : Nat} (hv : v < E.length) : may E o v = false := by
  have := List.find?_eq_none.1 h v (by simpa using hv)
  simpa using this

/-- as far as it goes: each once, each behind what it waits for -/
structure Ord (E : List (List Int)) (o : List Nat) : Prop where
  nodup : o.Nodup
  lt : ∀ v ∈ o, v < E.length
  behind : ∀ (i v : Nat), o[i]? = some v → ∀ u ∈ befL E v, u ∈ o.take i
theorem Ord.nil (E : List (List Int)) : Ord E [] := ⟨List.nodup_nil, (fun v h => by cases h), (fun i v h => by simp at h)⟩
theorem Ord.snoc {E : List (List Int)} {o : List Nat} {v : Nat} (h : Ord E o) (hv : nextV E o = some v) : Ord E (o ++ [v]) := by
  obtain ⟨h1, h2, h3⟩ := next_some hv
  refine ⟨?_, ?_, ?_⟩
  · rw [List.nodup_append]
    refine ⟨h.nodup, by simp, ?_⟩
    intro a ha b hb e
    simp at hb
    subst hb e
    exact h2 ha
  · intro u hu
    rcases List.mem_append.1 hu with a | a
    · exact h.lt u a
    · simp at a; subst a; exact h1
  · intro i x hx u hu
    rcases Nat.lt_or_ge i o.length with hi | hi
    · rw [List.getElem?_append_left hi] at hx
      have := h.behind i x hx u hu
      rw [List.take_append_of_le_length (by omega)]
      exact this
    · rw [List.getElem?_append_right hi] at hx
      have hi' : i = o.length := by
        have := (List.getElem?_eq_some_iff.1 hx).1
        simp at this; omega
      subst hi'
      simp at hx
      subst hx
      rw [List.take_append_of_le_length (by omega), List.take_of_length_le (by omega)]
      exact h3 u hu
theorem sub_len : ∀ {a b : List Nat}, a.Nodup → (∀ x ∈ a, x ∈ b) → a.length ≤ b.length
  | [], b, _, _ => Nat.zero_le _
  | x :: a, b, h, hs => by
    have hx : x ∈ b := hs x (by simp)
    have h' := List.nodup_cons.1 h
    have := sub_len (a := a) (b := b.erase x) h'.2 fun y hy => by
      have hne : y ≠ x := fun e => h'.1 (by rw [← e]; exact hy)
      exact (List.mem_erase_of_ne hne).2 (hs y (by simp [hy]))
    rw [List.length_erase_of_mem hx] at this
    have : 0 < b.length := List.length_pos_of_mem hx
    simp; omega
theorem nodup_len {l : List Nat} {n : Nat} (h : l.Nodup) (hlt : ∀ x ∈ l, x < n) : l.length ≤ n := by
  have : l.length ≤ (List.range n).length := sub_len h fun x hx => by simpa using hlt x hx
  simpa using this
theorem Ord.len {E : List (List Int)} {o : List Nat} (h : Ord E o) : o.length ≤ E.length := nodup_len h.nodup h.lt
theorem ordF_ord {E : List (List Int)} : ∀ (f : Nat) (o : List Nat), Ord E o → Ord E (ordF E f o)
  | 0, o, h => h
  | f + 1, o, h => by
    unfold ordF
    split
    · exact h
    · exact ordF_ord f _ (h.snoc ‹_›)
theorem order_ord (E : List (List Int)) : Ord E (order E) := ordF_ord _ _ (Ord.nil E)
theorem ordF_stop {E : List (List Int)} : ∀ (f : Nat) (o : List Nat), Ord E o → E.length ≤ f + o.length → nextV E (ordF E f o) = none
  | 0, o, h, hl => by
    unfold ordF
    cases hn : nextV E o with
    | none => rfl
    | some v =>
      have := (h.snoc hn).len
      simp at this; omega
  | f + 1, o, h, hl => by
    unfold ordF
    split
    · assumption
    · exact ordF_stop f _ (h.snoc ‹_›) (by simp; omega)
theorem order_stop (E : List (List Int)) : nextV E (order E) = none := ordF_stop _ _ (Ord.nil E) (by simp)
/-- a rank that falls along the arcs: all come -/
theorem order_full {E : List (List Int)} (r : Nat → Nat) (h : ∀ v u, arc E v u = true → u < E.length → r u < r v) : (order E).length = E.length := by
  have hall : ∀ k v, r v ≤ k → v < E.length → v ∈ order E := by
    intro k
    induction k with
    | zero =>
      intro v hk hv
      have hm := next_none (order_stop E) hv
      rw [Bool.eq_false_iff] at hm
      rcases Classical.em (v ∈ order E) with hin | hin
      · exact hin
      · exfalso
        apply hm
        rw [may_iff]
        refine ⟨hin, fun u hu => ?_⟩
        have := h v u (bef_mem.1 hu).2 (bef_mem.1 hu).1
        omega
    | succ k ih =>
      intro v hk hv
      have hm := next_none (order_stop E) hv
      rw [Bool.eq_false_iff] at hm
      rcases Classical.em (v ∈ order E) with hin | hin
      · exact hin
      · exfalso
        apply hm
        rw [may_iff]
        refine ⟨hin, fun u hu => ?_⟩
        have := h v u (bef_mem.1 hu).2 (bef_mem.1 hu).1
        exact ih u (by omega) (bef_mem.1 hu).1
  have h1 := (order_ord E).len
  have h2 : (List.range E.length).length ≤ (order E).length := sub_len List.nodup_range fun x hx => hall (r x) x (Nat.le_refl _) (by simpa using hx)
  simp at h2
  omega

end Go.Proofs.YtaokbjacfdipmaaDoor
