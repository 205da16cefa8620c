/- Layer Dag over, for a seat that needs several layers: DagPure, DagBits, DagOrd, DagPlus. -/
import Derived.Lib.Hide
import Derived.Lib.TrailingZeros
namespace Go.Proofs.Ytapojmniokdjfaa.Dag
set_option maxRecDepth 100000
/-! Layer 5 in plain words: rows of numbers, arcs, rows turned round, the order. -/
set_option linter.unusedVariables false

def num (l : List Nat) : List Int := l.map fun (n : Nat) => (n : Int)
theorem num_len (l : List Nat) : (num l).length = l.length := by simp [num]
theorem num_mem {l : List Nat} {u : Nat} : (u : Int) ∈ num l ↔ u ∈ l := by
  simp only [num, List.mem_map]
  constructor
  · rintro ⟨x, hx, e⟩
    have : x = u := by omega
    rwa [← this]
  · exact fun h => ⟨u, h, rfl⟩
theorem num_mem' {l : List Nat} {x : Int} : x ∈ num l ↔ ∃ u : Nat, x = (u : Int) ∧ u ∈ l := by
  simp only [num, List.mem_map]
  exact ⟨fun ⟨u, h, e⟩ => ⟨u, e.symm, h⟩, fun ⟨u, e, h⟩ => ⟨u, h, e.symm⟩⟩
theorem num_get {l : List Nat} {k : Nat} : (num l)[k]? = l[k]?.map fun (n : Nat) => (n : Int) := by unfold num; rw [List.getElem?_map]
theorem num_app (a b : List Nat) : num (a ++ b) = num a ++ num b := by simp [num]
theorem num_inj {a b : List Nat} (h : num a = num b) : a = b := by
  unfold num at h
  exact (List.map_inj_right (f := fun n : Nat => (n : Int)) (fun x y e => by have e' : (x : Int) = (y : Int) := e; omega)).1 h

def row (E : List (List Int)) (v : Nat) : List Int := E[v]?.getD []
def Valid (E : List (List Int)) : Prop := ∀ l ∈ E, ∀ x ∈ l, 0 ≤ x ∧ x < E.length
def arc (E : List (List Int)) (v u : Nat) : Bool := decide ((u : Int) ∈ row E v)
theorem arc_iff {E : List (List Int)} {v u : Nat} : arc E v u = true ↔ (u : Int) ∈ row E v := by simp [arc]
theorem row_out {E : List (List Int)} {v : Nat} (h : E.length ≤ v) : row E v = [] := by
  unfold row; rw [List.getElem?_eq_none h]; rfl
theorem row_some {E : List (List Int)} {v : Nat} {l : List Int} (h : E[v]? = some l) : row E v = l := by unfold row; rw [h]; rfl
theorem row_get {E : List (List Int)} {v : Nat} (h : v < E.length) : E[v]? = some (row E v) := by
  unfold row; rw [List.getElem?_eq_getElem h]; rfl
theorem row_mem {E : List (List Int)} {v : Nat} (h : v < E.length) : row E v ∈ E := List.mem_of_getElem? (row_get h)
theorem arc_lt {E : List (List Int)} {v u : Nat} (h : arc E v u = true) : v < E.length := by
  rcases Nat.lt_or_ge v E.length with a | a
  · exact a
  · rw [arc_iff, row_out a] at h; simp at h
theorem Valid.at_ {E : List (List Int)} (h : Valid E) {v : Nat} {x : Int} (hx : x ∈ row E v) : ∃ u : Nat, x = (u : Int) ∧ u < E.length ∧ v < E.length := by
  have hv : v < E.length := by
    rcases Nat.lt_or_ge v E.length with a | a
    · exact a
    · rw [row_out a] at hx; simp at hx
  have := h _ (row_mem hv) x hx
  exact ⟨x.toNat, by omega, by omega, hv⟩
theorem Valid.arc {E : List (List Int)} (h : Valid E) {v u : Nat} (ha : arc E v u = true) : u < E.length := by
  obtain ⟨k, e, hk, _⟩ := h.at_ (arc_iff.1 ha)
  omega

/-- what v waits for; what waits for v -/
def befL (E : List (List Int)) (v : Nat) : List Nat := (List.range E.length).filter fun u => arc E v u
def behL (E : List (List Int)) (v : Nat) : List Nat := (List.range E.length).filter fun w => arc E w v
theorem bef_mem {E : List (List Int)} {v u : Nat} : u ∈ befL E v ↔ u < E.length ∧ arc E v u = true := by simp [befL]
theorem beh_mem {E : List (List Int)} {v w : Nat} : w ∈ behL E v ↔ w < E.length ∧ arc E w v = true := by simp [behL]
def rev (E : List (List Int)) : List (List Int) := (List.range E.length).map fun v => num (behL E v)
def fro (E : List (List Int)) : List (List Int) := (List.range E.length).map fun v => num (befL E v)
theorem rev_len (E : List (List Int)) : (rev E).length = E.length := by simp [rev]
theorem fro_len (E : List (List Int)) : (fro E).length = E.length := by simp [fro]
theorem rev_get {E : List (List Int)} {v : Nat} (h : v < E.length) : (rev E)[v]? = some (num (behL E v)) := by
  unfold rev; rw [List.getElem?_map, List.getElem?_range h]; rfl
theorem fro_get {E : List (List Int)} {v : Nat} (h : v < E.length) : (fro E)[v]? = some (num (befL E v)) := by
  unfold fro; rw [List.getElem?_map, List.getElem?_range h]; rfl
theorem beh_out {E : List (List Int)} {v : Nat} (hE : Valid E) (h : E.length ≤ v) : behL E v = [] := by
  unfold behL
  rw [List.filter_eq_nil_iff]
  intro w _ ha
  have := hE.arc ha
  omega
theorem bef_out {E : List (List Int)} {v : Nat} (h : E.length ≤ v) : befL E v = [] := by
  unfold befL
  rw [List.filter_eq_nil_iff]
  intro w _ ha
  have := arc_lt ha
  omega
theorem rev_row {E : List (List Int)} (v : Nat) (h : v < E.length) : row (rev E) v = num (behL E v) := row_some (rev_get h)
theorem fro_row {E : List (List Int)} (v : Nat) (h : v < E.length) : row (fro E) v = num (befL E v) := row_some (fro_get h)
theorem valid_of_nums {n : Nat} {f : Nat → List Nat} (hf : ∀ v, v < n → ∀ u ∈ f v, u < n) : Valid ((List.range n).map fun v => num (f v)) := by
  intro l hl x hx
  obtain ⟨v, hv, rfl⟩ := List.mem_map.1 hl
  obtain ⟨u, rfl, hu⟩ := num_mem'.1 hx
  have := hf v (by simpa using hv) u hu
  simp; omega
theorem valid_rev (E : List (List Int)) : Valid (rev E) := valid_of_nums (f := behL E) fun v _ u hu => (beh_mem.1 hu).1
theorem valid_fro (E : List (List Int)) : Valid (fro E) := valid_of_nums (f := befL E) fun v _ u hu => (bef_mem.1 hu).1
theorem arc_rev {E : List (List Int)} {v u : Nat} (hv : v < E.length) : arc (rev E) v u = true ↔ u < E.length ∧ arc E u v = true := by
  rw [arc_iff, rev_row v hv, num_mem, beh_mem]
theorem arc_fro {E : List (List Int)} {v u : Nat} : arc (fro E) v u = true ↔ u < E.length ∧ arc E v u = true := by
  rcases Nat.lt_or_ge v E.length with hv | hv
  · rw [arc_iff, fro_row v hv, num_mem, bef_mem]
  · constructor
    · intro h; have := arc_lt h; rw [fro_len] at this; omega
    · intro ⟨_, h⟩; have := arc_lt h; omega
theorem rev_rev (E : List (List Int)) : rev (rev E) = fro E := by
  unfold rev fro
  rw [show (List.map (fun v => num (behL E v)) (List.range E.length)).length = E.length from by simp]
  apply List.map_congr_left
  intro v hv
  have hv' : v < E.length := by simpa using hv
  congr 1
  show (List.range (rev E).length).filter (fun w => arc (rev E) w v) = _
  rw [rev_len]
  apply List.filter_congr
  intro w hw
  have hw' : w < E.length := by simpa using hw
  rw [Bool.eq_iff_iff, arc_rev hw']
  exact ⟨fun h => h.2, fun h => ⟨hv', h⟩⟩
/-- of rows that are in order and valid, the arcs are the rows -/
theorem bef_fro (E : List (List Int)) (v : Nat) : befL (fro E) v = befL E v := by
  unfold befL
  rw [fro_len]
  apply List.filter_congr
  intro u hu
  have hu' : u < E.length := by simpa using hu
  rw [Bool.eq_iff_iff, arc_fro]
  exact ⟨fun h => h.2, fun h => ⟨hu', h⟩⟩
theorem beh_fro (E : List (List Int)) (v : Nat) (hv : v < E.length) : behL (fro E) v = behL E v := by
  unfold behL
  rw [fro_len]
  apply List.filter_congr
  intro u hu
  have hu' : u < E.length := by simpa using hu
  rw [Bool.eq_iff_iff, arc_fro]
  exact ⟨fun h => h.2, fun h => ⟨hv, h⟩⟩
theorem filter_range_nodup (n : Nat) (p : Nat → Bool) : ((List.range n).filter p).Nodup := List.Nodup.sublist List.filter_sublist List.nodup_range
theorem bef_nodup (E : List (List Int)) (v : Nat) : (befL E v).Nodup := filter_range_nodup _ _
theorem beh_nodup (E : List (List Int)) (v : Nat) : (behL E v).Nodup := filter_range_nodup _ _
theorem filter_range_lt {n : Nat} {p : Nat → Bool} {u : Nat} (h : u ∈ (List.range n).filter p) : u < n := by simpa using (List.mem_filter.1 h).1

/-- of how many, of those that w waits for, the order has not got -/
def cntN (E : List (List Int)) (o : List Nat) (w : Nat) : Nat := ((befL E w).filter fun u => !o.contains u).length
def may (E : List (List Int)) (o : List Nat) (v : Nat) : Bool := !o.contains v && cntN E o v == 0
def nextV (E : List (List Int)) (o : List Nat) : Option Nat := (List.range E.length).find? (may E o)
def ordF (E : List (List Int)) : Nat → List Nat → List Nat
  | 0, o => o
  | f + 1, o => match nextV E o with
    | none => o
    | some v => ordF E f (o ++ [v])
def order (E : List (List Int)) : List Nat := ordF E E.length []

theorem cnt_zero {E : List (List Int)} {o : List Nat} {w : Nat} : cntN E o w = 0 ↔ ∀ u ∈ befL E w, u ∈ o := by
  unfold cntN
  rw [List.length_eq_zero_iff, List.filter_eq_nil_iff]
  simp
theorem may_iff {E : List (List Int)} {o : List Nat} {v : Nat} : may E o v = true ↔ v ∉ o ∧ ∀ u ∈ befL E v, u ∈ o := by
  unfold may
  rw [Bool.and_eq_true, beq_iff_eq, cnt_zero]
  simp
theorem next_some {E : List (List Int)} {o : List Nat} {v : Nat} (h : nextV E o = some v) : v < E.length ∧ v ∉ o ∧ (∀ u ∈ befL E v, u ∈ o) := by
  have h1 := List.find?_some h
  have h2 := List.mem_of_find?_eq_some h
  exact ⟨by simpa using h2, may_iff.1 h1⟩
theorem next_none {E : List (List Int)} {o : List Nat} (h : nextV E o = none) {v : Nat} (hv : v < E.length) : may E o v = false := by
  have := List.find?_eq_none.1 h v (by simpa using hv)
  simpa using this

/-- as far as it goes: each once, each behind what it waits for -/
structure Ord (E : List (List Int)) (o : List Nat) : Prop where
  nodup : o.Nodup
  lt : ∀ v ∈ o, v < E.length
  behind : ∀ (i v : Nat), o[i]? = some v → ∀ u ∈ befL E v, u ∈ o.take i
theorem Ord.nil (E : List (List Int)) : Ord E [] := ⟨List.nodup_nil, (fun v h => by cases h), (fun i v h => by simp at h)⟩
theorem Ord.snoc {E : List (List Int)} {o : List Nat} {v : Nat} (h : Ord E o) (hv : nextV E o = some v) : Ord E (o ++ [v]) := by
  obtain ⟨h1, h2, h3⟩ := next_some hv
  refine ⟨?_, ?_, ?_⟩
  · rw [List.nodup_append]
    refine ⟨h.nodup, by simp, ?_⟩
    intro a ha b hb e
    simp at hb
    subst hb e
    exact h2 ha
  · intro u hu
    rcases List.mem_append.1 hu with a | a
    · exact h.lt u a
    · simp at a; subst a; exact h1
  · intro i x hx u hu
    rcases Nat.lt_or_ge i o.length with hi | hi
    · rw [List.getElem?_append_left hi] at hx
      have := h.behind i x hx u hu
      rw [List.take_append_of_le_length (by omega)]
      exact this
    · rw [List.getElem?_append_right hi] at hx
      have hi' : i = o.length := by
        have := (List.getElem?_eq_some_iff.1 hx).1
        simp at this; omega
      subst hi'
      simp at hx
      subst hx
      rw [List.take_append_of_le_length (by omega), List.take_of_length_le (by omega)]
      exact h3 u hu
theorem sub_len : ∀ {a b : List Nat}, a.Nodup → (∀ x ∈ a, x ∈ b) → a.length ≤ b.length
  | [], b, _, _ => Nat.zero_le _
  | x :: a, b, h, hs => by
    have hx : x ∈ b := hs x (by simp)
    have h' := List.nodup_cons.1 h
    have := sub_len (a := a) (b := b.erase x) h'.2 fun y hy => by
      have hne : y ≠ x := fun e => h'.1 (by rw [← e]; exact hy)
      exact (List.mem_erase_of_ne hne).2 (hs y (by simp [hy]))
    rw [List.length_erase_of_mem hx] at this
    have : 0 < b.length := List.length_pos_of_mem hx
    simp; omega
theorem nodup_len {l : List Nat} {n : Nat} (h : l.Nodup) (hlt : ∀ x ∈ l, x < n) : l.length ≤ n := by
  have : l.length ≤ (List.range n).length := sub_len h fun x hx => by simpa using hlt x hx
  simpa using this
theorem Ord.len {E : List (List Int)} {o : List Nat} (h : Ord E o) : o.length ≤ E.length := nodup_len h.nodup h.lt
theorem ordF_ord {E : List (List Int)} : ∀ (f : Nat) (o : List Nat), Ord E o → Ord E (ordF E f o)
  | 0, o, h => h
  | f + 1, o, h => by
    unfold ordF
    split
    · exact h
    · exact ordF_ord f _ (h.snoc ‹_›)
theorem order_ord (E : List (List Int)) : Ord E (order E) := ordF_ord _ _ (Ord.nil E)
theorem ordF_stop {E : List (List Int)} : ∀ (f : Nat) (o : List Nat), Ord E o → E.length ≤ f + o.length → nextV E (ordF E f o) = none
  | 0, o, h, hl => by
    unfold ordF
    cases hn : nextV E o with
    | none => rfl
    | some v =>
      have := (h.snoc hn).len
      simp at this; omega
  | f + 1, o, h, hl => by
    unfold ordF
    split
    · assumption
    · exact ordF_stop f _ (h.snoc ‹_›) (by simp; omega)
theorem order_stop (E : List (List Int)) : nextV E (order E) = none := ordF_stop _ _ (Ord.nil E) (by simp)
/-- a rank that falls along the arcs: all come -/
theorem order_full {E : List (List Int)} (r : Nat → Nat) (h : ∀ v u, arc E v u = true → u < E.length → r u < r v) : (order E).length = E.length := by
  have hall : ∀ k v, r v ≤ k → v < E.length → v ∈ order E := by
    intro k
    induction k with
    | zero =>
      intro v hk hv
      have hm := next_none (order_stop E) hv
      rw [Bool.eq_false_iff] at hm
      rcases Classical.em (v ∈ order E) with hin | hin
      · exact hin
      · exfalso
        apply hm
        rw [may_iff]
        refine ⟨hin, fun u hu => ?_⟩
        have := h v u (bef_mem.1 hu).2 (bef_mem.1 hu).1
        omega
    | succ k ih =>
      intro v hk hv
      have hm := next_none (order_stop E) hv
      rw [Bool.eq_false_iff] at hm
      rcases Classical.em (v ∈ order E) with hin | hin
      · exact hin
      · exfalso
        apply hm
        rw [may_iff]
        refine ⟨hin, fun u hu => ?_⟩
        have := h v u (bef_mem.1 hu).2 (bef_mem.1 hu).1
        exact ih u (by omega) (bef_mem.1 hu).1
  have h1 := (order_ord E).len
  have h2 : (List.range E.length).length ≤ (order E).length := sub_len List.nodup_range fun x hx => hall (r x) x (Nat.le_refl _) (by simpa using hx)
  simp at h2
  omega

/-! The numbers that a word holds, in order; the lowest of them. -/
set_option linter.unusedVariables false

def bitsL (n wd : Nat) : List Nat := (List.range n).filter fun i => wd.testBit i
theorem bitsL_mem {n wd i : Nat} : i ∈ bitsL n wd ↔ i < n ∧ wd.testBit i = true := by simp [bitsL]
theorem bitsL_zero (n : Nat) : bitsL n 0 = [] := by simp [bitsL]
theorem bitsL_lt {n wd i : Nat} (h : i ∈ bitsL n wd) : i < n := (bitsL_mem.1 h).1
theorem bitsL_len (n wd : Nat) : (bitsL n wd).length ≤ n := by
  have := List.length_filter_le (fun i => wd.testBit i) (List.range n)
  simpa [bitsL] using this

theorem filter_least {n c : Nat} {p q : Nat → Bool} (hc : c < n) (hp : p c = true) (hl : ∀ i, i < c → p i = false) (hq : ∀ i, i < n → q i = (p i && decide (i ≠ c))) :
    (List.range n).filter p = c :: (List.range n).filter q := by
  obtain ⟨k, rfl⟩ : ∃ k, n = c + (k + 1) := ⟨n - c - 1, by omega⟩
  have e : List.range (c + (k + 1)) = List.range c ++ (c :: (List.range k).map fun x => c + (x + 1)) := by
    rw [List.range_add, List.range_succ_eq_map, List.map_cons, List.map_map]
    rfl
  rw [e, List.filter_append, List.filter_append]
  have e1 : (List.range c).filter p = [] := by
    rw [List.filter_eq_nil_iff]; intro i hi; rw [hl i (by simpa using hi)]; simp
  have e2 : (List.range c).filter q = [] := by
    rw [List.filter_eq_nil_iff]; intro i hi
    have hi' : i < c := by simpa using hi
    rw [hq i (by omega), hl i hi']; simp
  have e3 : q c = false := by rw [hq c hc]; simp
  rw [e1, e2, List.nil_append, List.nil_append, List.filter_cons_of_pos hp, List.filter_cons_of_neg (by simp [e3])]
  congr 1
  apply List.filter_congr
  intro i hi
  obtain ⟨x, hx, rfl⟩ := List.mem_map.1 hi
  have hx' : x < k := by simpa using hx
  rw [hq _ (by omega)]
  have : decide (c + (x + 1) ≠ c) = true := by simp
  rw [this, Bool.and_true]

theorem lowbit {wd : Nat} (h0 : wd ≠ 0) (h : wd < 2 ^ 64) :
    wd.testBit (Lib.ctz 64 wd) = true ∧ (∀ i, i < Lib.ctz 64 wd → wd.testBit i = false) ∧ (∀ i, (wd &&& (wd - 1)).testBit i = (wd.testBit i && decide (i ≠ Lib.ctz 64 wd))) := by
  obtain ⟨m, hm, hk⟩ := Lib.ctzFrom_spec 64 wd (by omega) h
  have e : Lib.ctz 64 wd = Lib.ctzFrom 64 wd := by simp [Lib.ctz, h0]
  rw [e]
  generalize Lib.ctzFrom 64 wd = c at hm hk
  have hb : ∀ i, wd.testBit i = (decide (c ≤ i) && (2 * m + 1).testBit (i - c)) := by
    intro i; rw [hm, Nat.mul_comm, Nat.testBit_mul_two_pow]
  have hpos : 0 < 2 ^ c := Nat.pow_pos (by decide)
  have e1 : wd - 1 = 2 ^ c * (2 * m) + (2 ^ c - 1) := by
    rw [hm, Nat.mul_add, Nat.mul_one]; omega
  have hb' : ∀ i, (wd - 1).testBit i = if i < c then (2 ^ c - 1).testBit i else (2 * m).testBit (i - c) := by
    intro i; rw [e1, Nat.testBit_two_pow_mul_add _ (by omega)]
  refine ⟨?_, ?_, ?_⟩
  · rw [hb]; simp [Nat.testBit_zero]
  · intro i hi; rw [hb]; simp; omega
  · intro i
    rw [Nat.testBit_and, hb']
    by_cases hic : i < c
    · rw [hb i]
      have : decide (c ≤ i) = false := by simp; omega
      rw [this]; simp
    · rw [if_neg hic]
      by_cases he : i = c
      · subst he
        simp [Nat.testBit_zero]
      · rw [hb i]
        obtain ⟨j, rfl⟩ : ∃ j, i = c + (j + 1) := ⟨i - c - 1, by omega⟩
        have e3 : c + (j + 1) - c = j + 1 := by omega
        rw [e3, Nat.testBit_succ, Nat.testBit_succ]
        have d1 : (2 * m + 1) / 2 = m := by omega
        have d2 : (2 * m) / 2 = m := by omega
        rw [d1, d2]
        have : decide (c ≤ c + (j + 1)) = true := by simp
        rw [this]
        simp

theorem bitsL_step {n wd : Nat} (h0 : wd ≠ 0) (h : wd < 2 ^ n) (hn : n ≤ 64) :
    bitsL n wd = Lib.ctz 64 wd :: bitsL n (wd &&& (wd - 1)) ∧ Lib.ctz 64 wd < n ∧ wd &&& (wd - 1) < wd := by
  have h64 : wd < 2 ^ 64 := Nat.lt_of_lt_of_le h (Nat.pow_le_pow_right (by decide) hn)
  obtain ⟨h1, h2, h3⟩ := lowbit h0 h64
  have hc : Lib.ctz 64 wd < n := by
    rcases Nat.lt_or_ge (Lib.ctz 64 wd) n with a | a
    · exact a
    · rw [Nat.testBit_lt_two_pow (Nat.lt_of_lt_of_le h (Nat.pow_le_pow_right (by decide) a))] at h1; cases h1
  refine ⟨?_, hc, ?_⟩
  · exact filter_least hc h1 h2 fun i _ => h3 i
  · have h4 := Nat.and_le_right (n := wd) (m := wd - 1)
    omega

/-- a word that holds just what p says -/
theorem bitsL_of {n wd : Nat} {p : Nat → Bool} (h : ∀ i, i < n → wd.testBit i = p i) : bitsL n wd = (List.range n).filter p := by
  apply List.filter_congr
  intro i hi
  exact h i (by simpa using hi)
theorem or_bit (wd u i : Nat) : (wd ||| 2 ^ u).testBit i = (wd.testBit i || decide (i = u)) := by
  rw [Nat.testBit_or, Nat.testBit_two_pow]
  congr 1
  rw [decide_eq_decide]; exact eq_comm
theorem or_lt {n wd u : Nat} (h : wd < 2 ^ n) (hu : u < n) : wd ||| 2 ^ u < 2 ^ n := Nat.or_lt_two_pow h (Nat.pow_lt_pow_right (by decide) hu)
theorem clear_bit (wd u i : Nat) (hwd : wd < 2 ^ 64) (hu : u < 64) : (wd &&& (18446744073709551615 - 2 ^ u)).testBit i = (wd.testBit i && decide (i ≠ u)) := by
  rw [Nat.testBit_and]
  have hp : 2 ^ u < 2 ^ 64 := Nat.pow_lt_pow_right (by decide) hu
  have e : 18446744073709551615 - 2 ^ u = 2 ^ 64 - (2 ^ u + 1) := by
    have : (2 : Nat) ^ 64 = 18446744073709551616 := by decide
    omega
  rw [e, Nat.testBit_two_pow_sub_succ hp, Nat.testBit_two_pow]
  by_cases hi : i < 64
  · by_cases he : u = i
    · subst he; simp
    · have : i ≠ u := fun e => he e.symm
      simp [hi, he, this]
  · rw [Nat.testBit_lt_two_pow (Nat.lt_of_lt_of_le hwd (Nat.pow_le_pow_right (by decide) (by omega)))]
    simp
theorem clear_lt {n wd u : Nat} (h : wd < 2 ^ n) : wd &&& (18446744073709551615 - 2 ^ u) < 2 ^ n := Nat.lt_of_le_of_lt Nat.and_le_left h
theorem word_zero {n wd : Nat} (h : wd < 2 ^ n) : wd = 0 ↔ bitsL n wd = [] := by
  constructor
  · rintro rfl; exact bitsL_zero n
  · intro hb
    apply Nat.eq_of_testBit_eq
    intro i
    rw [Nat.zero_testBit]
    rcases Nat.lt_or_ge i n with a | a
    · cases ht : wd.testBit i with
      | false => rfl
      | true =>
        have : i ∈ bitsL n wd := bitsL_mem.2 ⟨a, ht⟩
        rw [hb] at this; cases this
    · exact Nat.testBit_lt_two_pow (Nat.lt_of_lt_of_le h (Nat.pow_le_pow_right (by decide) a))

/-! What arrange counts, in plain words. -/
set_option linter.unusedVariables false

theorem filter_count {x : Nat} {p q : Nat → Bool} : ∀ {L : List Nat}, L.Nodup → p x = true → q x = false → (∀ u, u ≠ x → q u = p u) → (L.filter p).length = (L.filter q).length + if x ∈ L then 1 else 0
  | [], _, _, _, _ => by simp
  | y :: L, hn, hp, hq, h => by
    have hn' := List.nodup_cons.1 hn
    have ih := filter_count hn'.2 hp hq h
    by_cases hy : y = x
    · subst hy
      rw [List.filter_cons_of_pos hp, List.filter_cons_of_neg (by simp [hq])]
      rw [if_neg hn'.1] at ih
      rw [if_pos (by simp)]
      simp; omega
    · have hm : (x ∈ y :: L) ↔ x ∈ L := by simp; intro e; exact absurd e.symm hy
      have e := h y hy
      by_cases hpy : p y = true
      · rw [List.filter_cons_of_pos hpy, List.filter_cons_of_pos (by rw [e]; exact hpy)]
        simp only [List.length_cons, hm]
        omega
      · rw [List.filter_cons_of_neg hpy, List.filter_cons_of_neg (by rw [e]; exact hpy)]
        simp only [hm]
        exact ih
theorem cnt_snoc {E : List (List Int)} {o : List Nat} {x : Nat} (hx : x ∉ o) (i : Nat) : cntN E o i = cntN E (o ++ [x]) i + if x ∈ befL E i then 1 else 0 := by
  refine filter_count (bef_nodup E i) (by simpa using hx) (by simp) fun u hu => ?_
  simp [hu]
theorem cnt_nil (E : List (List Int)) (i : Nat) : cntN E [] i = (befL E i).length := by
  unfold cntN
  rw [List.filter_eq_self.2 (by simp)]

theorem range_map_get {α : Type} {n i : Nat} (f : Nat → α) (h : i < n) : ((List.range n).map f)[i]? = some (f i) := by
  rw [List.getElem?_map, List.getElem?_range h]; rfl
theorem range_map_set {α : Type} {n w : Nat} {f g : Nat → α} {y : α} (hw : w < n) (hy : y = g w) (h : ∀ i, i < n → i ≠ w → g i = f i) : ((List.range n).map f).set w y = (List.range n).map g := by
  apply List.ext_getElem?
  intro i
  rcases Nat.lt_or_ge i n with hi | hi
  · rw [List.getElem?_set, range_map_get g hi]
    by_cases e : w = i
    · subst e; simp [hi, hy]
    · rw [if_neg e, range_map_get f hi, h i hi (fun e' => e e'.symm)]
  · rw [List.getElem?_eq_none (by simpa using hi), List.getElem?_eq_none (by simpa using hi)]

def missL (E : List (List Int)) (o : List Nat) : List Int := (List.range E.length).map fun i => (cntN E o i : Int)
def midM (E : List (List Int)) (o : List Nat) (P : List Nat) : List Int := (List.range E.length).map fun i => (cntN E o i : Int) - if i ∈ P then 1 else 0
def midB (E : List (List Int)) (o : List Nat) (x : Nat) (P : List Nat) (i : Nat) : Bool := (decide (i ≠ x) && may E o i) || (decide (i ∈ P) && decide (cntN E o i = 1))

theorem mid_start (E : List (List Int)) (o : List Nat) : midM E o [] = missL E o := by simp [midM, missL]
theorem mid_get {E : List (List Int)} {o P : List Nat} {w : Nat} (hw : w < E.length) (hP : w ∉ P) : (midM E o P)[w]? = some (cntN E o w : Int) := by
  unfold midM; rw [range_map_get _ hw, if_neg hP]; simp
theorem mid_step {E : List (List Int)} {o P : List Nat} {w : Nat} (hw : w < E.length) : (midM E o P).set w ((cntN E o w : Int) - 1) = midM E o (P ++ [w]) := by
  refine range_map_set hw (by simp) fun i hi hne => ?_
  simp [hne]
theorem mid_end {E : List (List Int)} {o : List Nat} {x : Nat} (hx : x ∉ o) (hx' : x < E.length) : midM E o (behL E x) = missL E (o ++ [x]) := by
  apply List.map_congr_left
  intro i hi
  have hi' : i < E.length := by simpa using hi
  have h := cnt_snoc hx (E := E) i
  have e : (i ∈ behL E x) ↔ x ∈ befL E i := by rw [beh_mem, bef_mem]; exact ⟨fun h => ⟨hx', h.2⟩, fun h => ⟨hi', h.2⟩⟩
  by_cases hm : x ∈ befL E i
  · rw [if_pos hm] at h; rw [if_pos (e.2 hm)]; omega
  · rw [if_neg hm] at h; rw [if_neg (fun h => hm (e.1 h))]; omega
theorem midB_step1 {E : List (List Int)} {o P : List Nat} {x w : Nat} (h1 : cntN E o w = 1) (i : Nat) : (midB E o x P i || decide (i = w)) = midB E o x (P ++ [w]) i := by
  unfold midB
  by_cases e : i = w
  · subst e; simp [h1]
  · simp [e]
theorem midB_step2 {E : List (List Int)} {o P : List Nat} {x w : Nat} (h1 : cntN E o w ≠ 1) (i : Nat) : midB E o x P i = midB E o x (P ++ [w]) i := by
  unfold midB
  by_cases e : i = w
  · subst e; simp [h1]
  · simp [e]
theorem midB_end {E : List (List Int)} {o : List Nat} {x : Nat} (ho : Ord E o) (hx : may E o x = true) (hx' : x < E.length) {i : Nat} (hi : i < E.length) : midB E o x (behL E x) i = may E (o ++ [x]) i := by
  obtain ⟨h1, h2⟩ := may_iff.1 hx
  have e : (i ∈ behL E x) ↔ x ∈ befL E i := by rw [beh_mem, bef_mem]; exact ⟨fun h => ⟨hx', h.2⟩, fun h => ⟨hi, h.2⟩⟩
  have hc := cnt_snoc h1 (E := E) i
  have hself : x ∉ befL E x := fun h => h1 (h2 x h)
  by_cases hix : i = x
  · subst hix
    have : i ∉ behL E i := fun h => hself (e.1 h)
    simp [midB, may, this]
  · by_cases hm : x ∈ befL E i
    · rw [if_pos hm] at hc
      have hio : i ∉ o := by
        intro h
        obtain ⟨k, hk⟩ := List.getElem?_of_mem h
        exact h1 (List.mem_of_mem_take (ho.behind k i hk x hm))
      have hmay : may E o i = false := by
        rw [Bool.eq_false_iff]; intro h; exact h1 ((may_iff.1 h).2 x hm)
      have hb : i ∈ behL E x := e.2 hm
      have e1 : midB E o x (behL E x) i = decide (cntN E o i = 1) := by unfold midB; rw [hmay]; simp [hb]
      have hio' : (o ++ [x]).contains i = false := by simp [hio, hix]
      have e2 : may E (o ++ [x]) i = (cntN E (o ++ [x]) i == 0) := by unfold may; rw [hio']; rfl
      rw [e1, e2, Bool.eq_iff_iff, decide_eq_true_eq, beq_iff_eq]
      omega
    · rw [if_neg hm] at hc
      have hb : i ∉ behL E x := fun h => hm (e.1 h)
      have hcc : cntN E (o ++ [x]) i = cntN E o i := by omega
      simp [midB, may, hb, hix, hcc]
theorem next_of_bits {E : List (List Int)} {o : List Nat} {wd : Nat} (h : ∀ i, i < E.length → wd.testBit i = may E o i) : nextV E o = (bitsL E.length wd).head? := by
  rw [bitsL_of h]
  exact (List.head?_filter ..).symm
theorem ordF_next {E : List (List Int)} {o : List Nat} {x : Nat} (ho : Ord E o) (hx : nextV E o = some x) : ordF E (E.length - o.length) o = ordF E (E.length - (o ++ [x]).length) (o ++ [x]) := by
  have hl := (ho.snoc hx).len
  have e : E.length - o.length = (E.length - (o ++ [x]).length) + 1 := by simp at hl ⊢; omega
  rw [e]
  conv => lhs; unfold ordF
  rw [hx]
theorem ordF_none {E : List (List Int)} {o : List Nat} (f : Nat) (hx : nextV E o = none) : ordF E f o = o := by
  cases f with
  | zero => rfl
  | succ f => unfold ordF; rw [hx]

/-- what the first loop lays -/
def begM (E : List (List Int)) (k : Nat) : List Int := (List.range E.length).map fun i => if i < k then ((befL E i).length : Int) else 0
def begB (E : List (List Int)) (k i : Nat) : Bool := decide (i < k) && decide ((befL E i).length = 0)
theorem begM_zero (E : List (List Int)) : List.replicate E.length (0 : Int) = begM E 0 := by
  unfold begM
  apply List.ext_getElem?
  intro i
  rcases Nat.lt_or_ge i E.length with hi | hi
  · rw [range_map_get _ hi, List.getElem?_replicate, if_pos hi]; simp
  · rw [List.getElem?_eq_none (by simpa using hi), List.getElem?_eq_none (by simpa using hi)]
theorem begM_step {E : List (List Int)} {k : Nat} (hk : k < E.length) : (begM E k).set k ((befL E k).length : Int) = begM E (k + 1) := by
  refine range_map_set hk (by simp) fun i hi hne => ?_
  by_cases h : i < k
  · simp [h, Nat.lt_succ_of_lt h]
  · have : ¬ i < k + 1 := by omega
    simp [h, this]
theorem begM_end (E : List (List Int)) : begM E E.length = missL E [] := by
  apply List.map_congr_left
  intro i hi
  have hi' : i < E.length := by simpa using hi
  rw [if_pos hi', cnt_nil]
theorem begB_step1 {E : List (List Int)} {k : Nat} (h : (befL E k).length = 0) (i : Nat) : (begB E k i || decide (i = k)) = begB E (k + 1) i := by
  unfold begB
  by_cases e : i = k
  · subst e; simp [h]
  · have : decide (i < k + 1) = decide (i < k) := by rw [decide_eq_decide]; omega
    simp [e, this]
theorem begB_step2 {E : List (List Int)} {k : Nat} (h : (befL E k).length ≠ 0) (i : Nat) : begB E k i = begB E (k + 1) i := by
  unfold begB
  by_cases e : i = k
  · subst e
    have : befL E i ≠ [] := fun e => h (by rw [e]; rfl)
    simp [this]
  · have : decide (i < k + 1) = decide (i < k) := by rw [decide_eq_decide]; omega
    rw [this]
theorem begB_end {E : List (List Int)} {i : Nat} (hi : i < E.length) : begB E E.length i = may E [] i := by
  unfold begB may
  rw [cnt_nil]
  have : decide ((befL E i).length = 0) = ((befL E i).length == 0) := by rw [Bool.eq_iff_iff, decide_eq_true_eq, beq_iff_eq]
  rw [this]
  simp [hi]

/-! One arc and more; what is come to from some, over arcs. -/
set_option linter.unusedVariables false

def PlusN (a : Nat → Nat → Bool) : Nat → Nat → Nat → Prop
  | 0, v, u => a v u = true
  | n + 1, v, u => ∃ x, PlusN a n v x ∧ a x u = true
def Plus (a : Nat → Nat → Bool) (v u : Nat) : Prop := ∃ n, PlusN a n v u
theorem Plus.one {a : Nat → Nat → Bool} {v u : Nat} (h : a v u = true) : Plus a v u := ⟨0, h⟩
theorem Plus.step {a : Nat → Nat → Bool} {v x u : Nat} (h : Plus a v x) (k : a x u = true) : Plus a v u := by
  obtain ⟨n, h⟩ := h
  exact ⟨n + 1, x, h, k⟩
theorem Plus.ind {a : Nat → Nat → Bool} {M : Nat → Prop} {v u : Nat} (h : Plus a v u) (h1 : ∀ u, a v u = true → M u) (h2 : ∀ x u, Plus a v x → M x → a x u = true → M u) : M u := by
  obtain ⟨n, h⟩ := h
  induction n generalizing u with
  | zero => exact h1 u h
  | succ n ih =>
    obtain ⟨x, h3, h4⟩ := h
    exact h2 x u ⟨n, h3⟩ (ih h3) h4
theorem Plus.trans {a : Nat → Nat → Bool} {v x u : Nat} (h : Plus a v x) (k : Plus a x u) : Plus a v u :=
  k.ind (M := Plus a v) (fun u h1 => h.step h1) fun y u _ ih h1 => ih.step h1
theorem Plus.head {a : Nat → Nat → Bool} {v x u : Nat} (h : a v x = true) (k : Plus a x u) : Plus a v u := (Plus.one h).trans k
theorem Plus.closed {a : Nat → Nat → Bool} {T : Nat → Prop} {v u : Nat} (h : Plus a v u) (h1 : ∀ u, a v u = true → T u) (h2 : ∀ x u, T x → a x u = true → T u) : T u :=
  h.ind h1 fun x u _ ih h => h2 x u ih h
theorem Plus.mono {a b : Nat → Nat → Bool} {v u : Nat} (h : Plus a v u) (hab : ∀ x y, a x y = true → b x y = true) : Plus b v u :=
  h.ind (M := Plus b v) (fun u h => .one (hab _ _ h)) fun x u _ ih h => .step ih (hab _ _ h)
theorem Plus.flip {a b : Nat → Nat → Bool} {v u : Nat} (h : Plus a v u) (hab : ∀ x y, a x y = true → b y x = true) : Plus b u v :=
  h.ind (M := fun u => Plus b u v) (fun u h => .one (hab _ _ h)) fun x u _ ih h => (Plus.one (hab _ _ h)).trans ih
theorem Plus.lt {E : List (List Int)} (hE : Valid E) {v u : Nat} (h : Plus (arc E) v u) : v < E.length ∧ u < E.length :=
  h.ind (M := fun u => v < E.length ∧ u < E.length) (fun u h => ⟨arc_lt h, hE.arc h⟩) fun x u _ ih h => ⟨ih.1, hE.arc h⟩

/-- what is come to from some of l, over one arc or more -/
def FarP (es : List (List Int)) (l : List Int) (u : Nat) : Prop := ∃ s : Nat, s < es.length ∧ (s : Int) ∈ l ∧ Plus (arc es) s u

def insL (ls : List Nat) (u : Nat) : List Nat := if u ∈ ls then ls else ls ++ [u]
theorem insL_in {ls : List Nat} {u : Nat} (h : u ∈ ls) : insL ls u = ls := if_pos h
theorem insL_out {ls : List Nat} {u : Nat} (h : u ∉ ls) : insL ls u = ls ++ [u] := if_neg h
theorem insL_mem {ls : List Nat} {u v : Nat} : v ∈ insL ls u ↔ v ∈ ls ∨ v = u := by
  unfold insL
  split
  · exact ⟨Or.inl, fun h => by rcases h with h | rfl <;> assumption⟩
  · simp
theorem insL_nodup {ls : List Nat} {u : Nat} (h : ls.Nodup) : (insL ls u).Nodup := by
  unfold insL
  split
  · exact h
  · rename_i hu
    rw [List.nodup_append]
    exact ⟨h, by simp, fun a ha b hb e => by simp at hb; subst hb e; exact hu ha⟩
theorem insL_take {ls : List Nat} {u i : Nat} (h : i ≤ ls.length) : (insL ls u).take i = ls.take i := by
  unfold insL
  split
  · rfl
  · exact List.take_append_of_le_length h
theorem insL_get {ls : List Nat} {u i x : Nat} (h : ls[i]? = some x) : (insL ls u)[i]? = some x := by
  unfold insL
  split
  · exact h
  · rw [List.getElem?_append_left (List.getElem?_eq_some_iff.1 h).1]; exact h
theorem insL_len {ls : List Nat} {u : Nat} : ls.length ≤ (insL ls u).length := by
  unfold insL
  split
  · exact Nat.le_refl _
  · simp

/-- the state of the search: the list, and what was found from its first i ones, and from the first j arcs of the next -/
structure Srch (es : List (List Int)) (l : List Int) (ls : List Nat) (i j : Nat) (f : Nat → Bool) : Prop where
  nodup : ls.Nodup
  lt : ∀ u ∈ ls, u < es.length
  from_ : ∀ u ∈ ls, (u : Int) ∈ l ∨ FarP es l u
  start : ∀ u : Nat, u < es.length → (u : Int) ∈ l → u ∈ ls
  found : ∀ u, u < es.length → (f u = true ↔ (∃ x ∈ ls.take i, arc es x u = true) ∨ ∃ x, ls[i]? = some x ∧ (u : Int) ∈ (row es x).take j)
  inn : ∀ u, u < es.length → f u = true → u ∈ ls
theorem Srch.step {es : List (List Int)} {l : List Int} {ls : List Nat} {i j : Nat} {f g : Nat → Bool} (h : Srch es l ls i j f) (hE : Valid es) {x u : Nat} (hx : ls[i]? = some x) (hu : (row es x)[j]? = some (u : Int)) (hg : ∀ v, v < es.length → g v = (f v || decide (v = u))) :
    Srch es l (insL ls u) i (j + 1) g := by
  have hxm : x ∈ ls := List.mem_of_getElem? hx
  have hxl := h.lt x hxm
  have ha : arc es x u = true := arc_iff.2 (List.mem_of_getElem? hu)
  have hul := hE.arc ha
  have hil : i ≤ ls.length := Nat.le_of_lt (List.getElem?_eq_some_iff.1 hx).1
  have ht : (row es x).take (j + 1) = (row es x).take j ++ [(u : Int)] := by rw [List.take_add_one, hu]; rfl
  refine ⟨insL_nodup h.nodup, fun v hv => ?_, fun v hv => ?_, fun v hv hl => insL_mem.2 (Or.inl (h.start v hv hl)), fun v hv => ?_, fun v hv hgv => ?_⟩
  · rcases insL_mem.1 hv with hv | rfl
    · exact h.lt v hv
    · exact hul
  · rcases insL_mem.1 hv with hv | rfl
    · exact h.from_ v hv
    · refine Or.inr ?_
      rcases h.from_ x hxm with h1 | ⟨s, h1, h2, h3⟩
      · exact ⟨x, hxl, h1, .one ha⟩
      · exact ⟨s, h1, h2, .step h3 ha⟩
  · rw [hg v hv, Bool.or_eq_true, h.found v hv, decide_eq_true_eq, insL_take hil, insL_get hx, hx]
    constructor
    · rintro ((h1 | ⟨y, hy, h2⟩) | rfl)
      · exact Or.inl h1
      · injection hy with hy
        subst hy
        exact Or.inr ⟨x, rfl, by rw [ht]; exact List.mem_append_left _ h2⟩
      · exact Or.inr ⟨x, rfl, by rw [ht]; simp⟩
    · rintro (h1 | ⟨y, hy, h2⟩)
      · exact Or.inl (Or.inl h1)
      · injection hy with hy
        subst hy
        rw [ht] at h2
        rcases List.mem_append.1 h2 with h2 | h2
        · exact Or.inl (Or.inr ⟨x, rfl, h2⟩)
        · simp at h2
          exact Or.inr (by omega)
  · rw [hg v hv, Bool.or_eq_true, decide_eq_true_eq] at hgv
    rcases hgv with hgv | rfl
    · exact insL_mem.2 (Or.inl (h.inn v hv hgv))
    · exact insL_mem.2 (Or.inr rfl)
theorem Srch.next {es : List (List Int)} {l : List Int} {ls : List Nat} {i : Nat} {f : Nat → Bool} {x : Nat} (h : Srch es l ls i (row es x).length f) (hx : ls[i]? = some x) : Srch es l ls (i + 1) 0 f := by
  refine ⟨h.nodup, h.lt, h.from_, h.start, fun v hv => ?_, h.inn⟩
  rw [h.found v hv, List.take_add_one, hx]
  constructor
  · rintro (⟨y, hy, ha⟩ | ⟨y, hy, ha⟩)
    · exact Or.inl ⟨y, List.mem_append_left _ hy, ha⟩
    · injection hy with hy
      subst hy
      rw [List.take_length] at ha
      exact Or.inl ⟨x, by simp, arc_iff.2 ha⟩
  · rintro (⟨y, hy, ha⟩ | ⟨y, _, ha⟩)
    · rcases List.mem_append.1 hy with hy | hy
      · exact Or.inl ⟨y, hy, ha⟩
      · simp at hy
        subst hy
        exact Or.inr ⟨y, rfl, by rw [List.take_length]; exact arc_iff.1 ha⟩
    · simp at ha
theorem Srch.done {es : List (List Int)} {l : List Int} {ls : List Nat} {f : Nat → Bool} (h : Srch es l ls ls.length 0 f) (hE : Valid es) {u : Nat} (hu : u < es.length) : f u = true ↔ FarP es l u := by
  have hf : ∀ v, v < es.length → (f v = true ↔ ∃ x ∈ ls, arc es x v = true) := by
    intro v hv
    rw [h.found v hv, List.take_length]
    constructor
    · rintro (h1 | ⟨x, _, h2⟩)
      · exact h1
      · simp at h2
    · exact Or.inl
  constructor
  · intro h1
    obtain ⟨x, hx, ha⟩ := (hf u hu).1 h1
    rcases h.from_ x hx with h2 | ⟨s, h2, h3, h4⟩
    · exact ⟨x, h.lt x hx, h2, .one ha⟩
    · exact ⟨s, h2, h3, .step h4 ha⟩
  · rintro ⟨s, h1, h2, h3⟩
    exact Plus.closed (T := fun v => f v = true) h3 (fun v hv => (hf v (hE.arc hv)).2 ⟨s, h.start s h1 h2, hv⟩)
      fun x v hx hv => (hf v (hE.arc hv)).2 ⟨x, h.inn x (arc_lt hv) hx, hv⟩

/-- the start: those of l that are there -/
structure Strt (es : List (List Int)) (l : List Int) (ls : List Nat) (k : Nat) : Prop where
  nodup : ls.Nodup
  mem : ∀ u, u ∈ ls ↔ u < es.length ∧ (u : Int) ∈ l.take k
theorem Strt.zero (es : List (List Int)) (l : List Int) : Strt es l [] 0 := ⟨List.nodup_nil, by simp⟩
theorem Strt.in_ {es : List (List Int)} {l : List Int} {ls : List Nat} {k u : Nat} (h : Strt es l ls k) (hu : l[k]? = some (u : Int)) (hl : u < es.length) : Strt es l (insL ls u) (k + 1) := by
  have ht : l.take (k + 1) = l.take k ++ [(u : Int)] := by rw [List.take_add_one, hu]; rfl
  refine ⟨insL_nodup h.nodup, fun v => ?_⟩
  rw [insL_mem, h.mem, ht]
  constructor
  · rintro (⟨h1, h2⟩ | rfl)
    · exact ⟨h1, List.mem_append_left _ h2⟩
    · exact ⟨hl, by simp⟩
  · rintro ⟨h1, h2⟩
    rcases List.mem_append.1 h2 with h2 | h2
    · exact Or.inl ⟨h1, h2⟩
    · simp at h2; exact Or.inr (by omega)
theorem Strt.out {es : List (List Int)} {l : List Int} {ls : List Nat} {k : Nat} {x : Int} (h : Strt es l ls k) (hu : l[k]? = some x) (hl : ¬ (0 ≤ x ∧ x < (es.length : Int))) : Strt es l ls (k + 1) := by
  have ht : l.take (k + 1) = l.take k ++ [x] := by rw [List.take_add_one, hu]; rfl
  refine ⟨h.nodup, fun v => ?_⟩
  rw [h.mem, ht]
  constructor
  · rintro ⟨h1, h2⟩; exact ⟨h1, List.mem_append_left _ h2⟩
  · rintro ⟨h1, h2⟩
    rcases List.mem_append.1 h2 with h2 | h2
    · exact ⟨h1, h2⟩
    · simp at h2; omega
theorem Strt.end_ {es : List (List Int)} {l : List Int} {ls : List Nat} (h : Strt es l ls l.length) : Srch es l ls 0 0 (fun _ => false) := by
  have hm : ∀ u, u ∈ ls ↔ u < es.length ∧ (u : Int) ∈ l := by intro u; rw [h.mem, List.take_length]
  exact ⟨h.nodup, fun u hu => ((hm u).1 hu).1, fun u hu => Or.inl ((hm u).1 hu).2, fun u h1 h2 => (hm u).2 ⟨h1, h2⟩, by simp, by simp⟩

end Go.Proofs.Ytapojmniokdjfaa.Dag

