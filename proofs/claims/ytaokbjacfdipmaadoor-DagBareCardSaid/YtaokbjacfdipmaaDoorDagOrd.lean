/- What arrange counts, in plain words. -/
import Derived.Test.YtaokbjacfdipmaaDoorDagPure
import Derived.Test.YtaokbjacfdipmaaDoorDagBits
namespace Go.Proofs.YtaokbjacfdipmaaDoor
set_option linter.unusedVariables false

theorem filter_count {x : Nat} {p q : Nat → Bool} : ∀ {L : List Nat}, L.Nodup → p x = true → q x = false → (∀ u, u ≠ x → q u = p u) → (L.filter p).length = (L.filter q).length + if x ∈ L then 1 else 0
  | [], _, _, _, _ => by simp
  | y :: L, hn, hp, hq, h => by
    have hn' := List.nodup_cons.1 hn
    have ih := filter_count hn'.2 hp hq h
    by_cases hy : y = x
    · subst hy
      rw [List.filter_cons_of_pos hp, List.filter_cons_of_neg (by simp [hq])]
      rw [if_neg hn'.1] at ih
      rw [if_pos (by simp)]
      simp; omega
    · have hm : (x ∈ y :: L) ↔ x ∈ L := by simp; intro e; exact absurd e.symm hy
      have e := h y hy
      by_cases hpy : p y = true
      · rw [List.filter_cons_of_pos hpy, List.filter_cons_of_pos (by rw [e]; exact hpy)]
        simp only [List.length_cons, hm]
        omega
      · rw [List.filter_cons_of_neg hpy, List.filter_cons_of_neg (by rw [e]; exact hpy)]
        simp only [hm]
        exact ih
theorem cnt_snoc {E : List (List Int)} {o : List Nat} {x : Nat} (hx : x ∉ o) (i : Nat) : cntN E o i = cntN E (o ++ [x]) i + if x ∈ befL E i then 1 else 0 := by
  refine filter_count (bef_nodup E i) (by simpa using hx) (by simp) fun u hu => ?_
  simp [hu]
theorem cnt_nil (E : List (List Int)) (i : Nat) : cntN E [] i = (befL E i).length := by
  unfold cntN
  rw [List.filter_eq_self.2 (by simp)]

theorem range_map_get {α : Type} {n i : Nat} (f : Nat → α) (h : i < n) : ((List.range n).map f)[i]? = some (f i) := by
  rw [List.getElem?_map, List.getElem?_range h]; rfl
theorem range_map_set {α : Type} {n w : Nat} {f g : Nat → α} {y : α} (hw : w < n) (hy : y = g w) (h : ∀ i, i < n → i ≠ w → g i = f i) : ((List.range n).map f).set w y = (List.range n).map g := by
  apply List.ext_getElem?
  intro i
  rcases Nat.lt_or_ge i n with hi | hi
  · rw [List.getElem?_set, range_map_get g hi]
    by_cases e : w = i
    · subst e; simp [hi, hy]
    · rw [if_neg e, range_map_get f hi, h i hi (fun e' => e e'.symm)]
  · rw [List.getElem?_eq_none (by simpa using hi), List.getElem?_eq_none (by simpa using hi)]

def missL (E : List (List Int)) (o : List Nat) : List Int := (List.range E.length).map fun i => (cntN E o i : Int)
def midM (E : List (List Int)) (o : List Nat) (P : List Nat) : List Int := (List.range E.length).map fun i => (cntN E o i : Int) - if i ∈ P then 1 else 0
def midB (E : List (List Int)) (o : List Nat) (x : Nat) (P : List Nat) (i : Nat) : Bool := (decide (i ≠ x) && may E o i) || (decide (i ∈ P) && decide (cntN E o i = 1))

theorem mid_start (E : List (List Int)) (o : List Nat) : midM E o [] = missL E o := by simp [midM, missL]
theorem mid_get {E : List (List Int)} {o P : List Nat} {w : Nat} (hw : w < E.length) (hP : w ∉ P) : (midM E o P)[w]? = some (cntN E o w : Int) := by
  unfold midM; rw [range_map_get _ hw, if_neg hP]; simp
theorem mid_step {E : List (List Int)} {o P : List Nat} {w : Nat} (hw : w < E.length) : (midM E o P).set w ((cntN E o w : Int) - 1) = midM E o (P ++ [w]) := by
  refine range_map_set hw (by simp) fun i hi hne => ?_
  simp [hne]
theorem mid_end {E : List (List Int)} {o : List Nat} {x : Nat} (hx : x ∉ o) (hx' : x < E.length) : midM E o (behL E x) = missL E (o ++ [x]) := by
  apply List.map_congr_left
  intro i hi
  have hi' : i < E.length := by simpa using hi
  have h := cnt_snoc hx (E := E) i
  have e : (i ∈ behL E x) ↔ x ∈ befL E i := by rw [beh_mem, bef_mem]; exact ⟨fun h => ⟨hx', h.2⟩, fun h => ⟨hi', h.2⟩⟩
  by_cases hm : x ∈ befL E i
  · rw [if_pos hm] at h; rw [if_pos (e.2 hm)]; omega
  · rw [if_neg hm] at h; rw [if_neg (fun h => hm (e.1 h))]; omega
theorem midB_step1 {E : List (List Int)} {o P : List Nat} {x w : Nat} (h1 : cntN E o w = 1) (i : Nat) : (midB E o x P i || decide (i = w)) = midB E o x (P ++ [w]) i := by
  unfold midB
  by_cases e : i = w
  · subst e; simp [h1]
  · simp [e]
theorem midB_step2 {E : List (List Int)} {o P : List Nat} {x w : Nat} (h1 : cntN E o w ≠ 1) (i : Nat) : midB E o x P i = midB E o x (P ++ [w]) i := by
  unfold midB
  by_cases e : i = w
  · subst e; simp [h1]
  · simp [e]
theorem midB_end {E : List (List Int)} {o : List Nat} {x : Nat} (ho : Ord E o) (hx : may E o x = true) (hx' : x < E.length) {i : Nat} (hi : i < E.length) : midB E o x (behL E x) i = may E (o ++ [x]) i := by
  obtain ⟨h1, h2⟩ := may_iff.1 hx
  have e : (i ∈ behL E x) ↔ x ∈ befL E i := by rw [beh_mem, bef_mem]; exact ⟨fun h => ⟨hx', h.2⟩, fun h => ⟨hi, h.2⟩⟩
  have hc := cnt_snoc h1 (E := E) i
  have hself : x ∉ befL E x := fun h => h1 (h2 x h)
  by_cases hix : i = x
  · subst hix
    have : i ∉ behL E i := fun h => hself (e.1 h)
    simp [midB, may, this]
  · by_cases hm : x ∈ befL E i
    · rw [if_pos hm] at hc
      have hio : i ∉ o := by
        intro h
        obtain ⟨k, hk⟩ := List.getElem?_of_mem h
        exact h1 (List.mem_of_mem_take (ho.behind k i hk x hm))
      have hmay : may E o i = false := by
        rw [Bool.eq_false_iff]; intro h; exact h1 ((may_iff.1 h).2 x hm)
      have hb : i ∈ behL E x := e.2 hm
      have e1 : midB E o x (behL E x) i = decide (cntN E o i = 1) := by unfold midB; rw [hmay]; simp [hb]
      have hio' : (o ++ [x]).contains i = false := by simp [hio, hix]
      have e2 : may E (o ++ [x]) i = (cntN E (o ++ [x]) i == 0) := by unfold may; rw [hio']; rfl
      rw [e1, e2, Bool.eq_iff_iff, decide_eq_true_eq, beq_iff_eq]
      omega
    · rw [if_neg hm] at hc
      have hb : i ∉ behL E x := fun h => hm (e.1 h)
      have hcc : cntN E (o ++ [x]) i = cntN E o i := by omega
      simp [midB, may, hb, hix, hcc]
theorem next_of_bits {E : List (List Int)} {o : List Nat} {wd : Nat} (h : ∀ i, i < E.length → wd.testBit i = may E o i) : nextV E o = (bitsL E.length wd).head? := by
  rw [bitsL_of h]
  exact (List.head?_filter ..).symm
theorem ordF_next {E : List (List Int)} {o : List Nat} {x : Nat} (ho : Ord E o) (hx : nextV E o = some x) : ordF E (E.length - o.length) o = ordF E (E.length - (o ++ [x]).length) (o ++ [x]) := by
  have hl := (ho.snoc hx).len
  have e : E.length - o.length = (E.length - (o ++ [x]).length) + 1 := by simp at hl ⊢; omega
  rw [e]
  conv => lhs; unfold ordF
  rw [hx]
theorem ordF_none {E : List (List Int)} {o : List Nat} (f : Nat) (hx : nextV E o = none) : ordF E f o = o := by
  cases f with
  | zero => rfl
  | succ f => unfold ordF; rw [hx]

/-- what the first loop lays -/
def begM (E : List (List Int)) (k : Nat) : List Int := (List.range E.length).map fun i => if i < k then ((befL E i).length : Int) else 0
def begB (E : List (List Int)) (k i : Nat) : Bool := decide (i < k) && decide ((befL E i).length = 0)
theorem begM_zero (E : List (List Int)) : List.replicate E.length (0 : Int) = begM E 0 := by
  unfold begM
  apply List.ext_getElem?
  intro i
  rcases Nat.lt_or_ge i E.length with hi | hi
  · rw [range_map_get _ hi, List.getElem?_replicate, if_pos hi]; simp
  · rw [List.getElem?_eq_none (by simpa using hi), List.getElem?_eq_none (by simpa using hi)]
theorem begM_step {E : List (List Int)} {k : Nat} (hk : k < E.length) : (begM E k).set k ((befL E k).length : Int) = begM E (k + 1) := by
  refine range_map_set hk (by simp) fun i hi hne => ?_
  by_cases h : i < k
  · simp [h, Nat.lt_succ_of_lt h]
  · have : ¬ i < k + 1 := by omega
    simp [h, this]
theorem begM_end (E : List (List Int)) : begM E E.length = missL E [] := by
  apply List.map_congr_left
  intro i hi
  have hi' : i < E.length := by simpa using hi
  rw [if_pos hi', cnt_nil]
theorem begB_step1 {E : List (List Int)} {k : Nat} (h : (befL E k).length = 0) (i : Nat) : (begB E k i || decide (i = k)) = begB E (k + 1) i := by
  unfold begB
  by_cases e : i = k
  · subst e; simp [h]
  · have : decide (i < k + 1) = decide (i < k) := by rw [decide_eq_decide]; omega
    simp [e, this]
theorem begB_step2 {E : List (List Int)} {k : Nat} (h : (befL E k).length ≠ 0) (i : Nat) : begB E k i = begB E (k + 1) i := by
  unfold begB
  by_cases e : i = k
  · subst e
    have : befL E i ≠ [] := fun e => h (by rw [e]; rfl)
    simp [this]
  · have : decide (i < k + 1) = decide (i < k) := by rw [decide_eq_decide]; omega
    rw [this]
theorem begB_end {E : List (List Int)} {i : Nat} (hi : i < E.length) : begB E E.length i = may E [] i := by
  unfold begB may
  rw [cnt_nil]
  have : decide ((befL E i).length = 0) = ((befL E i).length == 0) := by rw [Bool.eq_iff_iff, decide_eq_true_eq, beq_iff_eq]
  rw [this]
  simp [hi]

end Go.Proofs.YtaokbjacfdipmaaDoor
