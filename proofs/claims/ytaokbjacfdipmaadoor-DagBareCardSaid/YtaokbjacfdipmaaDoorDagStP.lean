/- What DagStands looks at, in plain words: places in the order; how many lie in the levels so far. -/
import Derived.Test.YtaokbjacfdipmaaDoorDagLevP
import Derived.Test.YtaokbjacfdipmaaDoorDagPlus
import Derived.Test.YtaokbjacfdipmaaDoorDagRReach
namespace Go.Proofs.YtaokbjacfdipmaaDoor
set_option linter.unusedVariables false

def pos (o : List Nat) (u : Nat) : Nat := o.findIdx fun x => decide (x = u)
theorem pos_get {o : List Nat} (hn : o.Nodup) {i u : Nat} (h : o[i]? = some u) : pos o u = i := by
  obtain ⟨h1, h2⟩ := List.getElem?_eq_some_iff.1 h
  unfold pos
  rw [List.findIdx_eq h1]
  refine ⟨by simpa using h2, fun j hj => ?_⟩
  rw [decide_eq_false_iff_not]
  intro e
  have hj' : o[j]? = some u := List.getElem?_eq_some_iff.2 ⟨by omega, e⟩
  have := nodup_inj hn hj' h
  omega
theorem pos_has {o : List Nat} (hn : o.Nodup) {u : Nat} (h : u ∈ o) : o[pos o u]? = some u := by
  obtain ⟨i, hi⟩ := List.getElem?_of_mem h
  rw [pos_get hn hi]; exact hi
def atL (o : List Nat) (n k : Nat) : List Int := (List.range n).map fun u => if u ∈ o.take k then (pos o u : Int) + 1 else 0
theorem atL_zero (o : List Nat) (n : Nat) : atL o n 0 = List.replicate n (0 : Int) := by
  unfold atL
  apply List.ext_getElem?
  intro i
  rcases Nat.lt_or_ge i n with hi | hi
  · rw [range_map_get _ hi, List.getElem?_replicate, if_pos hi]; simp
  · rw [List.getElem?_eq_none (by simpa using hi), List.getElem?_eq_none (by simpa using hi)]
theorem atL_len (o : List Nat) (n k : Nat) : (atL o n k).length = n := by simp [atL]
theorem not_yet {o : List Nat} (hn : o.Nodup) {k x : Nat} (h : o[k]? = some x) : x ∉ o.take k := by
  intro hm
  obtain ⟨i, hi⟩ := List.getElem?_of_mem hm
  have hik : i < k := by have := (List.getElem?_eq_some_iff.1 hi).1; rw [List.length_take] at this; omega
  rw [List.getElem?_take, if_pos hik] at hi
  have := nodup_inj hn hi h
  omega
theorem atL_new {o : List Nat} (hn : o.Nodup) {n k x : Nat} (h : o[k]? = some x) (hx : x < n) : (atL o n k)[x]? = some 0 := by
  unfold atL; rw [range_map_get _ hx, if_neg (not_yet hn h)]
theorem atL_step {o : List Nat} (hn : o.Nodup) {n k x : Nat} (h : o[k]? = some x) (hx : x < n) : (atL o n k).set x ((k : Int) + 1) = atL o n (k + 1) := by
  have ht : o.take (k + 1) = o.take k ++ [x] := by rw [List.take_add_one, h]; rfl
  refine range_map_set hx ?_ fun i hi hne => ?_
  · rw [ht, if_pos (by simp), pos_get hn h]
  · rw [ht]; simp [hne]
theorem ord_all {E : List (List Int)} (h : (order E).length = E.length) {u : Nat} (hu : u < E.length) : u ∈ order E := by
  rcases Classical.em (u ∈ order E) with a | a
  · exact a
  · have h1 : (u :: order E).length ≤ E.length := nodup_len (List.nodup_cons.2 ⟨a, (order_ord E).nodup⟩) (by
      intro x hx
      rcases List.mem_cons.1 hx with rfl | hx
      · exact hu
      · exact (order_ord E).lt x hx)
    simp at h1; omega
theorem atL_full {E : List (List Int)} (h : (order E).length = E.length) {u : Nat} (hu : u < E.length) : (atL (order E) E.length E.length)[u]? = some ((pos (order E) u : Int) + 1) := by
  unfold atL; rw [range_map_get _ hu, List.take_of_length_le (by omega), if_pos (ord_all h hu)]
theorem pos_arc {E : List (List Int)} (h : (order E).length = E.length) (hE : Valid E) {v u : Nat} (ha : arc E v u = true) : pos (order E) u < pos (order E) v := by
  have hv := arc_lt ha
  have hu := hE.arc ha
  have ho := order_ord E
  have h1 := pos_has ho.nodup (ord_all h hv)
  have h2 := ho.behind _ v h1 u (bef_mem.2 ⟨hu, ha⟩)
  obtain ⟨i, hi⟩ := List.getElem?_of_mem h2
  have hik : i < pos (order E) v := by have := (List.getElem?_eq_some_iff.1 hi).1; rw [List.length_take] at this; omega
  rw [List.getElem?_take, if_pos hik] at hi
  rw [pos_get ho.nodup hi]
  exact hik
theorem pos_plus {E : List (List Int)} (h : (order E).length = E.length) (hE : Valid E) {v u : Nat} (hp : Plus (arc E) v u) : pos (order E) u < pos (order E) v :=
  hp.ind (M := fun u => pos (order E) u < pos (order E) v) (fun u ha => pos_arc h hE ha) fun x u _ ih ha => Nat.lt_trans (pos_arc h hE ha) ih
theorem pos_far {E : List (List Int)} (h : (order E).length = E.length) (hE : Valid E) {v u : Nat} (hp : FarP (fro E) [(v : Int)] u) : pos (order E) u < pos (order E) v := by
  obtain ⟨s, _, h2, h3⟩ := hp
  have e : s = v := by simp at h2; omega
  subst e
  exact pos_plus h hE (h3.mono fun x y ha => (arc_fro.1 ha).2)

/-- how many lie below a level -/
def cntL (L : List Nat) (n k : Nat) : Nat := ((List.range n).filter fun u => decide (at0 L u < k)).length
theorem filter_split (p q r : Nat → Bool) (h : ∀ u, r u = (p u || q u)) (hd : ∀ u, p u = true → q u = false) : ∀ l : List Nat, (l.filter r).length = (l.filter p).length + (l.filter q).length
  | [] => rfl
  | x :: l => by
    have ih := filter_split p q r h hd l
    have h1 := h x
    have h2 := hd x
    cases hp : p x <;> cases hq : q x <;> rw [hp, hq] at h1 <;> simp [h1, hp, hq] <;> first | omega | (exact absurd (h2 hp) (by rw [hq]; decide))
theorem cntL_zero (L : List Nat) (n : Nat) : cntL L n 0 = 0 := by simp [cntL]
theorem cntL_succ (L : List Nat) (n k : Nat) : cntL L n (k + 1) = cntL L n k + (rowL L n k).length := by
  refine filter_split (fun u => decide (at0 L u < k)) (fun u => at0 L u == k) _ (fun u => ?_) (fun u hu => ?_) _
  · rw [Bool.eq_iff_iff, Bool.or_eq_true, decide_eq_true_eq, decide_eq_true_eq, beq_iff_eq]; omega
  · have := of_decide_eq_true hu
    rw [beq_eq_false_iff_ne]; omega
theorem cntL_full {L : List Nat} {n : Nat} (h : n ≤ L.length) : cntL L n (mx L n) = n := by
  unfold cntL
  rw [List.filter_eq_self.2 (fun u hu => by
    have hu' : u < n := by simpa using hu
    have := mx_ge (L := L) n u hu' h
    rw [decide_eq_true_eq]; omega)]
  simp
theorem cntL_le (L : List Nat) (n k : Nat) : cntL L n k ≤ n := by
  have := List.length_filter_le (fun u => decide (at0 L u < k)) (List.range n)
  simpa [cntL] using this
/-- what has been seen: the levels below k, and the first i of level k -/
def seenB (L : List Nat) (n k i u : Nat) : Bool := decide (at0 L u < k) || decide (u ∈ (rowL L n k).take i)
theorem seen_zero (L : List Nat) (n : Nat) : List.replicate n (Value.bool false) = rowB n (seenB L n 0 0) := by
  unfold rowB
  apply List.ext_getElem?
  intro i
  rcases Nat.lt_or_ge i n with hi | hi
  · rw [range_map_get _ hi, List.getElem?_replicate, if_pos hi]; simp [seenB]
  · rw [List.getElem?_eq_none (by simpa using hi), List.getElem?_eq_none (by simpa using hi)]
theorem seen_step {L : List Nat} {n k i x : Nat} (h : (rowL L n k)[i]? = some x) (hx : x < n) : (rowB n (seenB L n k i)).set x (.bool true) = rowB n (seenB L n k (i + 1)) := by
  have ht : (rowL L n k).take (i + 1) = (rowL L n k).take i ++ [x] := by rw [List.take_add_one, h]; rfl
  unfold rowB
  refine range_map_set hx ?_ fun u hu hne => ?_
  · simp [seenB, ht]
  · simp [seenB, ht, hne]
theorem seen_next (L : List Nat) (n k : Nat) : rowB n (seenB L n k (rowL L n k).length) = rowB n (seenB L n (k + 1) 0) := by
  unfold rowB
  apply List.map_congr_left
  intro u hu
  have hu' : u < n := by simpa using hu
  congr 1
  unfold seenB
  rw [List.take_length, Bool.eq_iff_iff]
  simp [rowL, hu']
  omega
theorem inRow {L : List Nat} {n k x : Nat} (h : x ∈ rowL L n k) : x < n ∧ at0 L x = k := by
  unfold rowL at h
  simpa using h
/-- what one of level k waits for lies below -/
theorem seen_bef {E : List (List Int)} (h : (order E).length = E.length) {v k u : Nat} (hv : v ∈ rowL (levs E) E.length k) (hu : u ∈ befL E v) : seenB (levs E) E.length k 0 u = true := by
  obtain ⟨h1, h2⟩ := inRow hv
  obtain ⟨i, hi⟩ := List.getElem?_of_mem (ord_all h h1)
  have hil : i < E.length := by have := (List.getElem?_eq_some_iff.1 hi).1; omega
  have := levK_rise E E.length i v hil hi u hu
  unfold seenB levs
  unfold levs at h2
  simp; omega
theorem levRows_len (E : List (List Int)) : (levRows E).length = mx (levs E) E.length := by simp [levRows]
theorem levRows_get {E : List (List Int)} {k : Nat} (h : k < mx (levs E) E.length) : (levRows E)[k]? = some (num (rowL (levs E) E.length k)) := range_map_get _ h
theorem rowL_len (L : List Nat) (n k : Nat) : (rowL L n k).length ≤ n := by
  have := List.length_filter_le (fun u => at0 L u == k) (List.range n)
  simpa [rowL] using this
theorem mx_le {L : List Nat} {b : Nat} (h : ∀ u, at0 L u ≤ b) : ∀ v, mx L v ≤ b + 1
  | 0 => by simp [mx]
  | v + 1 => by
    have ih := mx_le h v
    cases hx : L[v]? with
    | none =>
      have : mx L (v + 1) = mx L v := by unfold mx; rw [List.take_add_one, hx]; simp
      omega
    | some x =>
      rw [mx_succ hx]
      have := h v
      rw [at0_some hx] at this
      omega
theorem rowB_cells (n : Nat) (f : Nat → Bool) : rowB n f = (List.range n).map fun u => Value.bool (f u) := rfl

end Go.Proofs.YtaokbjacfdipmaaDoor
