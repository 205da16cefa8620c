/- Levels in plain words. -/
import Derived.Test.YtaokbjacfdipmaaDoorDagOrd
namespace Go.Proofs.YtaokbjacfdipmaaDoor
set_option linter.unusedVariables false

def at0 (L : List Nat) (u : Nat) : Nat := L[u]?.getD 0
theorem at0_some {L : List Nat} {u x : Nat} (h : L[u]? = some x) : at0 L u = x := by unfold at0; rw [h]; rfl
theorem at0_get {L : List Nat} {u : Nat} (h : u < L.length) : L[u]? = some (at0 L u) := by unfold at0; rw [List.getElem?_eq_getElem h]; rfl
theorem at0_set_eq {L : List Nat} {u x : Nat} (h : u < L.length) : at0 (L.set u x) u = x := by unfold at0; rw [List.getElem?_set]; simp [h]
theorem at0_set_ne {L : List Nat} {u v x : Nat} (h : v ≠ u) : at0 (L.set u x) v = at0 L v := by unfold at0; rw [List.getElem?_set, if_neg (fun e => h e.symm)]

def top (L : List Nat) (us : List Nat) (m : Nat) : Nat := us.foldl (fun m u => max m (at0 L u + 1)) m
theorem top_snoc (L us : List Nat) (m u : Nat) : top L (us ++ [u]) m = max (top L us m) (at0 L u + 1) := by simp [top, List.foldl_append]
theorem top_ge (L : List Nat) : ∀ (us : List Nat) (m : Nat), m ≤ top L us m ∧ ∀ u ∈ us, at0 L u + 1 ≤ top L us m
  | [], m => ⟨Nat.le_refl _, (fun u h => by cases h)⟩
  | x :: us, m => by
    have ih := top_ge L us (max m (at0 L x + 1))
    show m ≤ top L us (max m (at0 L x + 1)) ∧ _
    refine ⟨by omega, fun u hu => ?_⟩
    show at0 L u + 1 ≤ top L us (max m (at0 L x + 1))
    rcases List.mem_cons.1 hu with rfl | hu
    · omega
    · exact ih.2 u hu
theorem top_le (L : List Nat) (b : Nat) : ∀ (us : List Nat) (m : Nat), m ≤ b → (∀ u ∈ us, at0 L u + 1 ≤ b) → top L us m ≤ b
  | [], m, h, _ => h
  | x :: us, m, h, h2 => by
    have := h2 x (by simp)
    exact top_le L b us (max m (at0 L x + 1)) (by omega) fun u hu => h2 u (by simp [hu])
def stepJ (E : List (List Int)) (L : List Nat) (v j : Nat) : List Nat := L.set v (top L ((befL E v).take j) (at0 L v))
def levStep (E : List (List Int)) (L : List Nat) (v : Nat) : List Nat := stepJ E L v (befL E v).length
def levK (E : List (List Int)) (k : Nat) : List Nat := ((order E).take k).foldl (levStep E) (List.replicate E.length 0)
theorem stepJ_len (E : List (List Int)) (L : List Nat) (v j : Nat) : (stepJ E L v j).length = L.length := by simp [stepJ]
theorem stepJ_zero {E : List (List Int)} {L : List Nat} {v : Nat} (h : v < L.length) : stepJ E L v 0 = L := by
  unfold stepJ top
  simp only [List.take_zero, List.foldl_nil]
  apply List.ext_getElem?
  intro i
  rw [List.getElem?_set]
  split
  · rename_i e; subst e; simp [h, at0]
  · rfl
theorem stepJ_succ {E : List (List Int)} {L : List Nat} {v j u : Nat} (hv : v < L.length) (hu : (befL E v)[j]? = some u) : (stepJ E L v j).set v (max (at0 (stepJ E L v j) v) (at0 L u + 1)) = stepJ E L v (j + 1) := by
  unfold stepJ
  rw [List.set_set, at0_set_eq hv, List.take_add_one, hu]
  show L.set v _ = L.set v (top L (_ ++ [u]) _)
  rw [top_snoc]
theorem levK_zero (E : List (List Int)) : levK E 0 = List.replicate E.length 0 := by simp [levK]
theorem levK_succ {E : List (List Int)} {k x : Nat} (h : (order E)[k]? = some x) : levK E (k + 1) = levStep E (levK E k) x := by
  unfold levK
  rw [List.take_add_one, h]
  simp [List.foldl_append]
theorem levK_len (E : List (List Int)) : ∀ k, (levK E k).length = E.length
  | 0 => by simp [levK]
  | k + 1 => by
    cases h : (order E)[k]? with
    | none =>
      have : levK E (k + 1) = levK E k := by unfold levK; rw [List.take_add_one, h]; simp
      rw [this]; exact levK_len E k
    | some x => rw [levK_succ h]; unfold levStep; rw [stepJ_len]; exact levK_len E k
theorem levK_le (E : List (List Int)) : ∀ k u, at0 (levK E k) u ≤ k
  | 0, u => by
    rw [levK_zero]; unfold at0; rw [List.getElem?_replicate]; split <;> simp
  | k + 1, u => by
    cases h : (order E)[k]? with
    | none =>
      have : levK E (k + 1) = levK E k := by unfold levK; rw [List.take_add_one, h]; simp
      rw [this]; exact Nat.le_succ_of_le (levK_le E k u)
    | some x =>
      have ih := levK_le E k
      rw [levK_succ h]
      unfold levStep stepJ
      by_cases e : u = x
      · subst e
        have hx := (order_ord E).lt u (List.mem_of_getElem? h)
        rw [at0_set_eq (by rw [levK_len]; exact hx)]
        exact top_le _ _ _ _ (Nat.le_succ_of_le (ih u)) fun v _ => by have := ih v; omega
      · rw [at0_set_ne e]; exact Nat.le_succ_of_le (ih u)
theorem stepJ_le {E : List (List Int)} {k v j u : Nat} : at0 (stepJ E (levK E k) v j) u ≤ k + 1 := by
  have ih := levK_le E k
  unfold stepJ
  by_cases e : u = v
  · subst e
    rcases Nat.lt_or_ge u (levK E k).length with a | a
    · rw [at0_set_eq a]
      exact top_le _ _ _ _ (Nat.le_succ_of_le (ih u)) fun v _ => by have := ih v; omega
    · unfold at0; rw [List.getElem?_eq_none (by simpa using a)]; simp
  · rw [at0_set_ne e]; exact Nat.le_succ_of_le (ih u)
theorem nodup_inj {l : List Nat} (h : l.Nodup) {a b x : Nat} (ha : l[a]? = some x) (hb : l[b]? = some x) : a = b := by
  have hp := List.pairwise_iff_getElem.1 h
  obtain ⟨h1, e1⟩ := List.getElem?_eq_some_iff.1 ha
  obtain ⟨h2, e2⟩ := List.getElem?_eq_some_iff.1 hb
  rcases Nat.lt_trichotomy a b with c | c | c
  · exact absurd (e1.trans e2.symm) (hp a b h1 h2 c)
  · exact c
  · exact absurd (e2.trans e1.symm) (hp b a h2 h1 c)
/-- each is above all that it waits for -/
theorem levK_rise (E : List (List Int)) : ∀ k i v, i < k → (order E)[i]? = some v → ∀ u ∈ befL E v, at0 (levK E k) u < at0 (levK E k) v
  | 0, i, v, h, _ => by omega
  | k + 1, i, v, hik, hv => by
    intro u hu
    have ho := order_ord E
    have hnd := ho.nodup
    have hbe := ho.behind i v hv u hu
    obtain ⟨iu, hiu⟩ := List.getElem?_of_mem hbe
    have hiu1 : iu < i := by have := (List.getElem?_eq_some_iff.1 hiu).1; rw [List.length_take] at this; omega
    have hiu2 : (order E)[iu]? = some u := by rw [List.getElem?_take, if_pos hiu1] at hiu; exact hiu
    have inj : ∀ {a b x : Nat}, (order E)[a]? = some x → (order E)[b]? = some x → a = b := fun ha hb => nodup_inj hnd ha hb
    cases h : (order E)[k]? with
    | none =>
      have hk : (order E).length ≤ k := by rw [List.getElem?_eq_none_iff] at h; exact h
      have hi := (List.getElem?_eq_some_iff.1 hv).1
      have : levK E (k + 1) = levK E k := by unfold levK; rw [List.take_add_one, h]; simp
      rw [this]
      exact levK_rise E k i v (by omega) hv u hu
    | some x =>
      rw [levK_succ h]
      unfold levStep stepJ
      have hux : u ≠ x := by
        intro e
        subst e
        have := inj hiu2 h
        omega
      by_cases e : v = x
      · subst e
        have hvl : v < (levK E k).length := by rw [levK_len]; exact ho.lt v (List.mem_of_getElem? hv)
        rw [at0_set_eq hvl, at0_set_ne hux]
        have := (top_ge (levK E k) ((befL E v).take (befL E v).length) (at0 (levK E k) v)).2 u (by rw [List.take_length]; exact hu)
        omega
      · have hne : i ≠ k := by
          intro e2
          subst e2
          rw [h] at hv
          injection hv with hv
          exact e hv.symm
        rw [at0_set_ne e, at0_set_ne hux]
        exact levK_rise E k i v (by omega) hv u hu

def levs (E : List (List Int)) : List Nat := levK E E.length
def mx (L : List Nat) (v : Nat) : Nat := (L.take v).foldl (fun m i => max m (i + 1)) 0
def rowL (L : List Nat) (v k : Nat) : List Nat := (List.range v).filter fun u => at0 L u == k
theorem mx_succ {L : List Nat} {v x : Nat} (h : L[v]? = some x) : mx L (v + 1) = max (mx L v) (x + 1) := by
  unfold mx; rw [List.take_add_one, h]; simp [List.foldl_append]
theorem mx_ge {L : List Nat} : ∀ v u, u < v → v ≤ L.length → at0 L u + 1 ≤ mx L v
  | 0, u, h, _ => by omega
  | v + 1, u, h, hv => by
    rw [mx_succ (at0_get (L := L) (u := v) (by omega))]
    by_cases e : u = v
    · subst e; omega
    · have := mx_ge (L := L) v u (by omega) (by omega); omega
theorem rowL_empty {L : List Nat} {v k : Nat} (hv : v ≤ L.length) (h : mx L v ≤ k) : rowL L v k = [] := by
  unfold rowL
  rw [List.filter_eq_nil_iff]
  intro u hu
  have hu' : u < v := by simpa using hu
  have := mx_ge v u hu' hv
  simp; omega
theorem rowL_succ (L : List Nat) (v k : Nat) : rowL L (v + 1) k = rowL L v k ++ if at0 L v == k then [v] else [] := by
  unfold rowL
  rw [List.range_succ, List.filter_append]
  congr 1
  cases h : at0 L v == k <;> simp [h]
def levRows (E : List (List Int)) : List (List Int) := (List.range (mx (levs E) E.length)).map fun k => num (rowL (levs E) E.length k)

end Go.Proofs.YtaokbjacfdipmaaDoor
