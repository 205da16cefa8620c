/- The way from one to another one, in plain words. -/
import Derived.Test.YtaokbjacfdipmaaDoorDagWay
namespace Go.Proofs.YtaokbjacfdipmaaDoor
set_option linter.unusedVariables false

/-- the least number of arcs that lead from w to v, if any do -/
def lea (E : List (List Int)) (w v : Nat) : Option Nat := (List.range E.length).find? fun k => canB E w k v
theorem lea_some {E : List (List Int)} {w v k : Nat} (hf : (order E).length = E.length) (hE : Valid E) (hw : w < E.length) (h : lea E w v = some k) : canB E w k v = true ∧ ∀ m, canB E w m v = true → k ≤ m := by
  unfold lea at h
  rw [List.find?_eq_some_iff_getElem] at h
  obtain ⟨h1, i, hi, h2, h3⟩ := h
  have e : i = k := by simpa using h2
  subst e
  refine ⟨h1, fun m hm => ?_⟩
  rcases Nat.lt_or_ge m i with a | a
  · have := h3 m a
    simp at this
    rw [this] at hm
    cases hm
  · exact a
theorem lea_none {E : List (List Int)} {w v : Nat} (hf : (order E).length = E.length) (hE : Valid E) (hw : w < E.length) (h : lea E w v = none) (k : Nat) : canB E w k v = false := by
  unfold lea at h
  rw [Bool.eq_false_iff]
  intro hc
  have := List.find?_eq_none.1 h k (by simpa using can_short hf hE hw hc)
  exact this hc
theorem lea_of {E : List (List Int)} {w v k : Nat} (hf : (order E).length = E.length) (hE : Valid E) (hw : w < E.length) (h : canB E w k v = true) (hm : ∀ m, canB E w m v = true → k ≤ m) : lea E w v = some k := by
  cases hl : lea E w v with
  | none => rw [lea_none hf hE hw hl k] at h; cases h
  | some j =>
    obtain ⟨h1, h2⟩ := lea_some hf hE hw hl
    have := h2 k h
    have := hm j h1
    congr 1; omega
theorem dst_lea {E : List (List Int)} {w v : Nat} {z : Int} (hf : (order E).length = E.length) (hE : Valid E) (hw : w < E.length) (h : Dst E w v z) : (z = -1 ∧ lea E w v = none) ∨ ∃ k : Nat, z = (k : Int) ∧ lea E w v = some k := by
  rcases h with ⟨h1, h2⟩ | ⟨k, h1, h2, h3⟩
  · refine Or.inl ⟨h1, ?_⟩
    cases hl : lea E w v with
    | none => rfl
    | some j => have := (lea_some hf hE hw hl).1; rw [h2 j] at this; cases this
  · exact Or.inr ⟨k, h1, lea_of hf hE hw h2 h3⟩
theorem lea_step {E : List (List Int)} {w v u k : Nat} (hf : (order E).length = E.length) (hE : Valid E) (hw : w < E.length) (h : lea E w v = some (k + 1)) (ha : arc E u v = true) : lea E w u = some k ↔ canB E w k u = true := by
  constructor
  · exact fun h2 => (lea_some hf hE hw h2).1
  · intro h2
    refine lea_of hf hE hw h2 fun m hm => ?_
    have := (lea_some hf hE hw h).2 (m + 1) (can_succ.2 ⟨u, hm, ha⟩)
    omega

/-- the least one that stands k arcs behind w, with one arc to v -/
def stp (E : List (List Int)) (w k v : Nat) : Nat := ((List.range E.length).find? fun x => canB E w k x && arc E x v).getD 0
theorem stp_get {E : List (List Int)} {w k v : Nat} (h : canB E w (k + 1) v = true) : stp E w k v < E.length ∧ canB E w k (stp E w k v) = true ∧ arc E (stp E w k v) v = true ∧ ∀ x, x < stp E w k v → (canB E w k x && arc E x v) = false := by
  obtain ⟨x, h1, h2⟩ := can_succ.1 h
  unfold stp
  cases hf : (List.range E.length).find? fun x => canB E w k x && arc E x v with
  | none =>
    have := List.find?_eq_none.1 hf x (by simpa using arc_lt h2)
    rw [h1, h2] at this
    exact absurd rfl this
  | some y =>
    rw [List.find?_eq_some_iff_getElem] at hf
    obtain ⟨h3, i, hi, h4, h5⟩ := hf
    have e : i = y := by simpa using h4
    subst e
    rw [Bool.and_eq_true] at h3
    refine ⟨by simpa using hi, h3.1, h3.2, fun x hx => ?_⟩
    have := h5 x hx
    rw [List.getElem_range, Bool.not_eq_true', ] at this
    exact this
def pathL (E : List (List Int)) (w : Nat) : Nat → Nat → List Nat
  | 0, v => [v]
  | k + 1, v => v :: pathL E w k (stp E w k v)
theorem pathL_len (E : List (List Int)) (w : Nat) : ∀ k v, (pathL E w k v).length = k + 1
  | 0, v => rfl
  | k + 1, v => by simp [pathL, pathL_len E w k]
theorem pathL_first (E : List (List Int)) (w k v : Nat) : (pathL E w k v)[0]? = some v := by cases k <;> rfl
theorem pathL_last {E : List (List Int)} {w : Nat} : ∀ {k v : Nat}, canB E w k v = true → (pathL E w k v)[k]? = some w
  | 0, v, h => by rw [can_zero] at h; subst h; rfl
  | k + 1, v, h => by
    show (pathL E w k (stp E w k v))[k]? = some w
    exact pathL_last (stp_get h).2.1
theorem pathL_arc {E : List (List Int)} {w : Nat} : ∀ {k v : Nat}, canB E w k v = true → ∀ (i x y : Nat), (pathL E w k v)[i]? = some x → (pathL E w k v)[i + 1]? = some y → arc E y x = true
  | 0, v, h, i, x, y, h1, h2 => by simp [pathL] at h2
  | k + 1, v, h, 0, x, y, h1, h2 => by
    have e1 : v = x := by simpa [pathL] using h1
    have e2 : (pathL E w k (stp E w k v))[0]? = some y := h2
    rw [pathL_first] at e2
    injection e2 with e2
    subst e1 e2
    exact (stp_get h).2.2.1
  | k + 1, v, h, i + 1, x, y, h1, h2 => pathL_arc (stp_get h).2.1 i x y h1 h2
theorem pathL_lt {E : List (List Int)} {w : Nat} : ∀ {k v : Nat}, canB E w k v = true → v < E.length → ∀ x ∈ pathL E w k v, x < E.length
  | 0, v, h, hv, x, hx => by simp [pathL] at hx; subst hx; exact hv
  | k + 1, v, h, hv, x, hx => by
    rcases List.mem_cons.1 hx with rfl | hx
    · exact hv
    · exact pathL_lt (stp_get h).2.1 (stp_get h).1 x hx

def pthL (E : List (List Int)) (v w : Nat) : List Nat :=
  match lea E w v with
  | none => []
  | some k => pathL E w k v
theorem pthL_none {E : List (List Int)} {v w : Nat} (h : lea E w v = none) : pthL E v w = [] := by unfold pthL; rw [h]
theorem pthL_some {E : List (List Int)} {v w k : Nat} (h : lea E w v = some k) : pthL E v w = pathL E w k v := by unfold pthL; rw [h]
def inG (E : List (List Int)) (v w : Int) : Prop := (0 ≤ v ∧ v < (E.length : Int)) ∧ (0 ≤ w ∧ w < (E.length : Int))
instance (E : List (List Int)) (v w : Int) : Decidable (inG E v w) := by unfold inG; infer_instance
def pthG (E : List (List Int)) (v w : Int) : List Int := if inG E v w then num (pthL E v.toNat w.toNat) else []
theorem pthG_in {E : List (List Int)} {v w : Nat} (hv : v < E.length) (hw : w < E.length) : pthG E v w = num (pthL E v w) := by
  have hi : inG E v w := by unfold inG; omega
  unfold pthG
  rw [if_pos hi, Int.toNat_natCast, Int.toNat_natCast]
theorem pthG_out {E : List (List Int)} {v w : Int} (h : ¬ inG E v w) : pthG E v w = [] := by unfold pthG; rw [if_neg h]
theorem pthL_len {E : List (List Int)} {v w : Nat} (hf : (order E).length = E.length) (hE : Valid E) (hw : w < E.length) : (pthL E v w).length ≤ E.length := by
  cases h : lea E w v with
  | none => rw [pthL_none h]; exact Nat.zero_le _
  | some k =>
    rw [pthL_some h, pathL_len]
    exact can_short hf hE hw (lea_some hf hE hw h).1
/-- there is a way just if one waits for the other one -/
theorem pth_more {E : List (List Int)} {v w : Nat} (hf : (order E).length = E.length) (hE : Valid E) (hw : w < E.length) : 1 < (pthL E v w).length ↔ Plus (arc E) w v := by
  cases h : lea E w v with
  | none =>
    rw [pthL_none h]
    refine ⟨fun h1 => by simp at h1, fun h1 => ?_⟩
    obtain ⟨k, hk⟩ := plus_can h1
    rw [lea_none hf hE hw h] at hk
    cases hk
  | some k =>
    obtain ⟨h1, h2⟩ := lea_some hf hE hw h
    rw [pthL_some h, pathL_len]
    match k, h1 with
    | 0, h1 =>
      rw [can_zero] at h1
      subst h1
      refine ⟨fun h => by omega, fun hp => ?_⟩
      have := pos_plus hf hE hp
      omega
    | k + 1, h1 => exact ⟨fun _ => can_plus h1, fun _ => by omega⟩
theorem pth_one {E : List (List Int)} {v w : Nat} (hf : (order E).length = E.length) (hE : Valid E) (hw : w < E.length) : (pthL E v w).length = 1 ↔ v = w := by
  cases h : lea E w v with
  | none =>
    rw [pthL_none h]
    refine ⟨fun h1 => by simp at h1, fun h1 => ?_⟩
    have := lea_none hf hE hw h 0
    rw [can_zero.2 h1] at this
    cases this
  | some k =>
    obtain ⟨h1, h2⟩ := lea_some hf hE hw h
    rw [pthL_some h, pathL_len]
    constructor
    · intro hk
      obtain rfl : k = 0 := by omega
      exact can_zero.1 h1
    · intro e
      have := h2 0 (can_zero.2 e)
      omega

end Go.Proofs.YtaokbjacfdipmaaDoor
