/- Over places below k alone; what the document's Reach holds while it goes. -/
import Derived.Test.YtaokbjacfdipmaaDoorDagPlus
import Derived.Test.YtaokbjacfdipmaaDoorDagOrd
namespace Go.Proofs.YtaokbjacfdipmaaDoor
set_option linter.unusedVariables false

def Via (a : Nat → Nat → Bool) : Nat → Nat → Nat → Prop
  | 0, v, u => a v u = true
  | k + 1, v, u => Via a k v u ∨ (Via a k v k ∧ Via a k k u)
theorem Via.up {a : Nat → Nat → Bool} {k v u : Nat} (h : Via a k v u) : Via a (k + 1) v u := Or.inl h
theorem Via.of {a : Nat → Nat → Bool} {v u : Nat} (h : a v u = true) : ∀ k, Via a k v u
  | 0 => h
  | k + 1 => (Via.of h k).up
theorem Via.plus {a : Nat → Nat → Bool} : ∀ {k v u : Nat}, Via a k v u → Plus a v u
  | 0, _, _, h => .one h
  | k + 1, _, _, h => by
    rcases h with h | ⟨h1, h2⟩
    · exact h.plus
    · exact h1.plus.trans h2.plus
theorem Via.comp {a : Nat → Nat → Bool} : ∀ {k v x u : Nat}, x < k → Via a k v x → Via a k x u → Via a k v u
  | 0, _, _, _, h, _, _ => by omega
  | k + 1, v, x, u, hx, h1, h2 => by
    by_cases e : x = k
    · subst e
      have g1 : Via a x v x := by rcases h1 with h | ⟨h, _⟩ <;> exact h
      have g2 : Via a x x u := by rcases h2 with h | ⟨_, h⟩ <;> exact h
      exact Or.inr ⟨g1, g2⟩
    · have hxk : x < k := by omega
      rcases h1 with h1 | ⟨h1, h1'⟩
      · rcases h2 with h2 | ⟨h2, h2'⟩
        · exact Or.inl (Via.comp hxk h1 h2)
        · exact Or.inr ⟨Via.comp hxk h1 h2, h2'⟩
      · rcases h2 with h2 | ⟨h2, h2'⟩
        · exact Or.inr ⟨h1, Via.comp hxk h1' h2⟩
        · exact Or.inr ⟨h1, h2'⟩
theorem Plus.via {a : Nat → Nat → Bool} {n v u : Nat} (ha : ∀ x y, a x y = true → y < n) (h : Plus a v u) : Via a n v u := by
  have h2 : ∀ u, Plus a v u → Via a n v u ∧ u < n := fun u h =>
    h.ind (M := fun u => Via a n v u ∧ u < n) (fun u h => ⟨.of h n, ha _ _ h⟩) fun x u _ ih h => ⟨Via.comp ih.2 ih.1 (.of h n), ha _ _ h⟩
  exact (h2 u h).1

/-- round k: all is there that goes over places below k, nothing that is not; of those ahead of (v, u) what goes over k, too -/
structure War (a : Nat → Nat → Bool) (n : Nat) (R : Nat → Nat → Bool) (k v u : Nat) : Prop where
  lo : ∀ x y, x < n → y < n → Via a k x y → R x y = true
  snd : ∀ x y, x < n → y < n → R x y = true → Plus a x y
  done : ∀ x y, x < n → y < n → (x < v ∨ (x = v ∧ y < u)) → Via a (k + 1) x y → R x y = true
def put (R : Nat → Nat → Bool) (v u : Nat) (x y : Nat) : Bool := R x y || (decide (x = v) && decide (y = u))
theorem War.set {a : Nat → Nat → Bool} {n : Nat} {R : Nat → Nat → Bool} {k v u : Nat} (h : War a n R k v u) (hk : k < n) (hv : v < n) (hu : u < n) (h1 : R v k = true) (h2 : R k u = true) : War a n (put R v u) k v (u + 1) := by
  have up : ∀ x y, R x y = true → put R v u x y = true := fun x y h => by unfold put; rw [h]; rfl
  have at_ : put R v u v u = true := by simp [put]
  refine ⟨fun x y hx hy hv => up _ _ (h.lo x y hx hy hv), fun x y hx hy hR => ?_, fun x y hx hy hxy hv' => ?_⟩
  · unfold put at hR
    rw [Bool.or_eq_true] at hR
    rcases hR with hR | hR
    · exact h.snd x y hx hy hR
    · simp at hR
      obtain ⟨rfl, rfl⟩ := hR
      exact (h.snd _ _ hv hk h1).trans (h.snd _ _ hk hu h2)
  · by_cases e : x = v ∧ y = u
    · obtain ⟨rfl, rfl⟩ := e; exact at_
    · refine up _ _ (h.done x y hx hy ?_ hv')
      rcases hxy with hxy | ⟨e1, hxy⟩
      · exact Or.inl hxy
      · refine Or.inr ⟨e1, ?_⟩
        rcases Nat.lt_or_ge y u with c | c
        · exact c
        · exact absurd ⟨e1, by omega⟩ e
theorem War.skip {a : Nat → Nat → Bool} {n : Nat} {R : Nat → Nat → Bool} {k v u : Nat} (h : War a n R k v u) (hk : k < n) (hv : v < n) (hu : u < n) (h1 : R v k = false ∨ R k u = false) : War a n R k v (u + 1) := by
  refine ⟨h.lo, h.snd, fun x y hx hy hxy hv' => ?_⟩
  by_cases e : x = v ∧ y = u
  · obtain ⟨rfl, rfl⟩ := e
    rcases hv' with hv' | ⟨g1, g2⟩
    · exact h.lo _ _ hv hu hv'
    · have e1 := h.lo _ _ hv hk g1
      have e2 := h.lo _ _ hk hu g2
      rcases h1 with h1 | h1
      · rw [e1] at h1; cases h1
      · rw [e2] at h1; cases h1
  · refine h.done x y hx hy ?_ hv'
    rcases hxy with hxy | ⟨e1, hxy⟩
    · exact Or.inl hxy
    · refine Or.inr ⟨e1, ?_⟩
      rcases Nat.lt_or_ge y u with c | c
      · exact c
      · exact absurd ⟨e1, by omega⟩ e
theorem War.row {a : Nat → Nat → Bool} {n : Nat} {R : Nat → Nat → Bool} {k v : Nat} (h : War a n R k v n) : War a n R k (v + 1) 0 :=
  ⟨h.lo, h.snd, fun x y hx hy hxy => h.done x y hx hy (by
    rcases hxy with hxy | ⟨_, hxy⟩
    · by_cases e : x = v
      · exact Or.inr ⟨e, hy⟩
      · exact Or.inl (by omega)
    · omega)⟩
theorem War.next {a : Nat → Nat → Bool} {n : Nat} {R : Nat → Nat → Bool} {k : Nat} (h : War a n R k n 0) : War a n R (k + 1) 0 0 :=
  ⟨fun x y hx hy => h.done x y hx hy (Or.inl hx), h.snd, fun x y hx hy hxy => by omega⟩
theorem War.start {a : Nat → Nat → Bool} {n : Nat} : War a n a 0 0 0 := ⟨fun x y _ _ h => h, fun x y _ _ h => .one h, fun x y _ _ hxy => by omega⟩
theorem War.end_ {a : Nat → Nat → Bool} {n : Nat} {R : Nat → Nat → Bool} (h : War a n R n 0 0) (ha : ∀ x y, a x y = true → y < n) {v u : Nat} (hv : v < n) (hu : u < n) : R v u = true ↔ Plus a v u :=
  ⟨h.snd v u hv hu, fun hp => h.lo v u hv hu (hp.via ha)⟩

end Go.Proofs.YtaokbjacfdipmaaDoor
