/- Find; slices.Clone of numbers and of tasks, in memory of the call's own. -/
import Derived.Test.YtkcijibkloamkaaGreatDoorFlwSame
import Derived.Test.YtkcijibkloamkaaGreatDoorFlwRead
namespace Go.Proofs.YtkcijibkloamkaaGreatDoor
open Go.RowKit
open Dag (Ints IRows Own1 OwnI Sl ints info_int)
set_option linter.unusedVariables false
set_option maxRecDepth 100000

/-! Find -/
theorem findI_low (ts : List TaskD) (s : List UInt8) : -1 ≤ findI ts s ∧ findI ts s ≤ ts.length := by
  unfold findI
  split
  · have := List.idxOf_lt_length_of_mem (by assumption : s ∈ names ts)
    simp only [names, List.length_map] at this ⊢
    omega
  · omega
/-! slices.Clone -/
theorem clone_own (xs : List Int) (n : Nat) (he : xs.length = n) (w : World) (A : Option Addr) (c : Nat) (h : Ints w A c xs) (hn : n ≤ 100000000) :
    Calls Tryz.prog 93 #[.slice A n c] w fun e w' => ∃ A' c', e = .returned (.slice A' n c') ∧ OwnI w' w.heap.size (.slice A' n c') xs ∧ Below w.heap.size w w' := by
  have HE := Lib.hid he
  have q30 := fun (W : World) (a : Option Addr) (n c n' c' : Nat) => Lib.run_eql_slice_nil W 34 3 a n c n' c' Tryz.underlying34
  cases A with
  | none =>
    have hc := Sl.nil h rfl
    have hx : xs = [] := List.eq_nil_of_length_eq_zero (by have := h.len; omega)
    subst hx hc
    obtain rfl : n = 0 := by simpa using he.symm
    clear he
    go_enter Tryz.func93, Tryz.ntmps93
    go_wp2
    go_ret
    exact ⟨none, 0, rfl, Own1.nil _ _ _, Below.refl _ _⟩
  | some a =>
    have H := Lib.hid h; clear h he
    have own0 : Own1 (w.alloc (.cells #[] 3)) w.heap.size 3 (.slice (some ⟨w.heap.size, 0, none⟩) 0 0) [] := by
      have := Own1.lit w w.heap.size 3 (Nat.le_refl _) [] (by simp [maxLen])
      simpa using this
    have OWN := Lib.hid own0; clear own0
    go_enter Tryz.func93, Tryz.ntmps93
    go_wp2_with (at_builtin; refine Dag.wpList_appg rfl _ _ 34 3 (.int .i64 0) 8 Tryz.underlying34 info_int rfl (by decide) rfl w.heap.size (.slice (some ⟨w.heap.size, 0, none⟩) 0 0) [] rfl OWN.out (some a) c n (ints xs) (by rw [Dag.ints_len, HE.out]) rfl (Sl.below H.out ((Below.refl _ _).alloc (Nat.le_refl _) _)) (Dag.ints_one xs) (by rw [Dag.ints_len, HE.out]; simp; omega) (by simp) ?_; intro l A9 c9 w9 el ho9 hg9 hb9 hbl9; have HO9 := Lib.hid ho9; have HBL := Lib.hid hbl9; have EL := Lib.hid el; clear ho9 hg9 hb9 hbl9 el)
    go_ret
    have el : l = ints xs := by rw [EL.out, List.nil_append]
    subst el
    have hn2 : (ints xs).length = n := by rw [Dag.ints_len, HE.out]
    have ho := HO9.out
    rw [hn2] at ho ⊢
    exact ⟨A9, c9, rfl, ho, ((Below.refl _ _).alloc (Nat.le_refl _) _).trans HBL.out⟩

/-- a task, and where its links lie -/
abbrev TaskA := TaskD × Option Addr × Nat
def tkC (x : TaskA) : List Value := [.string (sb x.1.name), .int .i64 x.1.nodes, .int .i64 x.1.wall, .int .i64 x.1.retry, .bool x.1.done, .slice x.2.1 x.1.after.length x.2.2]
theorem tkC_len (x : TaskA) : (tkC x).length = 6 := rfl
theorem tkC_one (x : TaskA) : ∀ u ∈ tkC x, u.oneCell' = true := by
  intro u hu
  simp only [tkC, List.mem_cons, List.mem_nil_iff, or_false] at hu
  rcases hu with rfl | rfl | rfl | rfl | rfl | rfl <;> rfl
theorem flat_one {α : Type} {c : α → List Value} (h : ∀ x, ∀ u ∈ c x, u.oneCell' = true) : ∀ l : List α, ∀ u ∈ flat c l, u.oneCell' = true
  | [], u, hu => by cases hu
  | x :: l, u, hu => by
    rw [flat] at hu
    rcases List.mem_append.1 hu with hu | hu
    · exact h x u hu
    · exact flat_one h l u hu
theorem flat_split {α : Type} {c : α → List Value} {sz : Nat} (hc : ∀ a, (c a).length = sz) (hsz : 0 < sz) : ∀ (l : List α) (i : Nat) (u : Value), (flat c l)[i]? = some u → ∃ k j a, i = k * sz + j ∧ j < sz ∧ l[k]? = some a ∧ (c a)[j]? = some u
  | [], i, u, h => by simp [flat] at h
  | x :: l, i, u, h => by
    rw [flat] at h
    rcases Nat.lt_or_ge i sz with hi | hi
    · rw [List.getElem?_append_left (by rw [hc]; exact hi)] at h
      exact ⟨0, i, x, by omega, hi, rfl, h⟩
    · rw [List.getElem?_append_right (by rw [hc]; exact hi), hc] at h
      obtain ⟨k, j, a, e, hj, ha, hu⟩ := flat_split hc hsz l (i - sz) u h
      exact ⟨k + 1, j, a, by rw [Nat.succ_mul]; omega, hj, by simpa using ha, hu⟩
/-- the tasks of a slice, and where each one's links lie -/
theorem Tasks.list {w : World} {A : Option Addr} {c : Nat} {ts : List TaskD} (h : Tasks w A c ts) : ∃ L : List TaskA, L.map Prod.fst = ts ∧ (∀ x ∈ L, Ints w x.2.1 x.2.2 x.1.after) ∧ ∀ k x, L[k]? = some x → ∃ b off, A = some ⟨b, off, none⟩ ∧ ∀ j u, (tkC x)[j]? = some u → w.cell? ⟨b, off + k * 6 + j, none⟩ = some u := by
  have hc := h.cells
  have key : ∀ n, n ≤ ts.length → ∃ L : List TaskA, L.map Prod.fst = ts.take n ∧ (∀ x ∈ L, Ints w x.2.1 x.2.2 x.1.after) ∧ ∀ k x, L[k]? = some x → ∃ b off, A = some ⟨b, off, none⟩ ∧ ∀ j u, (tkC x)[j]? = some u → w.cell? ⟨b, off + k * 6 + j, none⟩ = some u := by
    intro n
    induction n with
    | zero => intro _; exact ⟨[], by simp, (fun x hx => by cases hx), (fun k x hx => by simp at hx)⟩
    | succ n ih =>
      intro hn
      obtain ⟨L, h1, h2, h3⟩ := ih (by omega)
      obtain ⟨t, ht⟩ : ∃ t, ts[n]? = some t := ⟨_, List.getElem?_eq_getElem (by omega)⟩
      obtain ⟨b, off, A', c', e, g0, g1, g2, g3, g4, g5, hi⟩ := hc n t ht
      have hl : L.length = n := by have := congrArg List.length h1; simpa [Nat.min_eq_left (show n ≤ ts.length by omega)] using this
      refine ⟨L ++ [(t, A', c')], ?_, fun x hx => ?_, fun k x hx => ?_⟩
      · rw [List.map_append, h1, List.take_add_one, ht]; rfl
      · rcases List.mem_append.1 hx with hx | hx
        · exact h2 x hx
        · simp at hx; subst hx; exact hi
      · rcases Nat.lt_or_ge k L.length with hk | hk
        · rw [List.getElem?_append_left hk] at hx
          exact h3 k x hx
        · rw [List.getElem?_append_right hk] at hx
          have hz : k - L.length = 0 := by
            have := (List.getElem?_eq_some_iff.1 hx).1
            simp at this; omega
          rw [hz] at hx
          simp at hx
          obtain rfl : k = n := by omega
          subst hx
          refine ⟨b, off, e, fun j u hu => ?_⟩
          match j, hu with
          | 0, hu => simp [tkC] at hu; subst hu; exact g0
          | 1, hu => simp [tkC] at hu; subst hu; exact g1
          | 2, hu => simp [tkC] at hu; subst hu; exact g2
          | 3, hu => simp [tkC] at hu; subst hu; exact g3
          | 4, hu => simp [tkC] at hu; subst hu; exact g4
          | 5, hu => simp [tkC] at hu; subst hu; exact g5
          | j + 6, hu => simp [tkC] at hu
  obtain ⟨L, h1, h2, h3⟩ := key ts.length (Nat.le_refl _)
  rw [List.take_length] at h1
  exact ⟨L, h1, h2, h3⟩
end Go.Proofs.YtkcijibkloamkaaGreatDoor

