/- Arguments that are slices of slices of bytes: how long each of them is at most, by the form's own reach. -/
import Derived.Test.YtieeojigonbifaaJrnArg
import Derived.SizedLaws
namespace Go.Proofs.Ytieeojigonbifaa
open Go.ChangeShapes Go.WideShapes Go.ChangeAt Go.RowKit
set_option linter.unusedVariables false
section
variable {H : Type} {enc : TypeId × Value → H} {w : World}

theorem weights_all {p : Nat → Bool} {e : TypeId} {l : List (DataW H)} {d : DataW H} (h : (DataW.weightsAll Try.prog e l).all p = true) (hd : d ∈ l) : (d.weights Try.prog e).all p = true := by
  induction l with
  | nil => cases hd
  | cons x l ih =>
    rw [DataW.weightsAll, List.all_append, Bool.and_eq_true] at h
    rcases List.mem_cons.1 hd with rfl | hd
    · exact h.1
    · exact ih h.2 hd
theorem weights_at {ts : List TypeId} {ds : List (DataW H)} (h : (DataW.weightsEach Try.prog ts ds).all (· ≤ reachBytes) = true) {j : Nat} {t : TypeId} {d : DataW H} (ht : ts[j]? = some t) (hd : ds[j]? = some d) :
    (d.weights Try.prog t).all (· ≤ reachBytes) = true :=
  List.all_eq_true.2 fun n hn => List.all_eq_true.1 h _ (DataW.weights_mem_each ht hd n hn)

theorem rows_sized {fuel : Nat} {v : Value} {x : DataW H × List MemPlace} (h : DataW.trod enc Try.prog w 0 (fun _ => true) true fuel 34 [v] = some x) (hz : (x.1.weights Try.prog 34).all (· ≤ reachBytes) = true)
    {A : Option Addr} {c : Nat} {ls : List (List Int)} (hv : v = .slice A ls.length c) (hr : Rws w (fun _ => True) A c ls) : ∀ xs ∈ ls, xs.length ≤ 140737488351232 := by
  intro xs hxs
  obtain ⟨k, hk⟩ := List.getElem?_of_mem hxs
  have hkl := (List.getElem?_eq_some_iff.1 hk).1
  obtain ⟨b, off, A', c', hA, _, hcell, hB⟩ := hr.cells k xs hk
  rcases Go.Deep.open_slice1 Try.underlying34 (by kernel_rfl) h with ⟨hcs, hx⟩ | ⟨a, l, cp, m, n, V, D, Pl, hcs, _, hl, hm, hmm, hx, hi⟩
  · simp at hcs
    rw [hv] at hcs
    injection hcs with _ e _
    omega
  · simp at hcs
    rw [hv] at hcs
    injection hcs with ea eb ec
    subst eb
    simp only [if_true] at hmm
    obtain ⟨h1, h2⟩ := hi k (by omega)
    rw [ea] at hA
    injection hA with hA
    rw [hA, Go.WideShapes.add_plain, hcell] at h1
    injection h1 with h1
    subst hx
    simp only [DataW.weights, Try.underlying34, List.all_cons, List.all_append, Bool.and_eq_true] at hz
    have hz2 := weights_all hz.2.1 (d := D k) (List.mem_map.2 ⟨k, List.mem_range.2 hkl, rfl⟩)
    rw [← h1] at h2
    rcases open_ints Try.underlying22 Try.underlying5 (by kernel_rfl) h2 with ⟨hcs, hx⟩ | ⟨a, l, c, zs, hcs, _, hl, hm, hz', hx, _, _⟩
    · simp at hcs
      rw [hcs.2.1]; simp
    · simp at hcs
      have hx1 : D k = .slice (lits .u8 (zs.take l)) (lits .u8 (zs.drop l)) := congrArg Prod.fst hx
      rw [hx1] at hz2
      have hb : Try.prog.bytesOf 5 = 1 := by kernel_rfl
      simp only [DataW.weights, Try.underlying22, List.all_cons, Bool.and_eq_true, hb] at hz2
      have := of_decide_eq_true hz2.1
      simp [lits] at this
      simp only [if_true] at hz'
      unfold reachBytes at this
      omega
end

end Go.Proofs.Ytieeojigonbifaa
