/- Layer 7: Up in plain words: from the last one in the order on. No program. -/
import Derived.Test.YtkicanegjkemoaaDoorRnkPure
namespace Go.Proofs.YtkicanegjkemoaaDoor
open Dag (num num_mem num_len Ord order befL behL bef_mem beh_mem order_ord arc)
set_option linter.unusedVariables false

structure UpK (ts : List TaskD) (pre : List Nat) (xs : List Int) : Prop where
  len : xs.length = ts.length
  at_ : ∀ u x, xs[u]? = some x → u ∈ pre → x = upD ts u ∧ x ≤ maxT
theorem UpK.start (ts : List TaskD) {xs : List Int} (h : xs.length = ts.length) : UpK ts [] xs := ⟨h, fun u x _ hu => by simp at hu⟩
section
variable {ts : List TaskD} (hf : (order (afterL ts)).length = ts.length) (hV : Dag.Valid (afterL ts))
include hf hV
theorem rev_behind {pre rest : List Nat} {v w : Nat} (h : (order (afterL ts)).reverse = pre ++ v :: rest) (hw : w ∈ behL (afterL ts) v) : v < ts.length ∧ w < ts.length ∧ w ∈ pre := by
  obtain ⟨h1, h2, h3⟩ := up_arc hf hV hw
  refine ⟨h1, h2, ?_⟩
  have ho : order (afterL ts) = rest.reverse ++ v :: pre.reverse := by
    have := congrArg List.reverse h
    rw [List.reverse_reverse] at this
    rw [this]; simp
  have hnd := (order_ord (afterL ts)).nodup
  have hp : posD ts v < posD ts w := by
    obtain ⟨q1, q2⟩ := bef_beh hw
    have hb : v ∈ befL (afterL ts) w := bef_mem.2 ⟨by rw [afterL_len]; exact h1, q2⟩
    exact pos_arc hf h2 hb
  have hm := (ord_all hf w).2 h2
  have hva : v ∉ rest.reverse := fun hin => by
    rw [ho, List.nodup_append] at hnd
    exact hnd.2.2 v hin v (by simp) rfl
  have hpv : posD ts v = rest.reverse.length := by
    unfold posD
    rw [ho, List.idxOf_append, if_neg hva, List.idxOf_cons_self]; omega
  rw [ho, List.mem_append, List.mem_cons] at hm
  rcases hm with hm | rfl | hm
  · have h4 : posD ts w < rest.reverse.length := by
      unfold posD
      rw [ho, List.idxOf_append, if_pos hm]
      exact List.idxOf_lt_length_of_mem hm
    omega
  · omega
  · simpa using hm
theorem UpK.sum {pre rest : List Nat} {v : Nat} {xs : List Int} (h : UpK ts pre xs) (hr : (order (afterL ts)).reverse = pre ++ v :: rest) (hv : v < ts.length) : maxL ((behL (afterL ts) v).map (atL xs)) + wtAt ts v = upD ts v := by
  rw [upD_step hf hV hv]
  unfold upS
  have : (behL (afterL ts) v).map (atL xs) = (behL (afterL ts) v).map (upD ts) := List.map_congr_left fun w hw => by
    obtain ⟨_, h2, h3⟩ := rev_behind hf hV hr hw
    obtain ⟨x, hx⟩ : ∃ x, xs[w]? = some x := ⟨_, List.getElem?_eq_getElem (by rw [h.len]; exact h2)⟩
    rw [atL_some hx]
    exact (h.at_ w x hx h3).1
  rw [this]
theorem UpK.bound {pre rest : List Nat} {v : Nat} {xs : List Int} (h : UpK ts pre xs) (hr : (order (afterL ts)).reverse = pre ++ v :: rest) : 0 ≤ maxL ((behL (afterL ts) v).map (atL xs)) ∧ maxL ((behL (afterL ts) v).map (atL xs)) ≤ maxT := by
  refine ⟨maxL_nonneg _, maxL_le (by decide) fun y hy => ?_⟩
  obtain ⟨w, hw, rfl⟩ := List.mem_map.1 hy
  obtain ⟨_, h2, h3⟩ := rev_behind hf hV hr hw
  obtain ⟨x, hx⟩ : ∃ x, xs[w]? = some x := ⟨_, List.getElem?_eq_getElem (by rw [h.len]; exact h2)⟩
  rw [atL_some hx]
  exact (h.at_ w x hx h3).2
omit hf hV in
theorem UpK.step {pre : List Nat} {v : Nat} {xs : List Int} (h : UpK ts pre xs) (hle : upD ts v ≤ maxT) : UpK ts (pre ++ [v]) (xs.set v (upD ts v)) := by
  refine ⟨by rw [List.length_set, h.len], fun u x hx hu => ?_⟩
  by_cases e : v = u
  · subst e
    have hl := (List.getElem?_eq_some_iff.1 hx).1
    rw [List.length_set] at hl
    rw [List.getElem?_set_self hl] at hx
    injection hx with hx
    subst hx
    exact ⟨rfl, hle⟩
  · rw [List.getElem?_set_ne e] at hx
    rw [List.mem_append, List.mem_singleton] at hu
    exact h.at_ u x hx (hu.resolve_right fun e' => e e'.symm)
omit hV in
theorem UpK.fin {xs : List Int} (h : UpK ts (order (afterL ts)).reverse xs) : okU ts.length (upD ts) = true ∧ xs = numsU ts.length (upD ts) := by
  have hall : ∀ u x, xs[u]? = some x → x = upD ts u ∧ x ≤ maxT := fun u x hx => by
    have hu := (List.getElem?_eq_some_iff.1 hx).1
    rw [h.len] at hu
    exact h.at_ u x hx (List.mem_reverse.2 ((ord_all hf u).2 hu))
  refine ⟨okU_iff.2 fun v hv => ?_, ?_⟩
  · obtain ⟨x, hx⟩ : ∃ x, xs[v]? = some x := ⟨_, List.getElem?_eq_getElem (by rw [h.len]; exact hv)⟩
    obtain ⟨h1, h2⟩ := hall v x hx
    omega
  · apply List.ext_getElem?
    intro i
    unfold numsU
    by_cases hi : i < ts.length
    · obtain ⟨x, hx⟩ : ∃ x, xs[i]? = some x := ⟨_, List.getElem?_eq_getElem (by rw [h.len]; exact hi)⟩
      rw [hx, List.getElem?_map, List.getElem?_range hi, (hall i x hx).1]; rfl
    · rw [List.getElem?_eq_none (by rw [h.len]; omega), List.getElem?_eq_none (by simp; omega)]
omit hf hV in
theorem up_over {n v : Nat} {U : Nat → Int} (hv : v < n) (h : maxT < U v) : okU n U = false := by
  cases e : okU n U with
  | false => rfl
  | true => have := okU_iff.1 e v hv; omega
end
end Go.Proofs.YtkicanegjkemoaaDoor

