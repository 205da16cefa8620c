/- The document's reading of lines, beside the program's: one line more keeps both together: in plain words. No program. -/
import Derived.Test.YtkcijibkloamkaaGreatDoorFlwDoc
namespace Go.Proofs.YtkcijibkloamkaaGreatDoor
open Clk (readE readV)
set_option linter.unusedVariables false
set_option maxRecDepth 100000

theorem tag_inj {j k : Nat} {n m : List UInt8} (hj : 4 ≤ j ∧ j ≤ 7) (hk : 4 ≤ k ∧ k ≤ 7) (h : tag j n = tag k m) : j = k ∧ n = m := by
  obtain ⟨j1, j2⟩ := hj
  obtain ⟨k1, k2⟩ := hk
  have hj : j = 4 ∨ j = 5 ∨ j = 6 ∨ j = 7 := by omega
  have hk : k = 4 ∨ k = 5 ∨ k = 6 ∨ k = 7 := by omega
  rcases hj with rfl | rfl | rfl | rfl <;> rcases hk with rfl | rfl | rfl | rfl <;> simp [tag, kwB] at h <;> first | exact ⟨rfl, h⟩ | (exfalso; revert h; decide) | skip
theorem tag_kw {j k : Nat} {n : List UInt8} (hj : 4 ≤ j ∧ j ≤ 7) (hk : k = 1 ∨ k = 2) : tag j n ≠ kwB k := by
  obtain ⟨j1, j2⟩ := hj
  have hj : j = 4 ∨ j = 5 ∨ j = 6 ∨ j = 7 := by omega
  rcases hj with rfl | rfl | rfl | rfl <;> rcases hk with rfl | rfl <;> simp [tag, kwB]
theorem nameP_at {s : St} {v : Nat} {p : TaskP} (h : s.tasks[v]? = some p) : p.name ∈ namesP s.tasks := List.mem_map_of_mem (List.mem_of_getElem? h)
theorem names_set {ts : List TaskP} {v : Nat} {p p' : TaskP} (h : ts[v]? = some p) (hn : p'.name = p.name) : namesP (ts.set v p') = namesP ts := by
  unfold namesP
  rw [List.map_set, hn]
  apply List.ext_getElem?
  intro j
  by_cases e : v = j
  · subst e
    rw [List.getElem?_set_self (by rw [List.length_map]; exact (List.getElem?_eq_some_iff.1 h).1), List.getElem?_map, h]; rfl
  · rw [List.getElem?_set_ne e]
theorem Rl.start : Rl [] St.start := ⟨by simp [St.start, no9], by simp [St.start, no9], fun p hp => by simp [St.start] at hp, fun k n _ _ h => by simp at h, by simp [St.start, namesP]⟩
/-- a line of one task -/
theorem Rl.tell {H : List (List UInt8)} {s : St} (h : Rl H s) {v : Nat} {p : TaskP} (hp : s.tasks[v]? = some p) {k : Nat} (hk : 4 ≤ k ∧ k ≤ 7) (x : Int) : Rl (H ++ [tag k p.name]) { s with tasks := s.tasks.set v ((p.mark k).put k x) } := by
  have hnm : ((p.mark k).put k x).name = p.name := put_name _ _ _
  have hns := names_set (p' := (p.mark k).put k x) hp hnm
  have hv := (List.getElem?_eq_some_iff.1 hp).1
  have htold : ∀ j, ((p.mark k).put k x).told j = (j == k || p.told j) := fun j => by rw [put_told]; rfl
  refine ⟨?_, ?_, fun q hq j j1 j2 => ?_, fun j n j1 j2 hm => ?_, by simp only [hns]; exact h.nd⟩
  · rw [List.mem_append, List.mem_singleton]
    exact ⟨fun e => e.elim h.h1.1 fun e => absurd e.symm (tag_kw hk (Or.inl rfl)), fun e => Or.inl (h.h1.2 e)⟩
  · rw [List.mem_append, List.mem_singleton]
    exact ⟨fun e => e.elim h.h2.1 fun e => absurd e.symm (tag_kw hk (Or.inr rfl)), fun e => Or.inl (h.h2.2 e)⟩
  · rw [List.mem_append, List.mem_singleton]
    obtain ⟨i, hi⟩ := List.getElem?_of_mem hq
    by_cases e : v = i
    · subst e
      rw [List.getElem?_set_self hv] at hi
      injection hi with hi
      subst hi
      rw [hnm, htold, Bool.or_eq_true, beq_iff_eq]
      have h0 := h.ht p (List.mem_of_getElem? hp) j j1 j2
      constructor
      · rintro (e | e)
        · exact Or.inr (h0.1 e)
        · exact Or.inl (tag_inj ⟨j1, j2⟩ hk e).1
      · rintro (e | e)
        · subst e; exact Or.inr rfl
        · exact Or.inl (h0.2 e)
    · rw [List.getElem?_set_ne e] at hi
      have h0 := h.ht q (List.mem_of_getElem? hi) j j1 j2
      have hne : q.name ≠ p.name := fun hq2 => by
        have a1 : (namesP s.tasks)[v]? = some p.name := by unfold namesP; rw [List.getElem?_map, hp]; rfl
        have a2 : (namesP s.tasks)[i]? = some p.name := by unfold namesP; rw [List.getElem?_map, hi, ← hq2]; rfl
        have hvl := (List.getElem?_eq_some_iff.1 a1).1
        exact e ((List.getElem?_inj hvl h.nd).1 (a1.trans a2.symm))
      exact ⟨fun e => e.elim h0.1 fun e => absurd (tag_inj ⟨j1, j2⟩ hk e).2 hne, fun e => Or.inl (h0.2 e)⟩
  · rw [List.mem_append, List.mem_singleton] at hm
    simp only [hns]
    rcases hm with hm | hm
    · exact h.hn j n j1 j2 hm
    · rw [(tag_inj ⟨j1, j2⟩ hk hm).2]; exact nameP_at hp
/-- a number of the whole -/
theorem Rl.set {H : List (List UInt8)} {s : St} (h : Rl H s) {k : Nat} (hk : k = 1 ∨ k = 2) {s' : St} (ht : s'.tasks = s.tasks) (hh : s'.had = upB s.had k) : Rl (H ++ [kwB k]) s' := by
  have k1 : ∀ j n, 4 ≤ j → j ≤ 7 → (tag j n ∈ H ++ [kwB k] ↔ tag j n ∈ H) := fun j n j1 j2 => by
    rw [List.mem_append, List.mem_singleton]
    exact ⟨fun e => e.elim id fun e => absurd e (tag_kw ⟨j1, j2⟩ hk), Or.inl⟩
  have k2 : ∀ j, (j = 1 ∨ j = 2) → (kwB j ∈ H ++ [kwB k] ↔ (j = k ∨ kwB j ∈ H)) := fun j hj => by
    rw [List.mem_append, List.mem_singleton]
    have : kwB j = kwB k ↔ j = k := by
      rcases hj with rfl | rfl <;> rcases hk with rfl | rfl <;> simp [kwB]
    rw [this]
    exact or_comm
  refine ⟨?_, ?_, fun q hq j j1 j2 => ?_, fun j n j1 j2 hm => ?_, by rw [ht]; exact h.nd⟩
  · rw [k2 1 (Or.inl rfl), hh, h.h1]; unfold upB; rw [Bool.or_eq_true, beq_iff_eq]
  · rw [k2 2 (Or.inr rfl), hh, h.h2]; unfold upB; rw [Bool.or_eq_true, beq_iff_eq]
  · rw [ht] at hq; rw [k1 j _ j1 j2]; exact h.ht q hq j j1 j2
  · rw [ht]; exact h.hn j n j1 j2 ((k1 j n j1 j2).1 hm)
/-- the name -/
theorem Rl.begin {H : List (List UInt8)} {s : St} (h : Rl H s) (a : List UInt8) : Rl H { s with name := a, had := upB s.had 0 } :=
  ⟨h.h1, h.h2, h.ht, h.hn, h.nd⟩
/-- a link -/
theorem Rl.link {H : List (List UInt8)} {s : St} (h : Rl H s) (x : List Nat × List Nat) : Rl H { s with links := s.links ++ [x] } :=
  ⟨h.h1, h.h2, h.ht, h.hn, h.nd⟩
/-- a task more -/
theorem Rl.job {H : List (List UInt8)} {s : St} (h : Rl H s) {a : List UInt8} (ha : a ∉ namesP s.tasks) : Rl H { s with tasks := s.tasks ++ [newTask a] } := by
  have hnn : namesP (s.tasks ++ [newTask a]) = namesP s.tasks ++ [a] := by unfold namesP newTask; simp
  refine ⟨h.h1, h.h2, fun q hq j j1 j2 => ?_, fun j n j1 j2 hm => ?_, ?_⟩
  · rcases List.mem_append.1 hq with hq | hq
    · exact h.ht q hq j j1 j2
    · simp at hq; subst hq
      refine ⟨fun e => absurd (h.hn j _ j1 j2 e) ha, fun e => by simp [newTask, no9] at e⟩
  · simp only [hnn, List.mem_append]
    exact Or.inl (h.hn j n j1 j2 hm)
  · simp only [hnn]
    exact List.nodup_append.2 ⟨h.nd, by simp, fun x hx y hy => by simp at hy; subst hy; exact fun e => ha (e ▸ hx)⟩
end Go.Proofs.YtkcijibkloamkaaGreatDoor

