/- The document's reading of lines, beside the program's: in plain words. No program. -/
import Derived.Test.YtkcijibkloamkaaGreatDoorFlwLen
namespace Go.Proofs.YtkcijibkloamkaaGreatDoor
open Txt (nameD dec sameS joinL linesA wordsA linesE linesV wordsE wordsV catL Word gap ctl ctlL)
open Clk (isT readE readV textL txt)
open Dag (num num_mem)
set_option linter.unusedVariables false
set_option maxRecDepth 100000

theorem fullL_len (links : List (List Nat × List Nat)) (n w : Nat) (ts : List TaskP) : (fullL links n w ts).length = ts.length := full_len links n ts w
theorem flow_at (s : St) (i : Nat) : s.flow.tasks[i]? = (s.tasks[i]?).map (TaskP.full s.links s.tasks.length i) := by
  have := fullL_at s.links s.tasks.length s.tasks 0 i
  rw [Nat.zero_add] at this
  exact this
theorem flow_len (s : St) : s.flow.tasks.length = s.tasks.length := full_len _ _ _ _
theorem flow_nms (s : St) : names s.flow.tasks = namesP s.tasks := full_names _ _ _ _
theorem flow_ext {a b : FlowD} (h1 : a.name = b.name) (h2 : a.deadline = b.deadline) (h3 : a.priority = b.priority) (h4 : ∀ i : Nat, a.tasks[i]? = b.tasks[i]?) : a = b := by
  obtain ⟨a1, a2, a3, a4⟩ := a
  obtain ⟨b1, b2, b3, b4⟩ := b
  simp only at h1 h2 h3 h4
  subst h1 h2 h3
  rw [List.ext_getElem? h4]
/-- one task is another one -/
theorem flow_set {s : St} {v : Nat} {p p' : TaskP} (h : s.tasks[v]? = some p) : ({ s with tasks := s.tasks.set v p' } : St).flow = { s.flow with tasks := s.flow.tasks.set v (p'.full s.links s.tasks.length v) } := by
  refine flow_ext rfl rfl rfl fun i => ?_
  rw [flow_at]
  simp only [List.length_set]
  have hv := (List.getElem?_eq_some_iff.1 h).1
  by_cases e : v = i
  · subst e
    rw [List.getElem?_set_self hv, List.getElem?_set_self (by rw [flow_len]; exact hv)]; rfl
  · rw [List.getElem?_set_ne e, List.getElem?_set_ne e, flow_at]
theorem aft_more {links : List (List Nat × List Nat)} {n w : Nat} (h : LinksIn n links) : aft links (n + 1) w = aft links n w := by
  unfold aft
  rw [List.range_succ, List.filter_append]
  have : List.filter (fun v => links.any fun k => decide (v ∈ k.1) && decide (w ∈ k.2)) [n] = [] := by
    rw [List.filter_cons_of_neg, List.filter_nil]
    simp only [Bool.not_eq_true, List.any_eq_false]
    intro k hk
    have := (h k hk).1
    have hn : n ∉ k.1 := fun hm => Nat.lt_irrefl _ (this n hm)
    simp [hn]
  rw [this, List.append_nil]
theorem aft_none {links : List (List Nat × List Nat)} {n m w : Nat} (h : LinksIn n links) (hw : n ≤ w) : aft links m w = [] := by
  unfold aft
  rw [List.filter_eq_nil_iff]
  intro v _
  simp only [Bool.not_eq_true, List.any_eq_false]
  intro k hk
  have hn : w ∉ k.2 := fun hm => by have := (h k hk).2 w hm; omega
  simp [hn]
/-- a task more -/
theorem flow_job {s : St} (hI : Inv s) (a : List UInt8) : ({ s with tasks := s.tasks ++ [newTask a] } : St).flow = { s.flow with tasks := s.flow.tasks ++ [⟨a, 1, 1, 0, false, []⟩] } := by
  refine flow_ext rfl rfl rfl fun i => ?_
  rw [flow_at]
  simp only [List.length_append, List.length_cons, List.length_nil]
  rcases Nat.lt_trichotomy i s.tasks.length with hi | hi | hi
  · rw [List.getElem?_append_left hi, List.getElem?_append_left (by rw [flow_len]; exact hi), flow_at, List.getElem?_eq_getElem hi]
    simp only [Option.map_some]
    unfold TaskP.full
    rw [aft_more hI.links]
  · subst hi
    rw [List.getElem?_append_right (Nat.le_refl _), List.getElem?_append_right (by rw [flow_len]; exact Nat.le_refl _), flow_len, Nat.sub_self]
    simp only [List.getElem?_cons_zero, Option.map_some]
    unfold TaskP.full
    rw [aft_none hI.links (Nat.le_refl _)]; rfl
  · rw [List.getElem?_eq_none (by simp; omega), List.getElem?_eq_none (by simp [flow_len]; omega)]; rfl
/-- one child waits for more -/
def linkOne (ps : List Nat) (ts : List TaskD) (k : Nat) : List TaskD := match ts[k]? with
  | some t => ts.set k { t with after := num ((List.range ts.length).filter fun u => decide ((u : Int) ∈ t.after) || decide (u ∈ ps)) }
  | none => ts
theorem linkOne_len (ps : List Nat) (ts : List TaskD) (k : Nat) : (linkOne ps ts k).length = ts.length := by
  unfold linkOne; split <;> simp
theorem linkOne_names (ps : List Nat) (ts : List TaskD) (k : Nat) : names (linkOne ps ts k) = names ts := by
  unfold linkOne
  split
  · rename_i t ht
    unfold names
    rw [List.map_set]
    apply List.ext_getElem?
    intro j
    by_cases e : k = j
    · subst e
      rw [List.getElem?_set_self (by rw [List.length_map]; exact (List.getElem?_eq_some_iff.1 ht).1), List.getElem?_map, ht]; rfl
    · rw [List.getElem?_set_ne e]
  · rfl
theorem num_filter_mem {n : Nat} {p : Nat → Bool} {u : Nat} : (u : Int) ∈ num ((List.range n).filter p) ↔ u < n ∧ p u = true := by
  rw [num_mem, List.mem_filter, List.mem_range]
/-- so the children stand behind the first k of them -/
theorem links_at {s : St} (ps cs : List Nat) : ∀ i : Nat, (cs.foldl (linkOne ps) s.flow.tasks)[i]? = (s.tasks[i]?).map (TaskP.full (s.links ++ [(ps, cs)]) s.tasks.length i) := by
  have key : ∀ (c : List Nat) (ts : List TaskD), ts.length = s.tasks.length → (∀ (i : Nat) (t : TaskD), ts[i]? = some t → ∃ P : Nat → Bool, t.after = num ((List.range ts.length).filter P)) →
      ∀ i : Nat, (c.foldl (linkOne ps) ts)[i]? = (ts[i]?).map fun (t : TaskD) => { t with after := if i ∈ c then num ((List.range ts.length).filter fun u => decide ((u : Int) ∈ t.after) || decide (u ∈ ps)) else t.after } := by
    intro c
    induction c with
    | nil =>
      intro ts _ _ i
      simp only [List.foldl_nil, List.not_mem_nil, if_false]
      cases ts[i]? <;> rfl
    | cons k c ih =>
      intro ts hl hP i
      rw [List.foldl_cons]
      have hl' : (linkOne ps ts k).length = ts.length := linkOne_len ps ts k
      have hat : ∀ j : Nat, (linkOne ps ts k)[j]? = (ts[j]?).map fun (t : TaskD) => { t with after := if j = k then num ((List.range ts.length).filter fun u => decide ((u : Int) ∈ t.after) || decide (u ∈ ps)) else t.after } := by
        intro j
        unfold linkOne
        split
        · rename_i t ht
          by_cases e : k = j
          · subst e
            rw [List.getElem?_set_self (List.getElem?_eq_some_iff.1 ht).1, ht]; simp
          · rw [List.getElem?_set_ne e]
            have e' : ¬ j = k := fun h => e h.symm
            simp only [e', if_false]
            cases ts[j]? <;> rfl
        · rename_i hn
          by_cases e : j = k
          · subst e; rw [hn]; rfl
          · simp only [e, if_false]
            cases ts[j]? <;> rfl
      rw [ih (linkOne ps ts k) (by rw [hl', hl]) (fun j t ht => ?_) i, hat i, hl']
      · cases hti : ts[i]? with
        | none => rfl
        | some t =>
          simp only [Option.map_some, Option.some.injEq, TaskD.mk.injEq, true_and]
          by_cases e1 : i ∈ c
          · rw [if_pos e1, if_pos (List.mem_cons_of_mem _ e1)]
            by_cases e2 : i = k
            · rw [if_pos e2]
              congr 1
              apply List.filter_congr
              intro u hu
              have hu' := List.mem_range.1 hu
              rw [Bool.eq_iff_iff]
              simp only [Bool.or_eq_true, decide_eq_true_eq, num_filter_mem]
              constructor
              · rintro (⟨_, h | h⟩ | h)
                · exact Or.inl h
                · exact Or.inr h
                · exact Or.inr h
              · rintro (h | h)
                · exact Or.inl ⟨hu', Or.inl h⟩
                · exact Or.inr h
            · rw [if_neg e2]
          · rw [if_neg e1]
            by_cases e2 : i = k
            · rw [if_pos e2, if_pos (by rw [e2]; simp)]
            · rw [if_neg e2, if_neg (by simp [e1, e2])]
      · rw [hat j] at ht
        obtain ⟨t0, h0, rfl⟩ := Option.map_eq_some_iff.1 ht
        rw [hl']
        by_cases e : j = k
        · exact ⟨_, if_pos e⟩
        · obtain ⟨P, hP'⟩ := hP j t0 h0
          exact ⟨P, by simp only [e, if_false]; exact hP'⟩
  intro i
  rw [key cs s.flow.tasks (flow_len s) (fun j t ht => by
    rw [flow_at] at ht
    obtain ⟨p, hp, rfl⟩ := Option.map_eq_some_iff.1 ht
    rw [flow_len]
    exact ⟨_, rfl⟩) i, flow_at, flow_len]
  cases hp : s.tasks[i]? with
  | none => rfl
  | some p =>
    simp only [Option.map_some, Option.some.injEq]
    unfold TaskP.full
    simp only [TaskD.mk.injEq, true_and]
    have haft : aft (s.links ++ [(ps, cs)]) s.tasks.length i = (List.range s.tasks.length).filter fun u => (s.links.any fun k => decide (u ∈ k.1) && decide (i ∈ k.2)) || (decide (u ∈ ps) && decide (i ∈ cs)) := by
      unfold aft
      apply List.filter_congr
      intro u _
      rw [List.any_append]
      simp
    rw [haft]
    by_cases e : i ∈ cs
    · rw [if_pos e]
      congr 1
      apply List.filter_congr
      intro u hu
      have hu' := List.mem_range.1 hu
      rw [Bool.eq_iff_iff]
      unfold aft
      simp only [Bool.or_eq_true, Bool.and_eq_true, decide_eq_true_eq, num_filter_mem, e, and_true]
      constructor
      · rintro (⟨_, h⟩ | h)
        · exact Or.inl h
        · exact Or.inr h
      · rintro (h | h)
        · exact Or.inl ⟨hu', h⟩
        · exact Or.inr h
    · rw [if_neg e]
      unfold aft
      congr 1
      apply List.filter_congr
      intro u _
      simp [e]
theorem flow_links {s : St} (ps cs : List Nat) : ({ s with links := s.links ++ [(ps, cs)] } : St).flow = { s.flow with tasks := cs.foldl (linkOne ps) s.flow.tasks } := by
  refine flow_ext rfl rfl rfl fun i => ?_
  rw [flow_at]
  exact (links_at ps cs i).symm
/-- what the document keeps of what was said, beside what the program keeps -/
def tag (k : Nat) (n : List UInt8) : List UInt8 := kwB k ++ 32 :: n
structure Rl (H : List (List UInt8)) (s : St) : Prop where
  h1 : kwB 1 ∈ H ↔ s.had 1 = true
  h2 : kwB 2 ∈ H ↔ s.had 2 = true
  ht : ∀ p ∈ s.tasks, ∀ k, 4 ≤ k → k ≤ 7 → (tag k p.name ∈ H ↔ p.told k = true)
  hn : ∀ k n, 4 ≤ k → k ≤ 7 → tag k n ∈ H → n ∈ namesP s.tasks
  nd : (namesP s.tasks).Nodup
end Go.Proofs.YtkcijibkloamkaaGreatDoor

