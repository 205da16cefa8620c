/- Plain words for the document's links: one child after the other, one parent after the other. No program. -/
import Derived.Test.YtkcijibkloamkaaGreatDoorFlwDoc2
namespace Go.Proofs.YtkcijibkloamkaaGreatDoor
open Dag (num num_mem)
set_option linter.unusedVariables false

theorem linkOne_set {ts : List TaskD} {k : Nat} {t : TaskD} (ps : List Nat) (h : ts[k]? = some t) :
    linkOne ps ts k = ts.set k { t with after := num ((List.range ts.length).filter fun u => decide ((u : Int) ∈ t.after) || decide (u ∈ ps)) } := by
  unfold linkOne; rw [h]

theorem links_names (ps cs : List Nat) : ∀ ts : List TaskD, names (cs.foldl (linkOne ps) ts) = names ts := by
  induction cs with
  | nil => intro ts; rfl
  | cons k cs ih => intro ts; rw [List.foldl_cons, ih, linkOne_names]

theorem links_len (ps cs : List Nat) : ∀ ts : List TaskD, (cs.foldl (linkOne ps) ts).length = ts.length := by
  induction cs with
  | nil => intro ts; rfl
  | cons k cs ih => intro ts; rw [List.foldl_cons, ih, linkOne_len]

theorem fold_take {α β : Type _} (f : β → α → β) (l : List α) (b : β) {i : Nat} {x : α} (h : l[i]? = some x) :
    (l.take (i + 1)).foldl f b = f ((l.take i).foldl f b) x := by
  rw [List.take_add_one, h, List.foldl_append]; rfl

theorem num_filter_succ (p : Nat → Bool) (u : Nat) :
    num ((List.range (u + 1)).filter p) = num ((List.range u).filter p) ++ (if p u then [(u : Int)] else []) := by
  rw [List.range_succ, List.filter_append]
  unfold num
  rw [List.map_append]
  congr 1
  cases h : p u <;> simp [h]

theorem mem_take_succ {l : List Nat} {j x u : Nat} (h : l[j]? = some x) :
    decide (u ∈ l.take (j + 1)) = (decide (u ∈ l.take j) || decide (x = u)) := by
  rw [List.take_add_one, h, Option.toList_some]
  have e : (u ∈ l.take j ++ [x]) ↔ (u ∈ l.take j ∨ x = u) := by
    rw [List.mem_append, List.mem_singleton]; exact ⟨fun a => a.imp id Eq.symm, fun a => a.imp id Eq.symm⟩
  rw [decide_eq_decide.2 e, Bool.decide_or]
end Go.Proofs.YtkcijibkloamkaaGreatDoor

