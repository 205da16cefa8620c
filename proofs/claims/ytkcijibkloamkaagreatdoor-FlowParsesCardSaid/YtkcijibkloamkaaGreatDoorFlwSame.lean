/- Same: of lists of numbers, tasks, workflows; the program's and the document's. -/
import Derived.Test.YtkcijibkloamkaaGreatDoorFlwFnd
import Derived.Test.YtkcijibkloamkaaGreatDoorFlwCheck
import Derived.Test.YtkcijibkloamkaaGreatDoorDagE
namespace Go.Proofs.YtkcijibkloamkaaGreatDoor
open Go.RowKit
open Dag (Ints IRows Own1 Sl)
set_option linter.unusedVariables false
set_option maxRecDepth 100000

noncomputable def eqv {α : Type} (a b : α) : Bool := @decide (a = b) (Classical.propDecidable _)
theorem eqv_yes {α : Type} {a b : α} (h : a = b) : eqv a b = true := @decide_eq_true _ (Classical.propDecidable _) h
theorem eqv_no {α : Type} {a b : α} (h : a ≠ b) : eqv a b = false := @decide_eq_false _ (Classical.propDecidable _) h
theorem eqv_iff {α : Type} {a b : α} : eqv a b = true ↔ a = b := ⟨@of_decide_eq_true _ (Classical.propDecidable _), eqv_yes⟩
theorem take_eq {α : Type} {xs ys : List α} {k : Nat} (h : k = xs.length) (hl : xs.length = ys.length) (e : xs.take k = ys.take k) : xs = ys := by
  rwa [List.take_of_length_le (by omega), List.take_of_length_le (by omega)] at e
theorem tk_snoc {α : Type} {xs ys : List α} {k : Nat} {x : α} (hx : xs[k]? = some x) (hy : ys[k]? = some x) (e : xs.take k = ys.take k) : xs.take (k + 1) = ys.take (k + 1) := by
  rw [List.take_add_one, List.take_add_one, hx, hy, e]
theorem ne_at {α : Type} {xs ys : List α} {k : Nat} {x y : α} (hx : xs[k]? = some x) (hy : ys[k]? = some y) (h : x ≠ y) : xs ≠ ys := fun e => by
  rw [e, hy] at hx; injection hx with hx; exact h hx.symm

set_option maxHeartbeats 1600000 in
theorem sameI_gen (xs ys : List Int) (w : World) (A B : Option Addr) (c d : Nat) (h1 : Ints w A c xs) (h2 : Ints w B d ys) :
    Calls Tryz.prog 17 #[.slice A xs.length c, .slice B ys.length d] w fun e w' => e = .returned (.bool (eqv xs ys)) ∧ Below w.heap.size w w' := by
  have hlm : xs.length ≤ 9223372036854775807 := Nat.le_trans h1.len (by have := Sl.top h1; simpa [maxLen] using this)
  have H1 := Lib.hid h1; have H2 := Lib.hid h2
  clear h1 h2
  by_cases hl : xs.length = ys.length
  · have hz : ((xs.length : Int) != (ys.length : Int)) = false := by rw [hl]; simp
    have HL := Lib.hid hl
    clear hl
    go_enter Tryz.func17, Tryz.ntmps17
    go_wp2
    go_loopw [5] (fun i wr => ∃ k : Nat, k ≤ xs.length ∧ i = .int .i64 k ∧ Hid (Below w.heap.size w wr) ∧ Hid (xs.take k = ys.take k)) (fun i _ => xs.length - (intOf i).toNat)
    case atStart => exact ⟨0, Nat.zero_le _, rfl, Lib.hid (Below.refl _ _), Lib.hid rfl⟩
    case round =>
      obtain ⟨k, hk, rfl, HB, HE⟩ := hrel
      by_cases hlt : k < xs.length
      · obtain ⟨b, off, x, rfl, hx, hc⟩ := (H1.out.below HB.out).at_ hlt
        have hly : k < ys.length := by have := HL.out; omega
        obtain ⟨b', off', y, rfl, hy, hd⟩ := (H2.out.below HB.out).at_ hly
        have HX := Lib.hid hx; have HY := Lib.hid hy
        clear hx hy
        by_cases hxy : x = y
        · have hb : (x != y) = false := by simp [hxy]
          have HN := Lib.hid (tk_snoc HX.out (by rw [hxy]; exact HY.out) HE.out)
          clear hxy
          go_wp2
          go_quiet (fail)
          go_wp2
          go_roundw
          case rel => exact ⟨k + 1, by omega, by go_num, Lib.hid (blw HB.out (Dag.below_drew _ _)), HN⟩
          case measure => simp [intOf]; omega
        · have hb : (x != y) = true := by simp [hxy]
          have HN := Lib.hid (eqv_no (ne_at HX.out HY.out hxy))
          clear hxy
          go_wp2
          go_quiet (fail)
          go_wp2
          go_ret
          exact ⟨by rw [HN.out]; rfl, blw HB.out (Dag.below_drew _ _)⟩
      · have HN := Lib.hid (eqv_yes (take_eq (show k = xs.length by omega) HL.out HE.out))
        go_wp2
        go_ret
        exact ⟨by rw [HN.out]; rfl, HB.out⟩
  · have hz : ((xs.length : Int) != (ys.length : Int)) = true := by simp; omega
    have HN := Lib.hid (eqv_no (a := xs) (b := ys) fun e => hl (by rw [e]))
    clear hl
    go_enter Tryz.func17, Tryz.ntmps17
    go_wp2
    go_ret
    exact ⟨by rw [HN.out]; rfl, Below.refl _ _⟩

theorem task_ext {s t : TaskD} (h0 : s.name = t.name) (h1 : s.nodes = t.nodes) (h2 : s.wall = t.wall) (h3 : s.retry = t.retry) (h4 : s.done = t.done) (h5 : s.after = t.after) : s = t := by
  cases s; cases t; simp only at *; subst h0 h1 h2 h3 h4 h5; rfl
theorem eqv_task {s t : TaskD} (h0 : s.name = t.name) (h1 : s.nodes = t.nodes) (h2 : s.wall = t.wall) (h3 : s.retry = t.retry) (h4 : s.done = t.done) : eqv s.after t.after = eqv s t := by
  by_cases h5 : s.after = t.after
  · rw [eqv_yes h5, eqv_yes (task_ext h0 h1 h2 h3 h4 h5)]
  · rw [eqv_no h5, eqv_no fun e => h5 (by rw [e])]
theorem eqv_flow {f g : FlowD} (h0 : f.name = g.name) (h1 : f.deadline = g.deadline) (h2 : f.priority = g.priority) : eqv f.tasks g.tasks = eqv f g := by
  by_cases h5 : f.tasks = g.tasks
  · rw [eqv_yes h5, eqv_yes]
    cases f; cases g; simp only at *; subst h0 h1 h2 h5; rfl
  · rw [eqv_no h5, eqv_no fun e => h5 (by rw [e])]
end Go.Proofs.YtkcijibkloamkaaGreatDoor

