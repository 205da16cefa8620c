/- Same: of lists of numbers, tasks, workflows; the program's and the document's. -/
import Derived.Test.YtdcfakbelnpljaaGreatDoorFlwFnd
import Derived.Test.YtdcfakbelnpljaaGreatDoorFlwCheck
import Derived.Test.YtdcfakbelnpljaaGreatDoorDagE
namespace Go.Proofs.YtdcfakbelnpljaaGreatDoor
open Go.RowKit
open Dag (Ints IRows Own1 Sl)
set_option linter.unusedVariables false
set_option maxRecDepth 100000

noncomputable def eqv {α : Type} (a b : α) : Bool := @decide (a = b) (Classical.propDecidable _)
theorem eqv_yes {α : Type} {a b : α} (h : a = b) : eqv a b = true := @decide_eq_true _ (Classical.propDecidable _) h
theorem eqv_no {α : Type} {a b : α} (h : a ≠ b) : eqv a b = false := @decide_eq_false _ (Classical.propDecidable _) h
theorem eqv_iff {α : Type} {a b : α} : eqv a b = true ↔ a = b := ⟨@of_decide_eq_true _ (Classical.propDecidable _), eqv_yes⟩
theorem take_eq {α : Type} {xs ys : List α} {k : Nat} (h : k = xs.length) (hl : xs.length = ys.length) (e : xs.take k = ys.take k) : xs = ys := by
  rwa [List.take_of_length_le (by omega), List.take_of_length_le (by omega)] at e
theorem tk_snoc {α : Type} {xs ys : List α} {k : Nat} {x : α} (hx : xs[k]? = some x) (hy : ys[k]? = some x) (e : xs.take k = ys.take k) : xs.take (k + 1) = ys.take (k + 1) := by
  rw [List.take_add_one, List.take_add_one, hx, hy, e]
theorem ne_at {α : Type} {xs ys : List α} {k : Nat} {x y : α} (hx : xs[k]? = some x) (hy : ys[k]? = some y) (h : x ≠ y) : xs ≠ ys := fun e => by
  rw [e, hy] at hx; injection hx with hx; exact h hx.symm

set_option maxHeartbeats 1600000 in
theorem sameI_gen (xs ys : List Int) (w : World) (A B : Option Addr) (c d : Nat) (h1 : Ints w A c xs) (h2 : Ints w B d ys) :
    Calls Tryz.prog 37 #[.slice A xs.length c, .slice B ys.length d] w fun e w' => e = .returned (.bool (eqv xs ys)) ∧ Below w.heap.size w w' := by
  have hlm : xs.length ≤ 9223372036854775807 := Nat.le_trans h1.len (by have := Sl.top h1; simpa [maxLen] using this)
  have H1 := Lib.hid h1; have H2 := Lib.hid h2
  clear h1 h2
  by_cases hl : xs.length = ys.length
  · have hz : ((xs.length : Int) != (ys.length : Int)) = false := by rw [hl]; simp
    have HL := Lib.hid hl
    clear hl
    go_enter Tryz.func37, Tryz.ntmps37
    go_wp2
    go_loopw [5] (fun i wr => ∃ k : Nat, k ≤ xs.length ∧ i = .int .i64 k ∧ Hid (Below w.heap.size w wr) ∧ Hid (xs.take k = ys.take k)) (fun i _ => xs.length - (intOf i).toNat)
    case atStart => exact ⟨0, Nat.zero_le _, rfl, Lib.hid (Below.refl _ _), Lib.hid rfl⟩
    case round =>
      obtain ⟨k, hk, rfl, HB, HE⟩ := hrel
      by_cases hlt : k < xs.length
      · obtain ⟨b, off, x, rfl, hx, hc⟩ := (H1.out.below HB.out).at_ hlt
        have hly : k < ys.length := by have := HL.out; omega
        obtain ⟨b', off', y, rfl, hy, hd⟩ := (H2.out.below HB.out).at_ hly
        have HX := Lib.hid hx; have HY := Lib.hid hy
        clear hx hy
        by_cases hxy : x = y
        · have hb : (x != y) = false := by simp [hxy]
          have HN := Lib.hid (tk_snoc HX.out (by rw [hxy]; exact HY.out) HE.out)
          clear hxy
          go_wp2
          go_quiet (fail)
          go_wp2
          go_roundw
          case rel => exact ⟨k + 1, by omega, by go_num, Lib.hid (blw HB.out (Dag.below_drew _ _)), HN⟩
          case measure => simp [intOf]; omega
        · have hb : (x != y) = true := by simp [hxy]
          have HN := Lib.hid (eqv_no (ne_at HX.out HY.out hxy))
          clear hxy
          go_wp2
          go_quiet (fail)
          go_wp2
          go_ret
          exact ⟨by rw [HN.out]; rfl, blw HB.out (Dag.below_drew _ _)⟩
      · have HN := Lib.hid (eqv_yes (take_eq (show k = xs.length by omega) HL.out HE.out))
        go_wp2
        go_ret
        exact ⟨by rw [HN.out]; rfl, HB.out⟩
  · have hz : ((xs.length : Int) != (ys.length : Int)) = true := by simp; omega
    have HN := Lib.hid (eqv_no (a := xs) (b := ys) fun e => hl (by rw [e]))
    clear hl
    go_enter Tryz.func37, Tryz.ntmps37
    go_wp2
    go_ret
    exact ⟨by rw [HN.out]; rfl, Below.refl _ _⟩

set_option maxHeartbeats 1600000 in
theorem eqlI_any (xs ys : List Int) (w : World) (A B : Option Addr) (c d : Nat) (h1 : Ints w A c xs) (h2 : Ints w B d ys) :
    Calls Tryz.prog 87 #[.slice A xs.length c, .slice B ys.length d] w fun e w' => e = .returned (.bool (eqv xs ys)) ∧ Below w.heap.size w w' := by
  have hlm : xs.length ≤ 9223372036854775807 := Nat.le_trans h1.len (by have := Sl.top h1; simpa [maxLen] using this)
  have H1 := Lib.hid h1; have H2 := Lib.hid h2
  clear h1 h2
  by_cases hl : xs.length = ys.length
  · have hz : ((xs.length : Int) != (ys.length : Int)) = false := by rw [hl]; simp
    have HL := Lib.hid hl
    clear hl
    go_enter Tryz.func87, Tryz.ntmps87
    go_wp2
    go_loopw [13] (fun i wr => ∃ k : Nat, k ≤ xs.length ∧ i = .int .i64 k ∧ Hid (Below w.heap.size w wr) ∧ Hid (xs.take k = ys.take k)) (fun i _ => xs.length - (intOf i).toNat)
    case atStart => exact ⟨0, Nat.zero_le _, rfl, Lib.hid (Below.refl _ _), Lib.hid rfl⟩
    case round =>
      obtain ⟨k, hk, rfl, HB, HE⟩ := hrel
      by_cases hlt : k < xs.length
      · obtain ⟨b, off, x, rfl, hx, hc⟩ := (H1.out.below HB.out).at_ hlt
        have hly : k < ys.length := by have := HL.out; omega
        obtain ⟨b', off', y, rfl, hy, hd⟩ := (H2.out.below HB.out).at_ hly
        have HX := Lib.hid hx; have HY := Lib.hid hy
        clear hx hy
        by_cases hxy : x = y
        · have hb : (x != y) = false := by simp [hxy]
          have HN := Lib.hid (tk_snoc HX.out (by rw [hxy]; exact HY.out) HE.out)
          clear hxy
          go_wp2
          go_quiet (fail)
          go_wp2
          go_roundw
          case rel => exact ⟨k + 1, by omega, by go_num, Lib.hid (blw HB.out (Dag.below_drew _ _)), HN⟩
          case measure => simp [intOf]; omega
        · have hb : (x != y) = true := by simp [hxy]
          have HN := Lib.hid (eqv_no (ne_at HX.out HY.out hxy))
          clear hxy
          go_wp2
          go_quiet (fail)
          go_wp2
          go_ret
          exact ⟨by rw [HN.out]; rfl, blw HB.out (Dag.below_drew _ _)⟩
      · have HN := Lib.hid (eqv_yes (take_eq (show k = xs.length by omega) HL.out HE.out))
        go_wp2
        go_ret
        exact ⟨by rw [HN.out]; rfl, HB.out⟩
  · have hz : ((xs.length : Int) != (ys.length : Int)) = true := by simp; omega
    have HN := Lib.hid (eqv_no (a := xs) (b := ys) fun e => hl (by rw [e]))
    clear hl
    go_enter Tryz.func87, Tryz.ntmps87
    go_wp2
    go_ret
    exact ⟨by rw [HN.out]; rfl, Below.refl _ _⟩

theorem task_ext {s t : TaskD} (h0 : s.name = t.name) (h1 : s.nodes = t.nodes) (h2 : s.wall = t.wall) (h3 : s.retry = t.retry) (h4 : s.done = t.done) (h5 : s.after = t.after) : s = t := by
  cases s; cases t; simp only at *; subst h0 h1 h2 h3 h4 h5; rfl
theorem eqv_task {s t : TaskD} (h0 : s.name = t.name) (h1 : s.nodes = t.nodes) (h2 : s.wall = t.wall) (h3 : s.retry = t.retry) (h4 : s.done = t.done) : eqv s.after t.after = eqv s t := by
  by_cases h5 : s.after = t.after
  · rw [eqv_yes h5, eqv_yes (task_ext h0 h1 h2 h3 h4 h5)]
  · rw [eqv_no h5, eqv_no fun e => h5 (by rw [e])]
set_option maxHeartbeats 1600000 in
theorem sameTask_any (s t : TaskD) (w : World) (A B : Option Addr) (c d : Nat) (h1 : Ints w A c s.after) (h2 : Ints w B d t.after) :
    Calls Tryz.prog 61 #[.agg #[.string (sb s.name), .int .i64 s.nodes, .int .i64 s.wall, .int .i64 s.retry, .bool s.done, .slice A s.after.length c], .agg #[.string (sb t.name), .int .i64 t.nodes, .int .i64 t.wall, .int .i64 t.retry, .bool t.done, .slice B t.after.length d]] w fun e w' => e = .returned (.bool (eqv s t)) ∧ Below w.heap.size w w' := by
  have H1 := Lib.hid h1; have H2 := Lib.hid h2
  clear h1 h2
  by_cases e0 : s.name = t.name
  · have g0 := beq_list e0
    by_cases e1 : s.nodes = t.nodes
    · have g1 : (s.nodes == t.nodes) = true := by simp [e1]
      by_cases e2 : s.wall = t.wall
      · have g2 : (s.wall == t.wall) = true := by simp [e2]
        by_cases e3 : s.retry = t.retry
        · have g3 : (s.retry == t.retry) = true := by simp [e3]
          by_cases e4 : s.done = t.done
          · have g4 : (s.done == t.done) = true := by simp [e4]
            have HN := Lib.hid (eqv_task e0 e1 e2 e3 e4)
            clear e0 e1 e2 e3 e4
            go_enter Tryz.func61, Tryz.ntmps61
            go_wp2_with fail
            refine (eqlI_any s.after t.after _ A B c d (H1.out.below (blw (al _ _) (al _ _))) (H2.out.below (blw (al _ _) (al _ _)))).mono ?_
            rintro e w1 ⟨rfl, hb1⟩
            go_wp2
            go_ret
            exact ⟨by rw [← HN.out]; rfl, blw (blw (al _ _) (al _ _)) hb1⟩
          · have g4 : (s.done == t.done) = false := by simp [e4]
            have HN := Lib.hid (eqv_no (a := s) (b := t) fun e => e4 (by rw [e]))
            clear e0 e1 e2 e3 e4
            go_enter Tryz.func61, Tryz.ntmps61
            go_wp2
            go_ret
            exact ⟨by rw [HN.out]; rfl, blw (al _ _) (al _ _)⟩
        · have g3 : (s.retry == t.retry) = false := by simp [e3]
          have HN := Lib.hid (eqv_no (a := s) (b := t) fun e => e3 (by rw [e]))
          clear e0 e1 e2 e3
          go_enter Tryz.func61, Tryz.ntmps61
          go_wp2
          go_ret
          exact ⟨by rw [HN.out]; rfl, blw (al _ _) (al _ _)⟩
      · have g2 : (s.wall == t.wall) = false := by simp [e2]
        have HN := Lib.hid (eqv_no (a := s) (b := t) fun e => e2 (by rw [e]))
        clear e0 e1 e2
        go_enter Tryz.func61, Tryz.ntmps61
        go_wp2
        go_ret
        exact ⟨by rw [HN.out]; rfl, blw (al _ _) (al _ _)⟩
    · have g1 : (s.nodes == t.nodes) = false := by simp [e1]
      have HN := Lib.hid (eqv_no (a := s) (b := t) fun e => e1 (by rw [e]))
      clear e0 e1
      go_enter Tryz.func61, Tryz.ntmps61
      go_wp2
      go_ret
      exact ⟨by rw [HN.out]; rfl, blw (al _ _) (al _ _)⟩
  · have g0 := bne_list e0
    have HN := Lib.hid (eqv_no (a := s) (b := t) fun e => e0 (by rw [e]))
    clear e0
    go_enter Tryz.func61, Tryz.ntmps61
    go_wp2
    go_ret
    exact ⟨by rw [HN.out]; rfl, blw (al _ _) (al _ _)⟩

set_option maxHeartbeats 1600000 in
theorem eqlF_any (xs ys : List TaskD) (w : World) (A B : Option Addr) (c d : Nat) (h1 : Tasks w A c xs) (h2 : Tasks w B d ys) :
    Calls Tryz.prog 60 #[.slice A xs.length c, .slice B ys.length d, .func (.func 61) #[] #[]] w fun e w' => e = .returned (.bool (eqv xs ys)) ∧ Below w.heap.size w w' := by
  have hlm := h1.lenI
  have H1 := Lib.hid h1; have H2 := Lib.hid h2
  clear h1 h2
  by_cases hl : xs.length = ys.length
  · have hz : ((xs.length : Int) != (ys.length : Int)) = false := by rw [hl]; simp
    have HL := Lib.hid hl
    clear hl
    go_enter Tryz.func60, Tryz.ntmps60
    go_wp2
    go_loopw [17] (fun i wr => ∃ k : Nat, k ≤ xs.length ∧ i = .int .i64 k ∧ Hid (Below w.heap.size w wr) ∧ Hid (xs.take k = ys.take k)) (fun i _ => xs.length - (intOf i).toNat)
    case atStart => exact ⟨0, Nat.zero_le _, rfl, Lib.hid (Below.refl _ _), Lib.hid rfl⟩
    case round =>
      obtain ⟨k, hk, rfl, HB, HE⟩ := hrel
      by_cases hlt : k < xs.length
      · have hly : k < ys.length := by have := HL.out; omega
        obtain ⟨s, hs⟩ : ∃ t, xs[k]? = some t := ⟨_, List.getElem?_eq_getElem hlt⟩
        obtain ⟨t, ht⟩ : ∃ t, ys[k]? = some t := ⟨_, List.getElem?_eq_getElem hly⟩
        obtain ⟨b, off, A', c', rfl, h0, h1, h2, h3, h4, h5, hi⟩ := (H1.out.below HB.out).cells k _ hs
        obtain ⟨b2, off2, A2, c2, rfl, g0, g1, g2, g3, g4, g5, gi⟩ := (H2.out.below HB.out).cells k _ ht
        have hbb : b2 < wr.heap.size := World.block_lt_of_cell? wr _ g0
        have HX := Lib.hid hs; have HY := Lib.hid ht; have HI := Lib.hid hi; have GI := Lib.hid gi
        clear hs ht hi gi
        go_wp2_with fail
        refine (sameTask_any s t _ A' A2 c' c2 (HI.out.below (blw (al _ _) (al _ _))) (GI.out.below (blw (al _ _) (al _ _)))).mono ?_
        rintro e w1 ⟨rfl, hb1⟩
        have HB1 := Lib.hid (blw HB.out (blw (blw (al _ _) (al _ _)) hb1))
        clear hb1
        by_cases hxy : s = t
        · have hq := eqv_yes hxy
          have HN := Lib.hid (tk_snoc HX.out (by rw [hxy]; exact HY.out) HE.out)
          clear hxy
          go_wp2
          go_roundw
          case rel => exact ⟨k + 1, by omega, by go_num, HB1, HN⟩
          case measure => simp [intOf]; omega
        · have hq := eqv_no hxy
          have HN := Lib.hid (eqv_no (ne_at HX.out HY.out hxy))
          clear hxy
          go_wp2
          go_ret
          exact ⟨by rw [HN.out]; rfl, HB1.out⟩
      · have HN := Lib.hid (eqv_yes (take_eq (show k = xs.length by omega) HL.out HE.out))
        go_wp2
        go_ret
        exact ⟨by rw [HN.out]; rfl, HB.out⟩
  · have hz : ((xs.length : Int) != (ys.length : Int)) = true := by simp; omega
    have HN := Lib.hid (eqv_no (a := xs) (b := ys) fun e => hl (by rw [e]))
    clear hl
    go_enter Tryz.func60, Tryz.ntmps60
    go_wp2
    go_ret
    exact ⟨by rw [HN.out]; rfl, Below.refl _ _⟩

theorem eqv_flow {f g : FlowD} (h0 : f.name = g.name) (h1 : f.deadline = g.deadline) (h2 : f.priority = g.priority) : eqv f.tasks g.tasks = eqv f g := by
  by_cases h5 : f.tasks = g.tasks
  · rw [eqv_yes h5, eqv_yes]
    cases f; cases g; simp only at *; subst h0 h1 h2 h5; rfl
  · rw [eqv_no h5, eqv_no fun e => h5 (by rw [e])]
set_option maxHeartbeats 1600000 in
theorem same_flow (f g : FlowD) (w : World) (A B : Option Addr) (c d : Nat) (h1 : Tasks w A c f.tasks) (h2 : Tasks w B d g.tasks) :
    Calls Tryz.prog 30 #[.agg #[.string (sb f.name), .int .i64 f.deadline, .int .i64 f.priority, .slice A f.tasks.length c], .agg #[.string (sb g.name), .int .i64 g.deadline, .int .i64 g.priority, .slice B g.tasks.length d]] w fun e w' => e = .returned (.bool (eqv f g)) ∧ Below w.heap.size w w' := by
  have H1 := Lib.hid h1; have H2 := Lib.hid h2
  clear h1 h2
  by_cases e0 : f.name = g.name
  · have g0 := beq_list e0
    by_cases e1 : f.deadline = g.deadline
    · have g1 : (f.deadline == g.deadline) = true := by simp [e1]
      by_cases e2 : f.priority = g.priority
      · have g2 : (f.priority == g.priority) = true := by simp [e2]
        have HN := Lib.hid (eqv_flow e0 e1 e2)
        clear e0 e1 e2
        go_enter Tryz.func30, Tryz.ntmps30
        go_wp2_with fail
        refine (eqlF_any f.tasks g.tasks _ A B c d (H1.out.below (blw (al _ _) (al _ _))) (H2.out.below (blw (al _ _) (al _ _)))).mono ?_
        rintro e w1 ⟨rfl, hb1⟩
        go_wp2
        go_ret
        exact ⟨by rw [← HN.out]; rfl, blw (blw (al _ _) (al _ _)) hb1⟩
      · have g2 : (f.priority == g.priority) = false := by simp [e2]
        have HN := Lib.hid (eqv_no (a := f) (b := g) fun e => e2 (by rw [e]))
        clear e0 e1 e2
        go_enter Tryz.func30, Tryz.ntmps30
        go_wp2
        go_ret
        exact ⟨by rw [HN.out]; rfl, blw (al _ _) (al _ _)⟩
    · have g1 : (f.deadline == g.deadline) = false := by simp [e1]
      have HN := Lib.hid (eqv_no (a := f) (b := g) fun e => e1 (by rw [e]))
      clear e0 e1
      go_enter Tryz.func30, Tryz.ntmps30
      go_wp2
      go_ret
      exact ⟨by rw [HN.out]; rfl, blw (al _ _) (al _ _)⟩
  · have g0 := bne_list e0
    have HN := Lib.hid (eqv_no (a := f) (b := g) fun e => e0 (by rw [e]))
    clear e0
    go_enter Tryz.func30, Tryz.ntmps30
    go_wp2
    go_ret
    exact ⟨by rw [HN.out]; rfl, blw (al _ _) (al _ _)⟩

end Go.Proofs.YtdcfakbelnpljaaGreatDoor
