/- Same of workflows: the document's. -/
import Derived.Test.YtkcijibkloamkaaGreatDoorFlwSame
namespace Go.Proofs.YtkcijibkloamkaaGreatDoor
open Go.RowKit
open Dag (Ints IRows Own1 Sl)
set_option linter.unusedVariables false
set_option maxRecDepth 100000

theorem bneT {a b : List UInt8} (h : a ≠ b) : ((sb a).toList != (sb b).toList) = true := by rw [bne, bne_list h]; rfl
theorem bneF {a b : List UInt8} (h : a = b) : ((sb a).toList != (sb b).toList) = false := by rw [bne, beq_list h]; rfl
set_option maxHeartbeats 6400000 in
theorem rsame_flow (f g : FlowD) (w : World) (A B : Option Addr) (c d : Nat) (h1 : Tasks w A c f.tasks) (h2 : Tasks w B d g.tasks) :
    Calls Tryz.prog 11 #[.agg #[.string (sb f.name), .int .i64 f.deadline, .int .i64 f.priority, .slice A f.tasks.length c], .agg #[.string (sb g.name), .int .i64 g.deadline, .int .i64 g.priority, .slice B g.tasks.length d]] w fun e w' => e = .returned (.bool (eqv f g)) ∧ Below w.heap.size w w' := by
  have hlm := h1.lenI
  have H1 := Lib.hid h1; have H2 := Lib.hid h2
  clear h1 h2
  by_cases e0 : f.name = g.name
  case neg =>
    have g0 := bne_list e0
    have HN := Lib.hid (eqv_no (a := f) (b := g) fun e => e0 (by rw [e]))
    clear e0
    go_enter Tryz.func11, Tryz.ntmps11
    go_wp2
    go_ret
    exact ⟨by rw [HN.out]; rfl, blw (al _ _) (al _ _)⟩
  have g0 := beq_list e0
  by_cases e1 : f.deadline = g.deadline
  case neg =>
    have g1 : (f.deadline != g.deadline) = true := by simp [e1]
    have HN := Lib.hid (eqv_no (a := f) (b := g) fun e => e1 (by rw [e]))
    clear e0 e1
    go_enter Tryz.func11, Tryz.ntmps11
    go_wp2
    go_ret
    exact ⟨by rw [HN.out]; rfl, blw (al _ _) (al _ _)⟩
  have g1 : (f.deadline != g.deadline) = false := by simp [e1]
  by_cases e2 : f.priority = g.priority
  case neg =>
    have g2 : (f.priority != g.priority) = true := by simp [e2]
    have HN := Lib.hid (eqv_no (a := f) (b := g) fun e => e2 (by rw [e]))
    clear e0 e1 e2
    go_enter Tryz.func11, Tryz.ntmps11
    go_wp2
    go_ret
    exact ⟨by rw [HN.out]; rfl, blw (al _ _) (al _ _)⟩
  have g2 : (f.priority != g.priority) = false := by simp [e2]
  by_cases hl : f.tasks.length = g.tasks.length
  case neg =>
    have hz : ((f.tasks.length : Int) != (g.tasks.length : Int)) = true := by simp; omega
    have HN := Lib.hid (eqv_no (a := f) (b := g) fun e => hl (by rw [e]))
    clear e0 e1 e2 hl
    go_enter Tryz.func11, Tryz.ntmps11
    go_wp2
    go_ret
    exact ⟨by rw [HN.out]; rfl, blw (al _ _) (al _ _)⟩
  have hz : ((f.tasks.length : Int) != (g.tasks.length : Int)) = false := by rw [hl]; simp
  have HF := Lib.hid (eqv_flow e0 e1 e2)
  have HL := Lib.hid hl
  clear e0 e1 e2 hl
  go_enter Tryz.func11, Tryz.ntmps11
  go_wp2
  have hB0 := blw (al w (flowO f A c)) (al _ (flowO g B d))
  have hO0 : ((w.alloc (flowO f A c)).alloc (flowO g B d)).heap[w.heap.size]? = some (flowO f A c) := ((al (w.alloc (flowO f A c)) _).block _ (by simp)).trans (heap_alloc_new w _)
  have hP0 : ((w.alloc (flowO f A c)).alloc (flowO g B d)).heap[w.heap.size + 1]? = some (flowO g B d) := by have := heap_alloc_new (w.alloc (flowO f A c)) (flowO g B d); simpa using this
  have hS0 : ((w.alloc (flowO f A c)).alloc (flowO g B d)).heap.size = w.heap.size + 2 := by simp
  unfold flowO at hB0 hO0 hP0 hS0
  generalize (w.alloc (.cells #[.string (sb f.name), .int .i64 f.deadline, .int .i64 f.priority, .slice A f.tasks.length c] 25)).alloc (.cells #[.string (sb g.name), .int .i64 g.deadline, .int .i64 g.priority, .slice B g.tasks.length d] 25) = w0 at hB0 hO0 hP0 hS0 ⊢
  have HB0 := Lib.hid hB0; have HO0 := Lib.hid hO0; have HP0 := Lib.hid hP0; have HS0 := Lib.hid hS0
  have H1' := Lib.hid (H1.out.below hB0); have H2' := Lib.hid (H2.out.below hB0)
  clear hB0 hO0 hP0 hS0
  go_loopw [5] (fun i wr => ∃ k : Nat, k ≤ f.tasks.length ∧ i = .int .i64 k ∧ Hid (Below w0.heap.size w0 wr) ∧ Hid (f.tasks.take k = g.tasks.take k)) (fun i _ => f.tasks.length - (intOf i).toNat)
  case atStart => exact ⟨0, Nat.zero_le _, rfl, Lib.hid (Below.refl _ _), Lib.hid rfl⟩
  case round =>
    obtain ⟨k, hk, rfl, HB, HE⟩ := hrel
    obtain ⟨p0, p1, p2, p3, hp⟩ := flowO_cells (f := f) (A := A) (c := c) ((HB.out.block _ (by rw [HS0.out]; omega)).trans HO0.out)
    obtain ⟨q0, q1, q2, q3, hq⟩ := flowO_cells (f := g) (A := B) (c := d) ((HB.out.block _ (by rw [HS0.out]; omega)).trans HP0.out)
    clear p0 p1 p2 q0 q1 q2
    by_cases hlt : k < f.tasks.length
    case neg =>
      have HN := Lib.hid (eqv_yes (take_eq (show k = f.tasks.length by omega) HL.out HE.out))
      go_wp2
      go_ret
      exact ⟨by rw [← HF.out, HN.out]; rfl, HB0.out.trans (HB.out.mono HB0.out.size)⟩
    have hly : k < g.tasks.length := by have := HL.out; omega
    obtain ⟨s, hs⟩ : ∃ t, f.tasks[k]? = some t := ⟨_, List.getElem?_eq_getElem hlt⟩
    obtain ⟨t, ht⟩ : ∃ t, g.tasks[k]? = some t := ⟨_, List.getElem?_eq_getElem hly⟩
    obtain ⟨b, off, A', c', rfl, i0, i1, i2, i3, i4, i5, hi⟩ := (H1'.out.below HB.out).cells k _ hs
    obtain ⟨b2, off2, A2, c2, rfl, j0, j1, j2, j3, j4, j5, gi⟩ := (H2'.out.below HB.out).cells k _ ht
    have hbb : b2 < wr.heap.size := World.block_lt_of_cell? wr _ j0
    have hp1 : w.heap.size < wr.heap.size := hp
    have hq1 : w.heap.size + 1 < wr.heap.size := hq
    have HX := Lib.hid hs; have HY := Lib.hid ht; have HI := Lib.hid hi; have GI := Lib.hid gi
    have HNE : Hid (s ≠ t → eqv f g = false) := Lib.hid fun h => by rw [← HF.out]; exact eqv_no (ne_at HX.out HY.out h)
    clear hs ht hi gi
    by_cases e0 : s.name = t.name
    case neg =>
      have g0 := bne_list e0
      have HN := Lib.hid (HNE.out fun e => e0 (by rw [e]))
      clear e0
      go_wp2
      go_ret
      exact ⟨by rw [HN.out]; rfl, HB0.out.trans ((blw HB.out (blw (al _ _) (al _ _))).mono HB0.out.size)⟩
    have g0 := beq_list e0
    by_cases e1 : s.nodes = t.nodes
    case neg =>
      have g1 : (s.nodes != t.nodes) = true := by simp [e1]
      have HN := Lib.hid (HNE.out fun e => e1 (by rw [e]))
      clear e0 e1
      go_wp2
      go_ret
      exact ⟨by rw [HN.out]; rfl, HB0.out.trans ((blw HB.out (blw (al _ _) (al _ _))).mono HB0.out.size)⟩
    have g1 : (s.nodes != t.nodes) = false := by simp [e1]
    by_cases e2 : s.wall = t.wall
    case neg =>
      have g2 : (s.wall != t.wall) = true := by simp [e2]
      have HN := Lib.hid (HNE.out fun e => e2 (by rw [e]))
      clear e0 e1 e2
      go_wp2
      go_ret
      exact ⟨by rw [HN.out]; rfl, HB0.out.trans ((blw HB.out (blw (al _ _) (al _ _))).mono HB0.out.size)⟩
    have g2 : (s.wall != t.wall) = false := by simp [e2]
    by_cases e3 : s.retry = t.retry
    case neg =>
      have g3 : (s.retry != t.retry) = true := by simp [e3]
      have HN := Lib.hid (HNE.out fun e => e3 (by rw [e]))
      clear e0 e1 e2 e3
      go_wp2
      go_ret
      exact ⟨by rw [HN.out]; rfl, HB0.out.trans ((blw HB.out (blw (al _ _) (al _ _))).mono HB0.out.size)⟩
    have g3 : (s.retry != t.retry) = false := by simp [e3]
    by_cases e4 : s.done = t.done
    case neg =>
      have g4 : (s.done != t.done) = true := by simp [e4]
      have HN := Lib.hid (HNE.out fun e => e4 (by rw [e]))
      clear g4
      clear e0 e1 e2 e3
      go_wp2
      go_ret
      exact ⟨by rw [HN.out]; rfl, HB0.out.trans ((blw HB.out (blw (al _ _) (al _ _))).mono HB0.out.size)⟩
    have g4 : (s.done != t.done) = false := by simp [e4]
    have HT := Lib.hid (eqv_task e0 e1 e2 e3 e4)
    clear e0 e1 e2 e3 g4
    go_wp2_with fail
    refine (sameI_gen s.after t.after _ A' A2 c' c2 (HI.out.below (blw (al _ _) (al _ _))) (GI.out.below (blw (al _ _) (al _ _)))).mono ?_
    rw [HT.out]
    rintro e w1 ⟨rfl, hb1⟩
    have HB1 := Lib.hid (blw HB.out (blw (blw (al _ _) (al _ _)) hb1))
    clear hb1
    by_cases hxy : s = t
    · have hq2 := eqv_yes hxy
      have HN := Lib.hid (tk_snoc HX.out (by rw [hxy]; exact HY.out) HE.out)
      clear hxy
      go_wp2
      go_roundw
      case rel => exact ⟨k + 1, by omega, by go_num, HB1, HN⟩
      case measure => simp [intOf]; omega
    · have hq2 := eqv_no hxy
      have HN := Lib.hid (HNE.out hxy)
      clear hxy
      go_wp2
      go_ret
      exact ⟨by rw [HN.out]; rfl, HB0.out.trans (HB1.out.mono HB0.out.size)⟩

end Go.Proofs.YtkcijibkloamkaaGreatDoor

