/- Layer 8: more than is looked at: long. -/
import Derived.Test.YtkicanegjkemoaaDoorFlwFnd
namespace Go.Proofs.YtkicanegjkemoaaDoor
open Go.RowKit
open Dag (Ints)
set_option linter.unusedVariables false
set_option maxRecDepth 100000

set_option maxHeartbeats 1600000 in
theorem long8_any (f : FlowD) (A : Option Addr) (c : Nat) (w : World) (h : Tasks w A c f.tasks) (hs : Small f) :
    Calls Tryd.prog 6 #[.agg #[.string (sb f.name), .int .i64 f.deadline, .int .i64 f.priority, .slice A f.tasks.length c]] w fun e w' => e = .returned (.bool (longD f)) ∧ Below w.heap.size w w' := by
  have hlm := h.lenI
  have H := Lib.hid h; clear h
  by_cases hn : 30 < f.tasks.length
  · have HF := Lib.hid (show longD f = true from decide_eq_true (Or.inl hn))
    clear hs
    go_enter Tryd.func6, Tryd.ntmps6
    go_wp2_with fail
    refine (size_some f A c _ (H.out.below (al _ _))).mono ?_
    rintro e w1 ⟨⟨x, rfl⟩, hb1⟩
    have HB1 := Lib.hid (blw (al w (flowO f A c)) hb1)
    obtain ⟨p0, p1, p2, p3, hp⟩ := flowO_cells (f := f) (A := A) (c := c) ((hb1.block w.heap.size (by simp)).trans (heap_alloc_new w _))
    by_cases hx : 500 < x
    · go_wp2
      go_ret
      exact ⟨by rw [HF.out]; rfl, HB1.out⟩
    · go_wp2
      go_ret
      exact ⟨by rw [HF.out]; exact ret_or (by simp; omega), HB1.out⟩
  · have hn2 : f.tasks.length ≤ 30 := by omega
    have hn3 : ¬ (30 : Int) < (f.tasks.length : Int) := by omega
    have HS := Lib.hid hs
    clear hs hn
    obtain ⟨z, hz⟩ : ∃ z, sizeD f = z := ⟨_, rfl⟩
    have hF : longD f = decide (500 < z) := by unfold longD; rw [hz]; simp; omega
    have HF := Lib.hid hF
    have HZ := Lib.hid hz
    clear hF hz
    go_enter Tryd.func6, Tryd.ntmps6
    go_wp2_with fail
    refine (size_few f A c _ (H.out.below (al _ _)) hn2 HS.out).mono ?_
    rw [HZ.out]
    rintro e w1 ⟨rfl, hb1⟩
    have HB1 := Lib.hid (blw (al w (flowO f A c)) hb1)
    obtain ⟨p0, p1, p2, p3, hp⟩ := flowO_cells (f := f) (A := A) (c := c) ((hb1.block w.heap.size (by simp)).trans (heap_alloc_new w _))
    by_cases hx : 500 < z
    · have hx2 : (500 : Int) < (z : Int) := by omega
      have HX := Lib.hid (decide_eq_true hx)
      go_wp2
      go_ret
      exact ⟨by rw [HF.out, HX.out]; rfl, HB1.out⟩
    · have hx2 : ¬ (500 : Int) < (z : Int) := by omega
      have HX := Lib.hid (decide_eq_false hx)
      go_wp2
      go_ret
      exact ⟨by rw [HF.out, HX.out]; exact ret_or (by simp; omega), HB1.out⟩


end Go.Proofs.YtkicanegjkemoaaDoor

