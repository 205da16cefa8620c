/- Layer 7: the graph of a workflow. -/
import Derived.Test.YtkicanegjkemoaaDoorRnkA
import Derived.Test.YtkicanegjkemoaaDoorFlwTabs
import Derived.Test.YtkicanegjkemoaaDoorDagF
namespace Go.Proofs.YtkicanegjkemoaaDoor
open Go.RowKit
open Dag (Ints Own1 Sl num num_len Gr newE)
set_option linter.unusedVariables false
set_option maxRecDepth 100000

theorem chk_new {f : FlowD} (h : checkE f = 0) : newE (afterL f.tasks) = 0 := by
  unfold checkE at h
  split at h
  · cases h
  · split at h
    · cases h
    · split at h
      · cases h
      · split at h
        · cases h
        · split at h
          · cases h
          · exact h
def RetG (f : FlowD) (w : World) (e : Ending) (w' : World) : Prop := ∃ p, e = .returned (.tuple #[p, .int .i64 (checkE f)]) ∧ Below w.heap.size w w' ∧ (checkE f = 0 → Dag.GrF w.heap.size w' (afterL f.tasks) p) ∧ (checkE f ≠ 0 → p = .pointer none)
set_option maxHeartbeats 1600000 in
theorem graph_any (f : FlowD) (A : Option Addr) (c : Nat) (w : World) (h : Tasks w A c f.tasks) (hT : Tb3 w) (hl : f.name.length ≤ 9000000000000000000) (hn : ∀ t ∈ f.tasks, t.name.length ≤ 9000000000000000000) (hlen : f.tasks.length ≤ 4096) (hal : ∀ t ∈ f.tasks, t.after.length ≤ 1000000) :
    Calls Tryd.prog 41 #[.agg #[.string (sb f.name), .int .i64 f.deadline, .int .i64 f.priority, .slice A f.tasks.length c]] w (RetG f w) := by
  have HC := Lib.hid fun W (hW : Below w.heap.size w W) => check_all f A c W (h.below hW) (hT.below hW) hl hn
  have HAF := Lib.hid fun W (hW : Below w.heap.size w W) => after_any f A c W (h.below hW) (by omega) (fun t ht => Nat.le_trans (hal t ht) (by decide))
  have HNW := Lib.hid fun W A' c' (hz : newE (afterL f.tasks) = 0) (hW : Below w.heap.size w W) (hr : Dag.IRows W A' c' (afterL f.tasks)) => Dag.new_fr (afterL f.tasks) f.tasks.length (afterL_len f.tasks) hz W A' c' hr hlen (fun l hm => by obtain ⟨t, ht, rfl⟩ := List.mem_map.1 hm; exact hal t ht) (hT.below hW).dag
  clear h hT hl hn hal
  unfold RetG
  obtain ⟨x, hx⟩ : ∃ x, checkE f = x := ⟨_, rfl⟩
  have HX := Lib.hid hx
  rw [hx] at HC ⊢
  clear hx
  by_cases h0 : x = 0
  case neg =>
    have hxn : (x != 0) = true := by simp [h0]
    have H0 := Lib.hid h0
    clear h0
    go_enter Tryd.func41, Tryd.ntmps41
    go_wp2_with fail
    refine (HC.out _ (al _ _)).mono ?_
    rintro e w1 ⟨rfl, hb1⟩
    have HB1 := Lib.hid (blw (al w (flowO f A c)) hb1)
    clear hb1
    go_wp2
    go_ret2
    exact ⟨_, rfl, HB1.out, fun h => absurd h H0.out, fun _ => rfl⟩
  subst h0
  have HNE := Lib.hid (chk_new HX.out)
  go_enter Tryd.func41, Tryd.ntmps41
  go_wp2_with fail
  refine (HC.out _ (al _ _)).mono ?_
  rintro e w1 ⟨rfl, hb1⟩
  have HB1 := Lib.hid (blw (al w (flowO f A c)) hb1)
  have HO1 : Hid (w1.heap[w.heap.size]? = some (flowO f A c)) := Lib.hid ((hb1.block _ (by simp)).trans (heap_alloc_new w _))
  clear hb1
  obtain ⟨p0, p1, p2, p3, hp⟩ := flowO_cells HO1.out
  go_wp2_with fail
  refine (HAF.out _ HB1.out).mono ?_
  rintro e w2 ⟨A2, c2, rfl, hr2, hb2⟩
  have HB2 := Lib.hid (blw HB1.out hb2)
  have HR2 := Lib.hid hr2
  clear hb2 hr2 p0 p1 p2 p3 hp
  go_wp2_with fail
  refine (HNW.out _ _ _ HNE.out HB2.out HR2.out).mono ?_
  rintro e w3 ⟨p, rfl, hb3, hg3⟩
  rw [HNE.out]
  have HB3 := Lib.hid (blw HB2.out hb3)
  have HG3 := Lib.hid (hg3.mono HB2.out.size)
  clear hb3 hg3
  go_wp2
  go_ret2
  exact ⟨p, rfl, HB3.out, fun _ => HG3.out, fun h => absurd rfl h⟩
end Go.Proofs.YtkicanegjkemoaaDoor

