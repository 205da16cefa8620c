/- All numbers of a set in a slice: AppendSeq, Collect. -/
import Derived.Test.YtaokbjacfdipmaaDoorDagRange
namespace Go.Proofs.YtaokbjacfdipmaaDoor
open Go.RowKit Go.Shelf
set_option linter.unusedVariables false
attribute [local go_sem] Oper.semAt_some

def RetC (w : World) (xs : List Int) (e : Ending) (w' : World) : Prop := ∃ A c, e = .returned (.slice A xs.length c) ∧ Ints w' A c xs ∧ Below w.heap.size w w'

set_option maxRecDepth 100000 in
set_option maxHeartbeats 2000000 in
theorem append_in (m N wd base : Nat) (v : Value) (w : World) (hN : N ≤ 30) (hs : SetAt w base N v wd) (hT : Tab w) :
    CallsIn Fence.wide m Tryd.prog 51 #[.slice none 0 0, .func (.func 45) #[v] #[]] w (RetC w (num (bitsL N wd))) := by
  obtain ⟨i0, hi0, hz0, hz1, hz2⟩ := info_parts info_int
  have HT := Lib.hid hT; clear hT
  have HS := Lib.hid hs; clear hs
  refine callsIn_of_wp_marks Tryd.func51 rfl trivial ?_ rfl
  simp only [Tryd.ntmps51, List.size_toArray, List.length_cons, List.length_nil, Nat.reduceAdd, Nat.reduceSub, Array.replicate_succ, Array.replicate_zero, List.push_toArray, List.append_toArray, List.nil_append, List.cons_append]
  gi_wp2_with fail
  have bO := Boxed.new w 30 (.slice none 0 0)
  have hB0 : Below w.heap.size w (w.alloc (.cells #[.slice none 0 0] 30)) := (Below.refl _ w).alloc (Nat.le_refl _) _
  refine range_set v base N wd rfl rfl hN (HS.out.below hB0)
    (fun pre W => (∃ vo, Boxed W w.heap.size 30 vo ∧ W.ownsRow w.heap.size 3 1 vo (ints (num pre)).length (ints (num pre)) ∧ True) ∧ Below w.heap.size w W) (fun _ _ _ => False)
    (OwnFrom.and (Own.from (holdsRow_own w.heap.size w.heap.size 30 3 1 (fun pre => (ints (num pre)).length) (fun pre => ints (num pre)) (fun _ _ => True)) _) (ownFrom_below (Nat.le_refl _) (by simp)))
    (fun _ _ _ _ _ hs _ _ => hs) ?tab ⟨⟨_, bO, World.ownsRow_nil _ _ _ _, trivial⟩, hB0⟩
    (fun x => { tmps := #[.slice none 0 0, .func (.func 45) #[v] #[], .pointer (some ⟨w.heap.size, 0, none⟩), undef, .slice none 0 0, .int .i64 (x : Int), .func (.func 45) #[v] #[], .int .i64 (x : Int), undef, undef, undef, undef, undef], defers := [] }) ?assign ?body ?done ?stop
  case tab =>
    rintro pre X ⟨_, hB⟩
    exact HT.out.below hB HT.out.lt
  case assign =>
    intro l x X K hK
    gi_wp2
    exact hK
  case body =>
    rintro l pre x X ⟨⟨vo, hv, hrow, _⟩, hB⟩ ⟨post, hpost⟩
    have hc := hv.cell
    have hpl : (ints (num pre)).length ≤ 30 := by
      rw [ints_len, num_len]
      have := bitsL_len N wd
      rw [hpost] at this
      simp at this
      omega
    have HPOST := Lib.hid hpost; clear hpost
    gi_wp2_with (gi_at_builtin; refine wpListIn_append_own _ rfl _ _ 30 rfl w.heap.size 3 i0 (.int .i64 0) 1 8 Tryd.underlying30 hi0 hz0 hz1 hz2 rfl (by decide) _ _ _ rfl (hrow.alloc _) ⟨X.heap.size, 0, none⟩ 1 1 [.int .i64 (x : Int)] rfl rfl (cell_one_new _ _ _) (by simp [Value.oneCell']) (by simp only [maxLen]; omega) (by omega) (by have := hB.size; simp; omega) ?_; intro v' w1 hown' hgrow _; obtain ⟨g', cap', rfl⟩ := ownsRow_succ hown'; obtain ⟨hv1, hv2, hr2, hk2, hb2⟩ := hv.appended (by decide) hrow hB.size (Nat.le_refl _) hown' hgrow; have hc1 := hv1.cell; have hf1 := hv1.frozen)
    refine ⟨hk2, trivial, ⟨_, hv2, ?_, trivial⟩, hB.trans hb2⟩
    rw [num_app, ints_app, List.length_append]
    exact hr2
  case done =>
    rintro D X hD ⟨⟨vo, hv, hrow, _⟩, hB⟩ hK
    have hc := hv.cell
    obtain ⟨A, c, rfl, hi⟩ := OwnI.ints (w := X) (base := w.heap.size) (v := vo) (xs := num (bitsL N wd)) hrow
    gi_wp2_with fail
    refine ⟨by simp, .inl ⟨_, _, rfl, run_takeDeferred hK, ?_⟩⟩
    refine ⟨_, results_tmp rfl _ _ _, A, c, rfl, ?_, hB.trans (belowK_b (w := w) (Nat.le_refl _) X D _ _ (by simp at hD; omega) hK rfl rfl)⟩
    exact (OwnI.ints' (ownsRow_putObj hrow _ hK rfl)).2
  case stop =>
    rintro D c pre X _ h _
    exact h.elim

theorem collect_any (N wd base : Nat) (v : Value) (w : World) (hN : N ≤ 30) (hs : SetAt w base N v wd) (hT : Tab w) :
    Calls Tryd.prog 48 #[.func (.func 45) #[v] #[]] w (RetC w (num (bitsL N wd))) := by
  have HT := Lib.hid hT; clear hT
  have HS := Lib.hid hs; clear hs
  go_enter Tryd.func48, Tryd.ntmps48
  go_wp2_with fail
  refine ((callsIn_wide (n := 0)).1 (append_in 0 N wd base v _ hN HS.out HT.out)).mono ?_
  rintro e w1 ⟨A, c, rfl, hi, hb⟩
  have HI := Lib.hid hi; have HB := Lib.hid hb; clear hi hb
  go_wp2
  go_ret
  exact ⟨A, c, rfl, HI.out, HB.out⟩

end Go.Proofs.YtaokbjacfdipmaaDoor
