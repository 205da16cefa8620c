/- Layer 8: the program's Holds, where windows hold. -/
import Derived.Test.YtkicanegjkemoaaDoorSplD
namespace Go.Proofs.YtkicanegjkemoaaDoor
open Go.RowKit Go.Shelf
set_option linter.unusedVariables false
set_option maxRecDepth 100000

set_option maxHeartbeats 800000 in
theorem clip_nil (t : Int) (w : World) (h0 : 0 ≤ t) (h1 : t ≤ 1099511627775) :
    Calls Tryd.prog 55 #[.int .i64 t, .slice none 0 0] w fun e w' => e = .returned (.int .i64 t) ∧ w = w' := by
  go_enter Tryd.func55, Tryd.ntmps55
  go_wp2
  go_step3
  go_wp2
  go_step3
  go_wp2
  go_loop [5, 14] (fun s i => i = .int .i64 0 ∧ s = .int .i64 t) (fun _ i => 0)
  case atStart => exact ⟨rfl, by rw [show min (max t 0) 1099511627775 = t from by omega]⟩
  case round =>
    obtain ⟨rfl, rfl⟩ := hrel
    go_wp2
    try rw [Exit.noGoto_ret]
    go_ret
    exact ⟨rfl, rfl⟩
set_option maxHeartbeats 800000 in
theorem wide_yes (x y d : Int) (w : World) (h0 : 0 ≤ x) (h1 : y ≤ 1099511627775) (hd : 0 ≤ d) (h2 : x + d ≤ y) :
    Calls Tryd.prog 30 #[.agg #[.int .i64 x, .int .i64 y], .int .i64 d] w fun e w' => e = .returned (.bool true) ∧ Below w.heap.size w w' := by
  have HX := Lib.hid fun (W : World) => clip_nil x W h0 (by omega)
  have HY := Lib.hid fun (W : World) => clip_nil y W (by omega) h1
  go_enter Tryd.func30, Tryd.ntmps30
  go_wp2_with fail
  have hw2 := heap_alloc_new w (.cells #[.int .i64 x, .int .i64 y] 37)
  have hB2 := Lib.hid (al w (.cells #[.int .i64 x, .int .i64 y] 37))
  generalize w.alloc (.cells #[.int .i64 x, .int .i64 y] 37) = x0 at hw2 hB2 ⊢
  have s0 : x0.drew.cell? ⟨w.heap.size, 0, none⟩ = some (.int .i64 x) ∧ x0.drew.cell? ⟨w.heap.size, 1, none⟩ = some (.int .i64 y) := ⟨(Dag.blk_cell hw2 0).trans rfl, (Dag.blk_cell hw2 1).trans rfl⟩
  have t0 := Lib.hid s0
  clear hw2
  go_region_held3 (fun (W : World) => W.cell? ⟨w.heap.size, 0, none⟩ = some (.int .i64 x) ∧ W.cell? ⟨w.heap.size, 1, none⟩ = some (.int .i64 y)) (first | exact s0) (first
    | (go_at_call_of 55 x; refine (HX.out _).mono ?_; rintro e x1 ⟨rfl, rfl⟩)
    | (go_at_call_of 55 y; refine (HY.out _).mono ?_; rintro e x1 ⟨rfl, rfl⟩))
  all_goals
    obtain ⟨c0, c1⟩ := t0.out
    go_wp2
    go_ret
    refine ⟨?_, blw hB2.out (bdrew _ _)⟩
    show Ending.returned (.bool (decide (d ≤ y - x))) = _
    rw [decide_eq_true (by omega)]
/-- what a task of windows that hold finds -/
theorem hold_at {f : FlowD} {l : List WinD} (hh : holdD f l = true) {v : Nat} {t : TaskD} {x : WinD} (ht : f.tasks[v]? = some t) (hx : l[v]? = some x) :
    0 ≤ x.fr ∧ x.by_ ≤ 1099511627775 ∧ 0 ≤ wgt t ∧ x.fr + wgt t ≤ x.by_ ∧ ∀ (i : Nat) (u : Int), t.after[i]? = some u → ∃ (n : Nat) (y : WinD), u = n ∧ n < l.length ∧ l[n]? = some y ∧ y.by_ + wgt t ≤ x.by_ := by
  unfold holdD at hh
  simp only [Bool.and_eq_true, decide_eq_true_eq, List.all_eq_true, List.mem_range] at hh
  obtain ⟨h1, h2, h3⟩ := hh
  obtain ⟨_, hV, hw⟩ := chk_facts h1
  have hwt := (hw v).1
  rw [wtAt_some ht] at hwt
  have h4 := h3 v (List.getElem?_eq_some_iff.1 hx).1
  unfold holdB at h4
  rw [ht, hx] at h4
  simp only [hold1, Bool.and_eq_true, decide_eq_true_eq, List.all_eq_true] at h4
  obtain ⟨a1, a2, a3, a4⟩ := h4
  refine ⟨(isT_iff.1 a1).1, (isT_iff.1 a2).2, hwt, a3, fun i u hu => ?_⟩
  have hm := List.mem_of_getElem? hu
  obtain ⟨b1, b2, _⟩ := after_bef hV ht hm
  have b3 := a4 u hm
  have hy : l[u.toNat]? = some l[u.toNat] := List.getElem?_eq_getElem (by omega)
  rw [hy] at b3
  exact ⟨u.toNat, l[u.toNat], by omega, by omega, hy, of_decide_eq_true b3⟩
set_option maxHeartbeats 1600000 in
theorem holds_yes (f : FlowD) (A : Option Addr) (c : Nat) (l : List WinD) (B : Option Addr) (d : Nat) (w : World) (h : FlA w f A c) (hl : Wins w B d l) (hh : holdD f l = true) :
    Calls Tryd.prog 13 #[.agg #[.string (sb f.name), .int .i64 f.deadline, .int .i64 f.priority, .slice A f.tasks.length c], .slice B l.length d] w fun e w' => e = .returned (.bool true) ∧ Below w.heap.size w w' := by
  have HA := Lib.hid fun (v : Nat) (t : TaskD) (x : WinD) (ht : f.tasks[v]? = some t) (hx : l[v]? = some x) => hold_at hh ht hx
  have hck : checkE f = 0 ∧ l.length = f.tasks.length := by
    unfold holdD at hh
    simp only [Bool.and_eq_true, decide_eq_true_eq] at hh
    exact ⟨hh.1, hh.2.1⟩
  have HC := Lib.hid fun W (hW : Below w.heap.size w W) => check_all f A c W (h.tasks.below hW) (h.tb.below hW) (by have := h.nm; omega) (fun t ht => by have := h.nms t ht; omega)
  rw [hck.1] at HC
  have hlen := h.len
  have hll := hck.2
  have H := Lib.hid h.tasks
  have HAF := Lib.hid h.aft
  have HV := Lib.hid hl
  clear hh hck h hl
  rw [hll]
  have HLL := Lib.hid hll
  clear hll
  go_enter Tryd.func13, Tryd.ntmps13
  go_wp2
  refine wp_scope_straight ?_
  go_wp2_with fail
  refine (HC.out _ (al _ _)).mono ?_
  rintro e w1 ⟨rfl, hb1⟩
  have HB1 := Lib.hid (blw (al w (flowO f A c)) hb1)
  have HO1 : Hid (w1.heap[w.heap.size]? = some (flowO f A c)) := Lib.hid ((hb1.block _ (by simp)).trans (heap_alloc_new w _))
  clear hb1 HC
  obtain ⟨p0, p1, p2, p3, hp⟩ := flowO_cells HO1.out
  go_wp2
  refine wp_label ?_
  go_wp2
  go_loopw [5, 25] (fun s i wr => ∃ k : Nat, k ≤ f.tasks.length ∧ i = .int .i64 k ∧ s = .bool true ∧ Hid (Below w1.heap.size w1 wr)) (fun _ i _ => f.tasks.length - (intOf i).toNat)
  case atStart => exact ⟨0, Nat.zero_le _, rfl, rfl, Lib.hid (Below.refl _ _)⟩
  case round =>
    obtain ⟨wA, rfl⟩ : ∃ x, x = wr := ⟨wr, rfl⟩
    obtain ⟨k, hk, rfl, rfl, HX⟩ := hrel
    have HXW := Lib.hid (blw HB1.out HX.out)
    by_cases hlt : k < f.tasks.length
    · obtain ⟨t, ht⟩ : ∃ t, f.tasks[k]? = some t := ⟨_, List.getElem?_eq_getElem hlt⟩
      obtain ⟨x, hx⟩ : ∃ x, l[k]? = some x := ⟨_, List.getElem?_eq_getElem (by rw [HLL.out]; exact hlt)⟩
      obtain ⟨a0, a1, a2, a3, a4⟩ := HA.out k t x ht hx
      obtain ⟨b, off, A2, c2, eA, h0, h1, h2, h3, h4, h5, hI⟩ := (H.out.below HXW.out).cells k _ ht
      subst eA
      have hal := HAF.out t (List.mem_of_getElem? ht)
      obtain ⟨b1, o1, eB, g1, g2⟩ := (HV.out.below HXW.out).cells k x hx
      have HT4 := Lib.hid a4
      obtain ⟨av, hav⟩ : ∃ av, wgt t = av := ⟨_, rfl⟩
      have HWT := Lib.hid fun (W : World) => weight_any t A2 c2 W
      rw [hav] at HWT a2 a3 HT4
      have HWD := Lib.hid fun (W : World) => wide_yes x.fr x.by_ av W a0 a1 a2 a3
      have HI := Lib.hid hI
      subst eB
      clear ht hx hav a4 hI
      have hw2 := heap_alloc_new wA (.cells #[.string (sb t.name), .int .i64 t.nodes, .int .i64 t.wall, .int .i64 t.retry, .bool t.done, .slice A2 t.after.length c2] 43)
      have hB2 := Lib.hid (al wA (.cells #[.string (sb t.name), .int .i64 t.nodes, .int .i64 t.wall, .int .i64 t.retry, .bool t.done, .slice A2 t.after.length c2] 43))
      go_wp2_with fail
      generalize wA.alloc (.cells #[.string (sb t.name), .int .i64 t.nodes, .int .i64 t.wall, .int .i64 t.retry, .bool t.done, .slice A2 t.after.length c2] 43) = x0 at hw2 hB2 ⊢
      generalize wA.heap.size = tb at hw2 ⊢
      refine (HWT.out _).mono ?_
      rintro e x1 ⟨rfl, hb1⟩
      have HQ1 := Lib.hid (blw hB2.out hb1)
      have s5 : x1.cell? ⟨tb, 5, none⟩ = some (.slice A2 t.after.length c2) := kp_cell hb1 ((Dag.blk_cell hw2 5).trans rfl)
      have g3 := kp_cell HQ1.out g1; have g4 := kp_cell HQ1.out g2
      clear hb1 hw2 hB2 g1 g2 h0 h1 h2 h3 h4 h5
      go_wp2_with fail
      refine (HWD.out _).mono ?_
      rintro e x2 ⟨rfl, hb2⟩
      have HQ2 := Lib.hid (blw HQ1.out hb2)
      have s6 := kp_cell hb2 s5
      have g5 := kp_cell hb2 g3; have g6 := kp_cell hb2 g4
      clear hb2 s5 g3 g4 HQ1
      have HI2 := Lib.hid (HI.out.below HQ2.out)
      have HV2 := Lib.hid (HV.out.below (blw HXW.out HQ2.out))
      clear HI HWD HWT
      go_wp2_with fail
      go_loopw [5, 42] (fun s i wr => ∃ j : Nat, j ≤ t.after.length ∧ i = .int .i64 j ∧ s = .bool true ∧ Hid (Below x2.heap.size x2 wr)) (fun _ i _ => t.after.length - (intOf i).toNat)
      case atStart => exact ⟨0, Nat.zero_le _, rfl, rfl, Lib.hid (Below.refl _ _)⟩
      case round =>
        obtain ⟨j, hj, rfl, rfl, HY⟩ := hrel
        by_cases hjl : j < t.after.length
        · obtain ⟨u, hu⟩ : ∃ u, t.after[j]? = some u := ⟨_, List.getElem?_eq_getElem hjl⟩
          obtain ⟨b2, o2, eb2, cu⟩ := (HI2.out.below HY.out).cells j (.int .i64 u) (by unfold Dag.ints; rw [List.getElem?_map, hu]; rfl)
          obtain ⟨n, y, rfl, hn, hy, hle⟩ := HT4.out j u hu
          rw [HLL.out] at hn
          obtain ⟨b3, o3, e3, k1, k2⟩ := (HV2.out.below HY.out).cells n y hy
          subst eb2
          obtain ⟨rfl, rfl⟩ : b1 = b3 ∧ o1 = o3 := by injection e3 with e3; injection e3 with e4 e5; exact ⟨e4, e5⟩
          have g7 := kp_cell HY.out g5; have g8 := kp_cell HY.out g6
          clear hu hy e3
          go_wp2
          go_quiet (fail)
          go_wp2
          go_roundw
          case rel => exact ⟨j + 1, by omega, by go_num, rfl, Lib.hid (blw HY.out (bdrew _ _))⟩
          case measure => simp [intOf]; omega
        · obtain rfl : j = t.after.length := by omega
          go_wp2
          go_roundw
          case rel => exact ⟨k + 1, by omega, by go_num, rfl, Lib.hid (blw HX.out (blw HQ2.out HY.out))⟩
          case measure => simp [intOf]; omega
    · obtain rfl : k = f.tasks.length := by omega
      go_wp2
      simp only [Exit.noGoto]
      go_ret
      exact ⟨rfl, HXW.out⟩
end Go.Proofs.YtkicanegjkemoaaDoor

