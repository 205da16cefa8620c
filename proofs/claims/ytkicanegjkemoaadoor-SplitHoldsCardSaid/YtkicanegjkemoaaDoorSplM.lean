/- Layer 8: the program's Holds and the document's, for any windows; arguments that are slices of windows. -/
import Derived.Test.YtkicanegjkemoaaDoorSplK
import Derived.Test.YtkicanegjkemoaaDoorRnkRef4
namespace Go.Proofs.YtkicanegjkemoaaDoor
open Go.RowKit Go.Shelf
set_option linter.unusedVariables false
set_option maxRecDepth 100000

set_option maxHeartbeats 800000 in
theorem clip_none (t u : Int) (w : World) (hu : min (max t 0) 1099511627775 = u) :
    Calls Tryd.prog 55 #[.int .i64 t, .slice none 0 0] w fun e w' => e = .returned (.int .i64 u) ∧ w = w' := by
  have HU := Lib.hid hu
  clear hu
  go_enter Tryd.func55, Tryd.ntmps55
  go_wp2
  go_step3
  go_wp2
  go_step3
  go_wp2
  go_loop [5, 14] (fun s i => i = .int .i64 0 ∧ s = .int .i64 u) (fun _ i => 0)
  case atStart => exact ⟨rfl, by rw [HU.out]⟩
  case round =>
    obtain ⟨rfl, rfl⟩ := hrel
    go_wp2
    try rw [Exit.noGoto_ret]
    go_ret
    exact ⟨rfl, rfl⟩
set_option maxHeartbeats 1600000 in
theorem wide_no1 (x y d : Int) (w : World) (hx : x < 0 ∨ 1099511627775 < x) :
    Calls Tryd.prog 30 #[.agg #[.int .i64 x, .int .i64 y], .int .i64 d] w fun e w' => e = .returned (.bool false) ∧ Below w.heap.size w w' := by
  obtain ⟨u, hu⟩ : ∃ u, min (max x 0) 1099511627775 = u := ⟨_, rfl⟩
  obtain ⟨v, hv⟩ : ∃ v, min (max y 0) 1099511627775 = v := ⟨_, rfl⟩
  have HX := Lib.hid fun (W : World) => clip_none x u W hu
  have HY := Lib.hid fun (W : World) => clip_none y v W hv
  have hb : (x == u) = false := by rw [beq_eq_false_iff_ne]; omega
  have hb2 : ¬ (x = u) := by omega
  clear hu hv hx
  go_enter Tryd.func30, Tryd.ntmps30
  go_wp2_with fail
  have hw2 := heap_alloc_new w (.cells #[.int .i64 x, .int .i64 y] 37)
  have hB2 := Lib.hid (al w (.cells #[.int .i64 x, .int .i64 y] 37))
  generalize w.alloc (.cells #[.int .i64 x, .int .i64 y] 37) = x0 at hw2 hB2 ⊢
  have s0 : x0.drew.cell? ⟨w.heap.size, 0, none⟩ = some (.int .i64 x) ∧ x0.drew.cell? ⟨w.heap.size, 1, none⟩ = some (.int .i64 y) := ⟨(Dag.blk_cell hw2 0).trans rfl, (Dag.blk_cell hw2 1).trans rfl⟩
  have t0 := Lib.hid s0
  clear hw2
  go_region_held3 (fun (W : World) => W.cell? ⟨w.heap.size, 0, none⟩ = some (.int .i64 x) ∧ W.cell? ⟨w.heap.size, 1, none⟩ = some (.int .i64 y)) (first | exact s0) (first
    | (go_at_call_of 55 x; refine (HX.out _).mono ?_; rintro e x1 ⟨rfl, rfl⟩)
    | (go_at_call_of 55 y; refine (HY.out _).mono ?_; rintro e x1 ⟨rfl, rfl⟩))
  all_goals
    obtain ⟨c0, c1⟩ := t0.out
    go_wp2
    go_ret
    exact ⟨rfl, blw hB2.out (bdrew _ _)⟩
set_option maxHeartbeats 1600000 in
theorem wide_no2 (x y d : Int) (w : World) (hx0 : 0 ≤ x) (hx1 : x ≤ 1099511627775) (hy : y < 0 ∨ 1099511627775 < y) :
    Calls Tryd.prog 30 #[.agg #[.int .i64 x, .int .i64 y], .int .i64 d] w fun e w' => e = .returned (.bool false) ∧ Below w.heap.size w w' := by
  obtain ⟨v, hv⟩ : ∃ v, min (max y 0) 1099511627775 = v := ⟨_, rfl⟩
  have HX := Lib.hid fun (W : World) => clip_nil x W hx0 hx1
  have HY := Lib.hid fun (W : World) => clip_none y v W hv
  have hb : (y == v) = false := by rw [beq_eq_false_iff_ne]; omega
  have hb2 : ¬ (y = v) := by omega
  clear hv hy
  go_enter Tryd.func30, Tryd.ntmps30
  go_wp2_with fail
  have hw2 := heap_alloc_new w (.cells #[.int .i64 x, .int .i64 y] 37)
  have hB2 := Lib.hid (al w (.cells #[.int .i64 x, .int .i64 y] 37))
  generalize w.alloc (.cells #[.int .i64 x, .int .i64 y] 37) = x0 at hw2 hB2 ⊢
  have s0 : x0.drew.cell? ⟨w.heap.size, 0, none⟩ = some (.int .i64 x) ∧ x0.drew.cell? ⟨w.heap.size, 1, none⟩ = some (.int .i64 y) := ⟨(Dag.blk_cell hw2 0).trans rfl, (Dag.blk_cell hw2 1).trans rfl⟩
  have t0 := Lib.hid s0
  clear hw2
  go_region_held3 (fun (W : World) => W.cell? ⟨w.heap.size, 0, none⟩ = some (.int .i64 x) ∧ W.cell? ⟨w.heap.size, 1, none⟩ = some (.int .i64 y)) (first | exact s0) (first
    | (go_at_call_of 55 x; refine (HX.out _).mono ?_; rintro e x1 ⟨rfl, rfl⟩)
    | (go_at_call_of 55 y; refine (HY.out _).mono ?_; rintro e x1 ⟨rfl, rfl⟩))
  all_goals
    obtain ⟨c0, c1⟩ := t0.out
    go_wp2
    go_ret
    exact ⟨rfl, blw hB2.out (bdrew _ _)⟩
set_option maxHeartbeats 800000 in
theorem wide_short (x y d : Int) (w : World) (h0 : 0 ≤ x) (hx1 : x ≤ 1099511627775) (hy0 : 0 ≤ y) (h1 : y ≤ 1099511627775) (h2 : y < x + d) :
    Calls Tryd.prog 30 #[.agg #[.int .i64 x, .int .i64 y], .int .i64 d] w fun e w' => e = .returned (.bool false) ∧ Below w.heap.size w w' := by
  have HX := Lib.hid fun (W : World) => clip_nil x W h0 hx1
  have HY := Lib.hid fun (W : World) => clip_nil y W hy0 h1
  go_enter Tryd.func30, Tryd.ntmps30
  go_wp2_with fail
  have hw2 := heap_alloc_new w (.cells #[.int .i64 x, .int .i64 y] 37)
  have hB2 := Lib.hid (al w (.cells #[.int .i64 x, .int .i64 y] 37))
  generalize w.alloc (.cells #[.int .i64 x, .int .i64 y] 37) = x0 at hw2 hB2 ⊢
  have s0 : x0.drew.cell? ⟨w.heap.size, 0, none⟩ = some (.int .i64 x) ∧ x0.drew.cell? ⟨w.heap.size, 1, none⟩ = some (.int .i64 y) := ⟨(Dag.blk_cell hw2 0).trans rfl, (Dag.blk_cell hw2 1).trans rfl⟩
  have t0 := Lib.hid s0
  clear hw2
  go_region_held3 (fun (W : World) => W.cell? ⟨w.heap.size, 0, none⟩ = some (.int .i64 x) ∧ W.cell? ⟨w.heap.size, 1, none⟩ = some (.int .i64 y)) (first | exact s0) (first
    | (go_at_call_of 55 x; refine (HX.out _).mono ?_; rintro e x1 ⟨rfl, rfl⟩)
    | (go_at_call_of 55 y; refine (HY.out _).mono ?_; rintro e x1 ⟨rfl, rfl⟩))
  all_goals
    obtain ⟨c0, c1⟩ := t0.out
    go_wp2
    go_ret
    refine ⟨?_, blw hB2.out (bdrew _ _)⟩
    show Ending.returned (.bool (decide (d ≤ y - x))) = _
    rw [decide_eq_false (by omega)]
/-- isWide in one -/
theorem wide_at (x y d : Int) (w : World) (hd : 0 ≤ d) (r : Bool) (hr : (Clk.isT x && (Clk.isT y && decide (x + d ≤ y))) = r) :
    Calls Tryd.prog 30 #[.agg #[.int .i64 x, .int .i64 y], .int .i64 d] w fun e w' => e = .returned (.bool r) ∧ Below w.heap.size w w' := by
  cases h1 : Clk.isT x
  · rw [h1, Bool.false_and] at hr; subst hr
    refine wide_no1 x y d w ?_
    have : ¬ (0 ≤ x ∧ x ≤ 1099511627775) := fun h => by rw [isT_iff.2 h] at h1; cases h1
    omega
  · rw [h1, Bool.true_and] at hr
    have i1 := isT_iff.1 h1
    cases h2 : Clk.isT y
    · rw [h2, Bool.false_and] at hr; subst hr
      refine wide_no2 x y d w i1.1 i1.2 ?_
      have : ¬ (0 ≤ y ∧ y ≤ 1099511627775) := fun h => by rw [isT_iff.2 h] at h2; cases h2
      omega
    · rw [h2, Bool.true_and] at hr
      have i2 := isT_iff.1 h2
      by_cases h3 : x + d ≤ y
      · rw [decide_eq_true h3] at hr; subst hr
        exact wide_yes x y d w i1.1 i2.2 hd h3
      · rw [decide_eq_false h3] at hr; subst hr
        exact wide_short x y d w i1.1 i1.2 i2.1 i2.2 (by omega)
theorem and4 {a b c d : Bool} (h : (a && (b && c)) = false) : (a && (b && (c && d))) = false := by cases a <;> cases b <;> cases c <;> simp_all
theorem and4d {a b c d : Bool} (h : d = false) : (a && (b && (c && d))) = false := by subst h; cases a <;> cases b <;> cases c <;> rfl
/-- what a task finds, whether it holds or not -/
theorem row_at {f : FlowD} {l : List WinD} (hc : checkE f = 0) (hl : l.length = f.tasks.length) {v : Nat} {t : TaskD} {x : WinD} (ht : f.tasks[v]? = some t) (hx : l[v]? = some x) :
    0 ≤ wgt t ∧ wgt t ≤ 1099511627775 ∧ (∀ (i : Nat) (u : Int), t.after[i]? = some u → ∃ (n : Nat) (y : WinD), u = n ∧ n < l.length ∧ l[n]? = some y) ∧
    ((Clk.isT x.fr && (Clk.isT x.by_ && decide (x.fr + wgt t ≤ x.by_))) = false → holdD f l = false) ∧
    (∀ (i n : Nat) (y : WinD), t.after[i]? = some (n : Int) → l[n]? = some y → x.by_ - wgt t < y.by_ → holdD f l = false) ∧
    ((Clk.isT x.fr && (Clk.isT x.by_ && decide (x.fr + wgt t ≤ x.by_))) = true → (∀ (i n : Nat) (y : WinD), t.after[i]? = some (n : Int) → l[n]? = some y → y.by_ ≤ x.by_ - wgt t) → holdB l f.tasks v = true) := by
  obtain ⟨_, hV, hw⟩ := chk_facts hc
  have hwt := hw v
  rw [wtAt_some ht] at hwt
  have hvl := (List.getElem?_eq_some_iff.1 hx).1
  have hno : holdB l f.tasks v = false → holdD f l = false := fun h => by
    unfold holdD
    rw [decide_eq_true hc, decide_eq_true hl, Bool.true_and, Bool.true_and]
    rw [List.all_eq_false]
    exact ⟨v, List.mem_range.2 hvl, by rw [h]; decide⟩
  refine ⟨hwt.1, hwt.2, fun i u hu => ?_, fun h => hno ?_, fun i n y hu hy hlt => hno ?_, fun h h2 => ?_⟩
  · obtain ⟨b1, b2, _⟩ := after_bef hV ht (List.mem_of_getElem? hu)
    exact ⟨u.toNat, l[u.toNat], by omega, by omega, List.getElem?_eq_getElem (by omega)⟩
  · unfold holdB
    rw [ht, hx]
    simp only [hold1]
    exact and4 h
  · unfold holdB
    rw [ht, hx]
    simp only [hold1]
    refine and4d ?_
    rw [List.all_eq_false]
    refine ⟨(n : Int), List.mem_of_getElem? hu, ?_⟩
    rw [Int.toNat_natCast, hy]
    simp only
    rw [decide_eq_false (by omega)]
    decide
  · unfold holdB
    rw [ht, hx]
    simp only [hold1]
    simp only [Bool.and_eq_true] at h ⊢
    refine ⟨h.1, h.2.1, h.2.2, ?_⟩
    rw [List.all_eq_true]
    intro u hu
    obtain ⟨i, hi⟩ := List.getElem?_of_mem hu
    obtain ⟨b1, b2, _⟩ := after_bef hV ht hu
    have hy : l[u.toNat]? = some l[u.toNat] := List.getElem?_eq_getElem (by omega)
    rw [hy]
    have := h2 i u.toNat _ (by rw [hi, Int.toNat_of_nonneg b1]) hy
    exact decide_eq_true (by omega)
theorem hold_all {f : FlowD} {l : List WinD} (hc : checkE f = 0) (hl : l.length = f.tasks.length) (h : ∀ v, v < f.tasks.length → holdB l f.tasks v = true) : holdD f l = true := by
  unfold holdD
  rw [decide_eq_true hc, decide_eq_true hl, Bool.true_and, Bool.true_and, List.all_eq_true]
  intro v hv
  rw [List.mem_range, hl] at hv
  exact h v hv
set_option maxHeartbeats 3200000 in
theorem holds_any (f : FlowD) (A : Option Addr) (c : Nat) (l : List WinD) (B : Option Addr) (d : Nat) (w : World) (h : FlA w f A c) (hl : Wins w B d l) (r : Bool) (hr : holdD f l = r) :
    Calls Tryd.prog 13 #[.agg #[.string (sb f.name), .int .i64 f.deadline, .int .i64 f.priority, .slice A f.tasks.length c], .slice B l.length d] w fun e w' => e = .returned (.bool r) ∧ Below w.heap.size w w' := by
  have HC := Lib.hid fun W (hW : Below w.heap.size w W) => check_all f A c W (h.tasks.below hW) (h.tb.below hW) (by have := h.nm; omega) (fun t ht => by have := h.nms t ht; omega)
  have hlen := h.len
  have HM : l.length ≤ 9223372036854775807 := Nat.le_trans hl.cap (by have := hl.top; simpa [maxLen] using this)
  by_cases hc : checkE f = 0
  case neg =>
    have : holdD f l = false := by unfold holdD; rw [decide_eq_false hc, Bool.false_and]
    rw [this] at hr
    subst hr
    obtain ⟨e0, he0⟩ : ∃ e0, checkE f = e0 := ⟨_, rfl⟩
    rw [he0] at HC hc
    have hxn : (e0 != 0) = true := by simp [hc]
    clear h hl he0 this hc
    go_enter Tryd.func13, Tryd.ntmps13
    go_wp2
    refine wp_scope_straight ?_
    go_wp2_with fail
    refine (HC.out _ (al _ _)).mono ?_
    rintro e w1 ⟨rfl, hb1⟩
    have HB1 := Lib.hid (blw (al w (flowO f A c)) hb1)
    have HO1 : Hid (w1.heap[w.heap.size]? = some (flowO f A c)) := Lib.hid ((hb1.block _ (by simp)).trans (heap_alloc_new w _))
    clear hb1 HC
    obtain ⟨p0, p1, p2, p3, hp⟩ := flowO_cells HO1.out
    go_wp2
    try simp only [Exit.noGoto]
    go_ret
    exact ⟨rfl, HB1.out⟩
  rw [hc] at HC
  by_cases hll : l.length = f.tasks.length
  case neg =>
    have : holdD f l = false := by unfold holdD; rw [decide_eq_false hll, Bool.false_and, Bool.and_false]
    rw [this] at hr
    subst hr
    obtain ⟨n, hn⟩ : ∃ n, l.length = n := ⟨_, rfl⟩
    rw [hn] at hll HM ⊢
    have hxn : ((n : Int) != (f.tasks.length : Int)) = true := by rw [bne_iff_ne]; omega
    clear h hl this hc hn
    go_enter Tryd.func13, Tryd.ntmps13
    go_wp2
    refine wp_scope_straight ?_
    go_wp2_with fail
    refine (HC.out _ (al _ _)).mono ?_
    rintro e w1 ⟨rfl, hb1⟩
    have HB1 := Lib.hid (blw (al w (flowO f A c)) hb1)
    have HO1 : Hid (w1.heap[w.heap.size]? = some (flowO f A c)) := Lib.hid ((hb1.block _ (by simp)).trans (heap_alloc_new w _))
    clear hb1 HC
    obtain ⟨p0, p1, p2, p3, hp⟩ := flowO_cells HO1.out
    go_wp2
    try simp only [Exit.noGoto]
    go_ret
    exact ⟨rfl, HB1.out⟩
  have HA := Lib.hid fun (v : Nat) (t : TaskD) (x : WinD) (ht : f.tasks[v]? = some t) (hx : l[v]? = some x) => row_at hc hll ht hx
  have HALL := Lib.hid fun (hv : ∀ v, v < f.tasks.length → holdB l f.tasks v = true) => (hr.symm.trans (hold_all hc hll hv) : r = true)
  have HNO := Lib.hid fun (hv : holdD f l = false) => (hr.symm.trans hv : r = false)
  have H := Lib.hid h.tasks
  have HAF := Lib.hid h.aft
  have HV := Lib.hid hl
  clear hc h hl hr HM
  rw [hll]
  have HLL := Lib.hid hll
  clear hll
  go_enter Tryd.func13, Tryd.ntmps13
  go_wp2
  refine wp_scope_straight ?_
  go_wp2_with fail
  refine (HC.out _ (al _ _)).mono ?_
  rintro e w1 ⟨rfl, hb1⟩
  have HB1 := Lib.hid (blw (al w (flowO f A c)) hb1)
  have HO1 : Hid (w1.heap[w.heap.size]? = some (flowO f A c)) := Lib.hid ((hb1.block _ (by simp)).trans (heap_alloc_new w _))
  clear hb1 HC
  obtain ⟨p0, p1, p2, p3, hp⟩ := flowO_cells HO1.out
  go_wp2
  refine wp_label ?_
  go_wp2
  go_loopw [5, 25] (fun s i wr => ∃ k : Nat, k ≤ f.tasks.length ∧ i = .int .i64 k ∧ s = .bool true ∧ Hid (∀ v, v < k → holdB l f.tasks v = true) ∧ Hid (Below w1.heap.size w1 wr)) (fun _ i _ => f.tasks.length - (intOf i).toNat)
  case atStart => exact ⟨0, Nat.zero_le _, rfl, rfl, Lib.hid (fun v hv => absurd hv (Nat.not_lt_zero v)), Lib.hid (Below.refl _ _)⟩
  case round =>
    obtain ⟨wA, rfl⟩ : ∃ x, x = wr := ⟨wr, rfl⟩
    obtain ⟨k, hk, rfl, rfl, HUP, HX⟩ := hrel
    have HXW := Lib.hid (blw HB1.out HX.out)
    by_cases hlt : k < f.tasks.length
    · obtain ⟨t, ht⟩ : ∃ t, f.tasks[k]? = some t := ⟨_, List.getElem?_eq_getElem hlt⟩
      obtain ⟨x, hx⟩ : ∃ x, l[k]? = some x := ⟨_, List.getElem?_eq_getElem (by rw [HLL.out]; exact hlt)⟩
      obtain ⟨a0, a1, a2, a3, a4, a5⟩ := HA.out k t x ht hx
      obtain ⟨b, off, A2, c2, eA, h0, h1, h2, h3, h4, h5, hI⟩ := (H.out.below HXW.out).cells k _ ht
      subst eA
      have hal := HAF.out t (List.mem_of_getElem? ht)
      obtain ⟨b1, o1, eB, g1, g2⟩ := (HV.out.below HXW.out).cells k x hx
      obtain ⟨av, hav⟩ : ∃ av, wgt t = av := ⟨_, rfl⟩
      have HWT := Lib.hid fun (W : World) => weight_any t A2 c2 W
      rw [hav] at HWT a0 a1 a3 a4 a5
      obtain ⟨q, hq⟩ : ∃ q, (Clk.isT x.fr && (Clk.isT x.by_ && decide (x.fr + av ≤ x.by_))) = q := ⟨_, rfl⟩
      rw [hq] at a3 a5
      have HWD := Lib.hid fun (W : World) => wide_at x.fr x.by_ av W a0 q hq
      have hqb : q = true → 0 ≤ x.by_ ∧ x.by_ ≤ 1099511627775 := fun e => by
        rw [e] at hq
        simp only [Bool.and_eq_true] at hq
        exact isT_iff.1 hq.2.1
      have HT2 := Lib.hid a2; have HT3 := Lib.hid a3; have HT4 := Lib.hid a4; have HT5 := Lib.hid a5
      have HI := Lib.hid hI
      subst eB
      clear ht hx hav a2 a3 a4 a5 hI hq
      have hw2 := heap_alloc_new wA (.cells #[.string (sb t.name), .int .i64 t.nodes, .int .i64 t.wall, .int .i64 t.retry, .bool t.done, .slice A2 t.after.length c2] 43)
      have hB2 := Lib.hid (al wA (.cells #[.string (sb t.name), .int .i64 t.nodes, .int .i64 t.wall, .int .i64 t.retry, .bool t.done, .slice A2 t.after.length c2] 43))
      go_wp2_with fail
      generalize wA.alloc (.cells #[.string (sb t.name), .int .i64 t.nodes, .int .i64 t.wall, .int .i64 t.retry, .bool t.done, .slice A2 t.after.length c2] 43) = x0 at hw2 hB2 ⊢
      generalize wA.heap.size = tb at hw2 ⊢
      refine (HWT.out _).mono ?_
      rintro e x1 ⟨rfl, hb1⟩
      have HQ1 := Lib.hid (blw hB2.out hb1)
      have s5 : x1.cell? ⟨tb, 5, none⟩ = some (.slice A2 t.after.length c2) := kp_cell hb1 ((Dag.blk_cell hw2 5).trans rfl)
      have g3 := kp_cell HQ1.out g1; have g4 := kp_cell HQ1.out g2
      clear hb1 hw2 hB2 g1 g2 h0 h1 h2 h3 h4 h5
      go_wp2_with fail
      refine (HWD.out _).mono ?_
      rintro e x2 ⟨rfl, hb2⟩
      have HQ2 := Lib.hid (blw HQ1.out hb2)
      have s6 := kp_cell hb2 s5
      have g5 := kp_cell hb2 g3; have g6 := kp_cell hb2 g4
      clear hb2 s5 g3 g4 HQ1
      have HI2 := Lib.hid (HI.out.below HQ2.out)
      have HV2 := Lib.hid (HV.out.below (blw HXW.out HQ2.out))
      clear HI HWD HWT
      cases q
      · have HR := HNO.out (HT3.out rfl)
        subst HR
        clear HT2 HT3 HT4 HT5 HALL HNO
        go_wp2
        try simp only [Exit.noGoto]
        go_ret
        exact ⟨rfl, blw HXW.out HQ2.out⟩
      have hbb := hqb rfl
      clear hqb
      go_wp2_with fail
      go_loopw [5, 42] (fun s i wr => ∃ j : Nat, j ≤ t.after.length ∧ i = .int .i64 j ∧ s = .bool true ∧ Hid (∀ (i n : Nat) (y : WinD), i < j → t.after[i]? = some (n : Int) → l[n]? = some y → y.by_ ≤ x.by_ - av) ∧ Hid (Below x2.heap.size x2 wr)) (fun _ i _ => t.after.length - (intOf i).toNat)
      case atStart => exact ⟨0, Nat.zero_le _, rfl, rfl, Lib.hid (fun i n y hi => absurd hi (Nat.not_lt_zero i)), Lib.hid (Below.refl _ _)⟩
      case round =>
        obtain ⟨j, hj, rfl, rfl, HUQ, HY⟩ := hrel
        by_cases hjl : j < t.after.length
        · obtain ⟨u, hu⟩ : ∃ u, t.after[j]? = some u := ⟨_, List.getElem?_eq_getElem hjl⟩
          obtain ⟨b2, o2, eb2, cu⟩ := (HI2.out.below HY.out).cells j (.int .i64 u) (by unfold Dag.ints; rw [List.getElem?_map, hu]; rfl)
          obtain ⟨n, y, rfl, hn, hy⟩ := HT2.out j u hu
          rw [HLL.out] at hn
          obtain ⟨b3, o3, e3, k1, k2⟩ := (HV2.out.below HY.out).cells n y hy
          subst eb2
          obtain ⟨rfl, rfl⟩ : b1 = b3 ∧ o1 = o3 := by injection e3 with e3; injection e3 with e4 e5; exact ⟨e4, e5⟩
          have g7 := kp_cell HY.out g5; have g8 := kp_cell HY.out g6
          by_cases hle : y.by_ ≤ x.by_ - av
          · have HU2 : Hid (∀ (i n : Nat) (y : WinD), i < j + 1 → t.after[i]? = some (n : Int) → l[n]? = some y → y.by_ ≤ x.by_ - av) := Lib.hid fun i m z hi hm hz => by
              by_cases e : i < j
              · exact HUQ.out i m z e hm hz
              · obtain rfl : i = j := by omega
                rw [hu] at hm
                injection hm with hm
                obtain rfl : n = m := by omega
                rw [hy] at hz
                injection hz with hz
                subst hz
                exact hle
            clear hu hy e3
            go_wp2
            go_quiet (fail)
            go_wp2
            go_roundw
            case rel => exact ⟨j + 1, by omega, by go_num, rfl, HU2, Lib.hid (blw HY.out (bdrew _ _))⟩
            case measure => simp [intOf]; omega
          · have HR := HNO.out (HT4.out j n y hu hy (by omega))
            subst HR
            clear HT2 HT3 HT4 HT5 HALL HNO hu hy e3
            go_wp2
            go_quiet (fail)
            go_wp2
            try simp only [Exit.noGoto]
            go_ret
            exact ⟨rfl, blw HXW.out (blw HQ2.out (blw HY.out (bdrew _ _)))⟩
        · obtain rfl : j = t.after.length := by omega
          have HK := Lib.hid (HT5.out (by first | rfl | trivial) fun i n y hi hy => HUQ.out i n y (List.getElem?_eq_some_iff.1 hi).1 hi hy)
          have HU3 : Hid (∀ v, v < k + 1 → holdB l f.tasks v = true) := Lib.hid fun v hv => by
            by_cases e : v < k
            · exact HUP.out v e
            · obtain rfl : v = k := by omega
              exact HK.out
          go_wp2
          go_roundw
          case rel => exact ⟨k + 1, by omega, by go_num, rfl, HU3, Lib.hid (blw HX.out (blw HQ2.out HY.out))⟩
          case measure => simp [intOf]; omega
    · obtain rfl : k = f.tasks.length := by omega
      have HR := HALL.out HUP.out
      subst HR
      go_wp2
      try simp only [Exit.noGoto]
      go_ret
      exact ⟨rfl, HXW.out⟩
end Go.Proofs.YtkicanegjkemoaaDoor

namespace Go.Proofs.YtkicanegjkemoaaDoor
open Go.RowKit Go.Shelf
set_option linter.unusedVariables false
set_option maxRecDepth 100000

section
variable {P : Program} {ops : Array Oper} {S : World → Prop} {L : Act → Prop} {i d : Nat} {is : List Nat} {a : Act} {v : Value}
/-- an operation whose guard forbids it; where it writes, by its number -/
theorem wpLeadI_skip (o : Oper) (hi : ops[i]? = some o) (hd : o.dst = some d) (hw : Region.wanted o (yielded ops a.tmps) = false) (h : wpLeadI P ops S L is (a.put (some d) undef)) : wpLeadI P ops S L (i :: is) a := ⟨o, undef, hi, Or.inr ⟨hw, rfl⟩, by rw [hd]; exact h⟩
theorem wpLeadI_read (o : Oper) (hi : ops[i]? = some o) (hd : o.dst = some d) (hw : Region.wanted o (yielded ops a.tmps) = true) (hy : ∀ w, S w → (execOp a.eval o).run P w = .ok (.value v) w) (h : wpLeadI P ops S L is (a.put (some d) v)) : wpLeadI P ops S L (i :: is) a := ⟨o, v, hi, Or.inl ⟨hw, hy⟩, by rw [hd]; exact h⟩
end
def Seen (f : FlowD) (l : List WinD) (v : Nat) : Prop := ∀ t x, f.tasks[v]? = some t → l[v]? = some x → (Clk.isT x.fr && (Clk.isT x.by_ && decide (x.fr + wgt t ≤ x.by_))) = true ∧ ∀ (i n : Nat) (y : WinD), t.after[i]? = some (n : Int) → l[n]? = some y → IntKind.i64.wrap (y.by_ + wgt t) ≤ x.by_
theorem seen_all {f : FlowD} {l : List WinD} (hc : checkE f = 0) (hl : l.length = f.tasks.length) (h : ∀ v, v < f.tasks.length → Seen f l v) : holdD f l = true := by
  refine hold_all hc hl fun v hv => ?_
  obtain ⟨t, ht⟩ : ∃ t, f.tasks[v]? = some t := ⟨_, List.getElem?_eq_getElem hv⟩
  obtain ⟨x, hx⟩ : ∃ x, l[v]? = some x := ⟨_, List.getElem?_eq_getElem (by omega)⟩
  obtain ⟨h1, h2⟩ := h v hv t x ht hx
  obtain ⟨a0, a1, _, _, _, a5⟩ := row_at hc hl ht hx
  refine a5 h1 fun i n y hu hy => ?_
  have h3 := h2 i n y hu hy
  have hn : n < f.tasks.length := by have := (List.getElem?_eq_some_iff.1 hy).1; omega
  have h4 := (h n hn _ y (List.getElem?_eq_getElem hn) hy).1
  simp only [Bool.and_eq_true] at h4
  have h5 := isT_iff.1 h4.2.1
  rw [IntKind.wrap_i64] at h3
  omega
theorem seen_no {f : FlowD} {l : List WinD} (hc : checkE f = 0) (hl : l.length = f.tasks.length) {v : Nat} {t : TaskD} {x : WinD} (ht : f.tasks[v]? = some t) (hx : l[v]? = some x) {i n : Nat} {y : WinD} (hu : t.after[i]? = some (n : Int)) (hy : l[n]? = some y) (h : x.by_ < IntKind.i64.wrap (y.by_ + wgt t)) : holdD f l = false := by
  obtain ⟨a0, a1, _, _, a4, _⟩ := row_at hc hl ht hx
  cases hb : Clk.isT y.by_
  · have hn : n < f.tasks.length := by have := (List.getElem?_eq_some_iff.1 hy).1; omega
    obtain ⟨_, _, _, a3, _⟩ := row_at hc hl (List.getElem?_eq_getElem hn) hy
    exact a3 (by rw [hb, Bool.false_and, Bool.and_false])
  · have h5 := isT_iff.1 hb
    rw [IntKind.wrap_i64] at h
    exact a4 i n y hu hy (by omega)
set_option maxHeartbeats 32000000 in
theorem rholds_any (f : FlowD) (A : Option Addr) (c : Nat) (l : List WinD) (B : Option Addr) (d : Nat) (w : World) (h : FlA w f A c) (hl : Wins w B d l) (r : Bool) (hr : holdD f l = r) :
    Calls Tryd.prog 14 #[.agg #[.string (sb f.name), .int .i64 f.deadline, .int .i64 f.priority, .slice A f.tasks.length c], .slice B l.length d] w fun e w' => e = .returned (.bool r) ∧ Below w.heap.size w w' := by
  have HC := Lib.hid fun W (hW : Below w.heap.size w W) => rcheck_any f A c W (h.tasks.below hW) (h.tb.below hW).txt (by have := h.nm; omega) (fun t ht => by have := h.nms t ht; omega) h.len
  have hlen := h.len
  have HM : l.length ≤ 9223372036854775807 := Nat.le_trans hl.cap (by have := hl.top; simpa [maxLen] using this)
  by_cases hc : checkE f = 0
  case neg =>
    have : holdD f l = false := by unfold holdD; rw [decide_eq_false hc, Bool.false_and]
    rw [this] at hr
    subst hr
    obtain ⟨e0, he0⟩ : ∃ e0, checkE f = e0 := ⟨_, rfl⟩
    rw [he0] at HC hc
    have hxn : (e0 != 0) = true := by simp [hc]
    clear h hl he0 this hc
    go_enter Tryd.func14, Tryd.ntmps14
    go_wp2_with fail
    refine (HC.out _ (al _ _)).mono ?_
    rintro e w1 ⟨rfl, hb1⟩
    have HB1 := Lib.hid (blw (al w (flowO f A c)) hb1)
    clear hb1
    go_wp2
    go_ret
    exact ⟨rfl, HB1.out⟩
  rw [hc] at HC
  by_cases hll : l.length = f.tasks.length
  case neg =>
    have : holdD f l = false := by unfold holdD; rw [decide_eq_false hll, Bool.false_and, Bool.and_false]
    rw [this] at hr
    subst hr
    obtain ⟨n, hn⟩ : ∃ n, l.length = n := ⟨_, rfl⟩
    rw [hn] at hll HM ⊢
    have hxn : ((n : Int) != (f.tasks.length : Int)) = true := by rw [bne_iff_ne]; omega
    clear h hl this hc hn
    go_enter Tryd.func14, Tryd.ntmps14
    go_wp2_with fail
    refine (HC.out _ (al _ _)).mono ?_
    rintro e w1 ⟨rfl, hb1⟩
    have HB1 := Lib.hid (blw (al w (flowO f A c)) hb1)
    have HO1 : Hid (w1.heap[w.heap.size]? = some (flowO f A c)) := Lib.hid ((hb1.block _ (by simp)).trans (heap_alloc_new w _))
    clear hb1
    obtain ⟨p0, p1, p2, p3, hp⟩ := flowO_cells HO1.out
    go_wp2
    go_ret
    exact ⟨rfl, HB1.out⟩
  have HA := Lib.hid fun (v : Nat) (t : TaskD) (x : WinD) (ht : f.tasks[v]? = some t) (hx : l[v]? = some x) => row_at hc hll ht hx
  have HALL := Lib.hid fun (hv : ∀ v, v < f.tasks.length → Seen f l v) => (hr.symm.trans (seen_all hc hll hv) : r = true)
  have HNO := Lib.hid fun (hv : holdD f l = false) => (hr.symm.trans hv : r = false)
  have HSN := Lib.hid fun (v : Nat) (t : TaskD) (x : WinD) (ht : f.tasks[v]? = some t) (hx : l[v]? = some x) (i n : Nat) (y : WinD) (hu : t.after[i]? = some (n : Int)) (hy : l[n]? = some y) => seen_no hc hll ht hx hu hy
  have H := Lib.hid h.tasks
  have HAF := Lib.hid h.aft
  have HV := Lib.hid hl
  clear hc h hl hr HM
  rw [hll]
  have HLL := Lib.hid hll
  clear hll
  go_enter Tryd.func14, Tryd.ntmps14
  go_wp2_with fail
  refine (HC.out _ (al _ _)).mono ?_
  rintro e w1 ⟨rfl, hb1⟩
  have HB1 := Lib.hid (blw (al w (flowO f A c)) hb1)
  have HO1 : Hid (w1.heap[w.heap.size]? = some (flowO f A c)) := Lib.hid ((hb1.block _ (by simp)).trans (heap_alloc_new w _))
  clear hb1 HC
  obtain ⟨p0, p1, p2, p3, hp⟩ := flowO_cells HO1.out
  go_wp2
  go_loopw [5] (fun i wr => ∃ k : Nat, k ≤ f.tasks.length ∧ i = .int .i64 k ∧ Hid (∀ v, v < k → Seen f l v) ∧ Hid (Below w1.heap.size w1 wr)) (fun i _ => f.tasks.length - (intOf i).toNat)
  case atStart => exact ⟨0, Nat.zero_le _, rfl, Lib.hid (fun v hv => absurd hv (Nat.not_lt_zero v)), Lib.hid (Below.refl _ _)⟩
  case round =>
    obtain ⟨wA, rfl⟩ : ∃ x, x = wr := ⟨wr, rfl⟩
    obtain ⟨k, hk, rfl, HUP, HX⟩ := hrel
    have HXW := Lib.hid (blw HB1.out HX.out)
    obtain ⟨q0, q1, q2, q3, hq⟩ := flowO_cells ((HX.out.block _ (Dag.blk_lt HO1.out)).trans HO1.out)
    by_cases hlt : k < f.tasks.length
    · obtain ⟨t, ht⟩ : ∃ t, f.tasks[k]? = some t := ⟨_, List.getElem?_eq_getElem hlt⟩
      obtain ⟨x, hx⟩ : ∃ x, l[k]? = some x := ⟨_, List.getElem?_eq_getElem (by rw [HLL.out]; exact hlt)⟩
      obtain ⟨a0, a1, a2, a3, a4, a5⟩ := HA.out k t x ht hx
      obtain ⟨b, off, A2, c2, eA, h0, h1, h2, h3, h4, h5, hI⟩ := (H.out.below HXW.out).cells k _ ht
      subst eA
      have hal := HAF.out t (List.mem_of_getElem? ht)
      obtain ⟨b1, o1, eB, g1, g2⟩ := (HV.out.below HXW.out).cells k x hx
      have HWT := Lib.hid fun (W : World) => rweight_any t A2 c2 W
      have HIF := Lib.hid fun (W : World) => Clk.ris_any x.fr W
      have HIB := Lib.hid fun (W : World) => Clk.ris_any x.by_ W
      have HI := Lib.hid hI
      subst eB
      clear hI p0 p1 p2 p3 hp
      obtain ⟨av, hav⟩ : ∃ av, wgt t = av := ⟨_, rfl⟩
      obtain ⟨xf, hxf⟩ : ∃ xf, x.fr = xf := ⟨_, rfl⟩
      obtain ⟨xb, hxb⟩ : ∃ xb, x.by_ = xb := ⟨_, rfl⟩
      have HS2 := Lib.hid (HSN.out k t x ht hx)
      have HSE : Hid ((Clk.isT xf && (Clk.isT xb && decide (xf + av ≤ xb))) = true → (∀ (i n : Nat) (y : WinD), t.after[i]? = some (n : Int) → l[n]? = some y → IntKind.i64.wrap (y.by_ + av) ≤ xb) → Seen f l k) := Lib.hid fun e1 e2 t' x' ht' hx' => by
        rw [ht] at ht'
        rw [hx] at hx'
        injection ht' with ht'
        injection hx' with hx'
        subst ht' hx'
        rw [hav, hxf, hxb]
        exact ⟨e1, e2⟩
      rw [hav, hxb] at HS2
      rw [hav] at HWT a0 a1 a3
      rw [hxf] at a3 g1 HIF
      rw [hxb] at a3 g2 HIB
      have HT2 := Lib.hid a2
      have HT3 := Lib.hid a3
      clear ht hx hav hxf hxb a2 a3 a4 a5
      go_wp2_with fail
      refine (HWT.out _).mono ?_
      rintro e x1 ⟨rfl, hb1⟩
      have HQ1 := Lib.hid hb1
      have g3 := kp_cell hb1 g1; have g4 := kp_cell hb1 g2; have g5 := kp_cell hb1 h5; have q4 := kp_cell hb1 q3
      have HI1 := Lib.hid (HI.out.below hb1)
      have HV1 := Lib.hid (HV.out.below (blw HXW.out hb1))
      clear hb1 g1 g2 h0 h1 h2 h3 h4 h5 q0 q1 q2 q3 hq HI HWT
      go_wp2_with fail
      have s0 : x1.drew.cell? ⟨b1, o1 + k * 2, none⟩ = some (.int .i64 xf) ∧ x1.drew.cell? ⟨b1, o1 + k * 2 + 1, none⟩ = some (.int .i64 xb) := ⟨g3, g4⟩
      cases hF : Clk.isT xf
      · have HR := HNO.out (HT3.out (by rw [hF, Bool.false_and]))
        subst HR
        rw [hF] at HIF
        clear HT2 HT3 HS2 HSE HALL HNO
        refine wp_region_R (fun (W : World) => W.cell? ⟨b1, o1 + k * 2, none⟩ = some (.int .i64 xf) ∧ W.cell? ⟨b1, o1 + k * 2 + 1, none⟩ = some (.int .i64 xb)) 31 (by kernel_rfl) ?_
        refine wpAnyR_leadI (by kernel_rfl) ?hQ ?hS0 [0, 1, 2, 3, 4] 26 _ _ (by kernel_rfl) ?_
        case hQ => intro c a d v w h; cases d <;> exact h
        case hS0 => exact s0
        iterate 5 (refine wpLeadI_read (v := ?_) _ rfl rfl (by rfl) ?_ ?_; rotate_left; (intro W hW; (try dsimp only at hW); go_simp; (try with_reducible rfl)); try simp only [Act.put, List.setIfInBounds_toArray, List.set_cons_succ, List.set_cons_zero])
        simp only [wpLeadI]
        refine wpAnyR_one (i := 5) rfl (by kernel_rfl) ?_
        intro K1 hK1
        go_simp
        refine (HIF.out _).mono ?_
        rintro e x3 ⟨rfl, rfl⟩
        refine hK1.out _ _ s0 ?_
        clear hK1 K1
        refine wpAnyR_leadI (by kernel_rfl) ?hQ ?hS0 [6, 7, 8, 9, 10, 11, 12, 13, 14, 15, 16, 17, 18, 19, 20, 21, 22, 23, 24, 25, 26, 27, 28, 29, 30] 0 _ _ (by kernel_rfl) ?_
        case hQ => intro c a d v w h; cases d <;> exact h
        case hS0 => exact s0
        iterate 2 (refine wpLeadI_read (v := ?_) _ rfl rfl (by rfl) ?_ ?_; rotate_left; (intro W hW; (try dsimp only at hW); go_simp; (try with_reducible rfl)); try simp only [Act.put, List.setIfInBounds_toArray, List.set_cons_succ, List.set_cons_zero])
        iterate 7 (refine wpLeadI_skip _ rfl rfl (by kernel_rfl) ?_; try simp only [Act.put, List.setIfInBounds_toArray, List.set_cons_succ, List.set_cons_zero])
        iterate 2 (refine wpLeadI_read (v := ?_) _ rfl rfl (by rfl) ?_ ?_; rotate_left; (intro W hW; (try dsimp only at hW); go_simp; (try with_reducible rfl)); try simp only [Act.put, List.setIfInBounds_toArray, List.set_cons_succ, List.set_cons_zero])
        iterate 13 (refine wpLeadI_skip _ rfl rfl (by kernel_rfl) ?_; try simp only [Act.put, List.setIfInBounds_toArray, List.set_cons_succ, List.set_cons_zero])
        iterate 1 (refine wpLeadI_read (v := ?_) _ rfl rfl (by rfl) ?_ ?_; rotate_left; (intro W hW; (try dsimp only at hW); go_simp; (try with_reducible rfl)); try simp only [Act.put, List.setIfInBounds_toArray, List.set_cons_succ, List.set_cons_zero])
        simp only [wpLeadI]
        refine ⟨by kernel_rfl, ?_⟩
        go_wp2
        go_ret
        exact ⟨rfl, blw HXW.out (blw HQ1.out (bdrew _ _))⟩
      cases hB : Clk.isT xb
      · have HR := HNO.out (HT3.out (by rw [hB, Bool.false_and, Bool.and_false]))
        subst HR
        rw [hF] at HIF
        rw [hB] at HIB
        clear HT2 HT3 HS2 HSE HALL HNO
        refine wp_region_R (fun (W : World) => W.cell? ⟨b1, o1 + k * 2, none⟩ = some (.int .i64 xf) ∧ W.cell? ⟨b1, o1 + k * 2 + 1, none⟩ = some (.int .i64 xb)) 31 (by kernel_rfl) ?_
        refine wpAnyR_leadI (by kernel_rfl) ?hQ ?hS0 [0, 1, 2, 3, 4] 26 _ _ (by kernel_rfl) ?_
        case hQ => intro c a d v w h; cases d <;> exact h
        case hS0 => exact s0
        iterate 5 (refine wpLeadI_read (v := ?_) _ rfl rfl (by rfl) ?_ ?_; rotate_left; (intro W hW; (try dsimp only at hW); go_simp; (try with_reducible rfl)); try simp only [Act.put, List.setIfInBounds_toArray, List.set_cons_succ, List.set_cons_zero])
        simp only [wpLeadI]
        refine wpAnyR_one (i := 5) rfl (by kernel_rfl) ?_
        intro K1 hK1
        go_simp
        refine (HIF.out _).mono ?_
        rintro e x3 ⟨rfl, rfl⟩
        refine hK1.out _ _ s0 ?_
        clear hK1 K1
        refine wpAnyR_leadI (by kernel_rfl) ?hQ ?hS0 [6, 7, 8, 9, 10, 11, 12] 18 _ _ (by kernel_rfl) ?_
        case hQ => intro c a d v w h; cases d <;> exact h
        case hS0 => exact s0
        iterate 7 (refine wpLeadI_read (v := ?_) _ rfl rfl (by rfl) ?_ ?_; rotate_left; (intro W hW; (try dsimp only at hW); go_simp; (try with_reducible rfl)); try simp only [Act.put, List.setIfInBounds_toArray, List.set_cons_succ, List.set_cons_zero])
        simp only [wpLeadI]
        refine wpAnyR_one (i := 13) rfl (by kernel_rfl) ?_
        intro K1 hK1
        go_simp
        refine (HIB.out _).mono ?_
        rintro e x3 ⟨rfl, rfl⟩
        refine hK1.out _ _ s0 ?_
        clear hK1 K1
        refine wpAnyR_leadI (by kernel_rfl) ?hQ ?hS0 [14, 15, 16, 17, 18, 19, 20, 21, 22, 23, 24, 25, 26, 27, 28, 29, 30] 0 _ _ (by kernel_rfl) ?_
        case hQ => intro c a d v w h; cases d <;> exact h
        case hS0 => exact s0
        iterate 3 (refine wpLeadI_read (v := ?_) _ rfl rfl (by rfl) ?_ ?_; rotate_left; (intro W hW; (try dsimp only at hW); go_simp; (try with_reducible rfl)); try simp only [Act.put, List.setIfInBounds_toArray, List.set_cons_succ, List.set_cons_zero])
        iterate 13 (refine wpLeadI_skip _ rfl rfl (by kernel_rfl) ?_; try simp only [Act.put, List.setIfInBounds_toArray, List.set_cons_succ, List.set_cons_zero])
        iterate 1 (refine wpLeadI_read (v := ?_) _ rfl rfl (by rfl) ?_ ?_; rotate_left; (intro W hW; (try dsimp only at hW); go_simp; (try with_reducible rfl)); try simp only [Act.put, List.setIfInBounds_toArray, List.set_cons_succ, List.set_cons_zero])
        simp only [wpLeadI]
        refine ⟨by kernel_rfl, ?_⟩
        go_wp2
        go_ret
        exact ⟨rfl, blw HXW.out (blw HQ1.out (bdrew _ _))⟩
      have i1 := isT_iff.1 hF; have i2 := isT_iff.1 hB
      have hz : IntKind.i64.wrap (xf + av) = xf + av := by rw [IntKind.wrap_i64]; omega
      rw [hF] at HIF
      rw [hB] at HIB
      rw [hF, hB, Bool.true_and, Bool.true_and] at HT3 HSE
      by_cases hs : xf + av ≤ xb
      case neg =>
        have HR := HNO.out (HT3.out (decide_eq_false hs))
        subst HR
        clear HT2 HT3 HS2 HSE HALL HNO
        go_region_held3 (fun (W : World) => W.cell? ⟨b1, o1 + k * 2, none⟩ = some (.int .i64 xf) ∧ W.cell? ⟨b1, o1 + k * 2 + 1, none⟩ = some (.int .i64 xb)) (first | exact s0) (first
          | (go_at_call_of 31 xf; refine (HIF.out _).mono ?_; rintro e x3 ⟨rfl, rfl⟩)
          | (go_at_call_of 31 xb; refine (HIB.out _).mono ?_; rintro e x3 ⟨rfl, rfl⟩))
        all_goals
          go_wp2
          go_ret
          exact ⟨rfl, blw HXW.out (blw HQ1.out (bdrew _ _))⟩
      have HSE2 := Lib.hid (HSE.out (decide_eq_true hs))
      clear HT3 HSE
      go_region_held3 (fun (W : World) => W.cell? ⟨b1, o1 + k * 2, none⟩ = some (.int .i64 xf) ∧ W.cell? ⟨b1, o1 + k * 2 + 1, none⟩ = some (.int .i64 xb)) (first | exact s0) (first
        | (go_at_call_of 31 xf; refine (HIF.out _).mono ?_; rintro e x3 ⟨rfl, rfl⟩)
        | (go_at_call_of 31 xb; refine (HIB.out _).mono ?_; rintro e x3 ⟨rfl, rfl⟩))
      all_goals
        go_wp2_with fail
        go_loopw [8] (fun i wr => ∃ j : Nat, j ≤ t.after.length ∧ i = .int .i64 j ∧ Hid (∀ (i n : Nat) (y : WinD), i < j → t.after[i]? = some (n : Int) → l[n]? = some y → IntKind.i64.wrap (y.by_ + av) ≤ xb) ∧ Hid (Below x1.heap.size x1 wr)) (fun i _ => t.after.length - (intOf i).toNat)
        case atStart => exact ⟨0, Nat.zero_le _, rfl, Lib.hid (fun i n y hi => absurd hi (Nat.not_lt_zero i)), Lib.hid (bdrew _ _)⟩
        case round =>
          obtain ⟨j, hj, rfl, HUQ, HY⟩ := hrel
          by_cases hjl : j < t.after.length
          · obtain ⟨u, hu⟩ : ∃ u, t.after[j]? = some u := ⟨_, List.getElem?_eq_getElem hjl⟩
            obtain ⟨b2, o2, eb2, cu⟩ := (HI1.out.below HY.out).cells j (.int .i64 u) (by unfold Dag.ints; rw [List.getElem?_map, hu]; rfl)
            obtain ⟨n, y, rfl, hn, hy⟩ := HT2.out j u hu
            rw [HLL.out] at hn
            obtain ⟨b3, o3, e3, k1, k2⟩ := (HV1.out.below HY.out).cells n y hy
            subst eb2
            obtain ⟨rfl, rfl⟩ : b1 = b3 ∧ o1 = o3 := by injection e3 with e3; injection e3 with e4 e5; exact ⟨e4, e5⟩
            have g7 := kp_cell HY.out g3; have g8 := kp_cell HY.out g4
            obtain ⟨z, hzz⟩ : ∃ z, IntKind.i64.wrap (y.by_ + av) = z := ⟨_, rfl⟩
            by_cases hle : z ≤ xb
            · have HU2 : Hid (∀ (i n : Nat) (y : WinD), i < j + 1 → t.after[i]? = some (n : Int) → l[n]? = some y → IntKind.i64.wrap (y.by_ + av) ≤ xb) := Lib.hid fun i m z hi hm hz => by
                by_cases e : i < j
                · exact HUQ.out i m z e hm hz
                · obtain rfl : i = j := by omega
                  rw [hu] at hm
                  injection hm with hm
                  obtain rfl : n = m := by omega
                  rw [hy] at hz
                  injection hz with hz
                  subst hz
                  omega
              clear hu hy e3
              go_wp2
              go_quiet (fail)
              go_wp2
              go_roundw
              case rel => exact ⟨j + 1, by omega, by go_num, HU2, Lib.hid (blw HY.out (bdrew _ _))⟩
              case measure => simp [intOf]; omega
            · have HR := HNO.out (HS2.out j n y hu hy (by omega))
              subst HR
              clear HT2 HSE2 HS2 HALL HNO hu hy e3
              go_wp2
              go_quiet (fail)
              go_wp2
              go_ret
              exact ⟨rfl, blw HXW.out (blw HQ1.out (blw HY.out (bdrew _ _)))⟩
          · obtain rfl : j = t.after.length := by omega
            have HK := Lib.hid (HSE2.out fun i n y hi hy => HUQ.out i n y (List.getElem?_eq_some_iff.1 hi).1 hi hy)
            have HU3 : Hid (∀ v, v < k + 1 → Seen f l v) := Lib.hid fun v hv => by
              by_cases e : v < k
              · exact HUP.out v e
              · obtain rfl : v = k := by omega
                exact HK.out
            go_wp2
            go_roundw
            case rel => exact ⟨k + 1, by omega, by go_num, HU3, Lib.hid (blw HX.out (blw HQ1.out HY.out))⟩
            case measure => simp [intOf]; omega
    · obtain rfl : k = f.tasks.length := by omega
      have HR := HALL.out HUP.out
      subst HR
      go_wp2
      go_ret
      exact ⟨rfl, HXW.out⟩
end Go.Proofs.YtkicanegjkemoaaDoor

namespace Go.Proofs.YtkicanegjkemoaaDoor
open Go.ChangeShapes Go.WideShapes Go.ChangeAt Go.RowKit Go.Shelf Go.Lib
set_option linter.unusedVariables false
set_option maxRecDepth 100000
section
variable {H : Type} {enc : TypeId × Value → H} {w : World}
theorem tst2x {P : Program} {base : Nat} {spare : Nat → Bool} {held : Bool} {t : TypeId} {f0 f1 : Field} {fuel : Nat} {cs : List Value} {x : DataW H × List MemPlace} (ht : P.underlying t = some (.struct #[f0, f1])) (h : DataW.trod enc P w base spare held fuel t cs = some x) :
    ∃ y0 y1 n, x.1 = .agg [y0.1, y1.1] ∧ cs.length = P.cellsOf t ∧ DataW.trod enc P w base spare held n f0.type ((cs.drop f0.offset).take (P.cellsOf f0.type)) = some y0 ∧
      DataW.trod enc P w base spare held n f1.type ((cs.drop f1.offset).take (P.cellsOf f1.type)) = some y1 := by
  obtain ⟨xs, n, _, rfl, hl, hlen, hf⟩ := DataW.trod_struct ht h
  match xs, hlen with
  | [y0, y1], _ => exact ⟨y0, y1, n, rfl, hl, by simpa using hf 0 f0 rfl, by simpa using hf 1 f1 rfl⟩
theorem c_window : Tryd.prog.cellsOf 37 = 2 := by kernel_rfl
theorem window_arg {fuel : Nat} {cs : List Value} {x : DataW H × List MemPlace} (h : DataW.trod enc Tryd.prog w 0 (fun _ => true) true fuel 37 cs = some x) :
    ∃ s : WinD, cs = [.int .i64 s.fr, .int .i64 s.by_] := by
  obtain ⟨y0, y1, n, hx, hl, h0, h1⟩ := tst2x Tryd.underlying37 h
  rw [c_window] at hl
  match cs, hl with
  | [a0, a1], _ =>
    simp only [c_int, List.drop_zero, List.drop_succ_cons, List.take_succ_cons, List.take_zero] at h0 h1
    obtain ⟨n0, e0, _, _⟩ := DataW.trod_int Tryd.underlying3 h0
    obtain ⟨n1, e1, _, _⟩ := DataW.trod_int Tryd.underlying3 h1
    simp only [List.cons.injEq, and_true] at e0 e1
    subst e0 e1
    exact ⟨⟨n0, n1⟩, rfl⟩
theorem windows_arg {fuel : Nat} {v : Value} {x : DataW H × List MemPlace} (h : DataW.trod enc Tryd.prog w 0 (fun _ => true) true fuel 27 [v] = some x) :
    ∃ (A : Option Addr) (c : Nat) (l : List WinD), v = .slice A l.length c ∧ Wins w A c l := by
  rcases Go.Deep.open_slice Tryd.underlying27 h with ⟨hcs, hx⟩ | ⟨a, l, c, m, n, D, Pl, hcs, _, hl, hm, hmm, hx, hi⟩
  · simp at hcs
    subst hcs hx
    exact ⟨none, 0, [], rfl, Wins.empty _⟩
  · simp at hcs
    subst hcs
    simp only [if_true] at hmm
    have each : ∀ i, i < l → ∃ s : WinD, w.cell? (a.add (i * 2)) = some (.int .i64 s.fr) ∧ w.cell? (a.add (i * 2 + 1)) = some (.int .i64 s.by_) := by
      intro i hil
      obtain ⟨cs', h1, h2⟩ := hi i (by omega)
      rw [c_window] at h1
      obtain ⟨_, hcl, hat⟩ := World.cells?_some h1
      obtain ⟨s, rfl⟩ := window_arg h2
      simp only [Go.Deep.add_add] at hat
      exact ⟨s, hat 0 (by omega), hat 1 (by omega)⟩
    have H2 : ∀ j, j ≤ l → ∃ ts : List WinD, ts.length = j ∧ ∀ k s, ts[k]? = some s → w.cell? (a.add (k * 2)) = some (.int .i64 s.fr) ∧ w.cell? (a.add (k * 2 + 1)) = some (.int .i64 s.by_) := by
      intro j
      induction j with
      | zero => exact fun _ => ⟨[], rfl, fun k xs hx => by simp at hx⟩
      | succ j ih =>
        intro hj
        obtain ⟨ts, e1, e3⟩ := ih (by omega)
        obtain ⟨s, f⟩ := each j (by omega)
        refine ⟨ts ++ [s], by simp [e1], fun k ys hy => ?_⟩
        rcases Nat.lt_or_ge k j with hlt | hge
        · rw [List.getElem?_append_left (by omega)] at hy
          exact e3 k ys hy
        · rw [List.getElem?_append_right (by omega), e1] at hy
          have hk : k = j := by
            have := (List.getElem?_eq_some_iff.1 hy).1
            simp at this; omega
          subst hk
          simp at hy
          subst hy
          exact f
    obtain ⟨ts, e1, e3⟩ := H2 l (Nat.le_refl _)
    refine ⟨some a, c, ts, by rw [e1], ⟨fun k s hk => ?_, by omega, hm, fun e => by cases e⟩⟩
    obtain ⟨b, off, rfl⟩ : ∃ b off, a = ⟨b, off, none⟩ := by
      obtain ⟨s0, h0⟩ : ∃ s, ts[0]? = some s := ⟨_, List.getElem?_eq_getElem (Nat.lt_of_le_of_lt (Nat.zero_le _) (List.getElem?_eq_some_iff.1 hk).1)⟩
      obtain ⟨g0, _⟩ := e3 0 s0 h0
      obtain ⟨b, off, spot⟩ := a
      have hspot : spot = none := by simpa [Addr.add] using World.cell?_spot g0
      subst hspot
      exact ⟨b, off, rfl⟩
    obtain ⟨g0, g1⟩ := e3 k s hk
    simp only [Go.WideShapes.add_plain, ← Nat.add_assoc] at g0 g1
    exact ⟨b, off, rfl, g0, g1⟩
end
end Go.Proofs.YtkicanegjkemoaaDoor

