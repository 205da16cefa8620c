/- Layer 8: windows in memory; Windows: as wide as can be. -/
import Derived.Test.YtkicanegjkemoaaDoorSplA
namespace Go.Proofs.YtkicanegjkemoaaDoor
open Go.RowKit Go.Shelf
open Dag (Ints Own1 Sl num num_len num_get Gr newE order behL order_ord)
set_option linter.unusedVariables false
set_option maxRecDepth 100000

/-- windows in memory -/
structure Wins (w : World) (A : Option Addr) (c : Nat) (l : List WinD) : Prop where
  cells : ∀ k x, l[k]? = some x → ∃ b off, A = some ⟨b, off, none⟩ ∧ w.cell? ⟨b, off + k * 2, none⟩ = some (.int .i64 x.fr) ∧ w.cell? ⟨b, off + k * 2 + 1, none⟩ = some (.int .i64 x.by_)
  cap : l.length ≤ c
  top : c ≤ maxLen
  nil : A = none → c = 0
theorem Wins.empty (w : World) : Wins w none 0 [] := ⟨fun k x h => by simp at h, Nat.le_refl _, Nat.zero_le _, fun _ => rfl⟩
theorem Wins.below {w w' : World} {A : Option Addr} {c : Nat} {l : List WinD} (h : Wins w A c l) (hb : Below w.heap.size w w') : Wins w' A c l := by
  refine ⟨fun k x hx => ?_, h.cap, h.top, h.nil⟩
  obtain ⟨b, off, e, h0, h1⟩ := h.cells k x hx
  exact ⟨b, off, e, kp_cell hb h0, kp_cell hb h1⟩
/-- windows that are written, so many of n so far -/
structure WinB (w : World) (b n : Nat) (l : List WinD) : Prop where
  ex : ∃ cur : Array Value, w.heap[b]? = some (.cells cur 37 (0, 0)) ∧ cur.size = n * 2 ∧ ∀ j x, l[j]? = some x → cur[j * 2]? = some (.int .i64 x.fr) ∧ cur[j * 2 + 1]? = some (.int .i64 x.by_)
theorem WinB.keep {w w' : World} {b n : Nat} {l : List WinD} (h : WinB w b n l) (hb : w'.heap[b]? = w.heap[b]?) : WinB w' b n l := by
  obtain ⟨cur, h1, h2, h3⟩ := h.ex
  exact ⟨cur, hb.trans h1, h2, h3⟩
theorem WinB.lt {w : World} {b n : Nat} {l : List WinD} (h : WinB w b n l) : b < w.heap.size := by obtain ⟨cur, h1, _⟩ := h.ex; exact Dag.blk_lt h1
theorem WinB.below {w w' : World} {b n : Nat} {l : List WinD} (h : WinB w b n l) (hb : Below w.heap.size w w') : WinB w' b n l := h.keep (hb.block b h.lt)
theorem WinB.slot {w : World} {b n : Nat} {l : List WinD} (h : WinB w b n l) {k : Nat} (hk : k < n) : ∃ u v, w.cell? ⟨b, k * 2, none⟩ = some u ∧ w.cell? ⟨b, k * 2 + 1, none⟩ = some v ∧ w.frozen? ⟨b, k * 2, none⟩ = false ∧ w.frozen? ⟨b, k * 2 + 1, none⟩ = false := by
  obtain ⟨cur, h1, h2, h3⟩ := h.ex
  refine ⟨cur[k * 2], cur[k * 2 + 1], ?_, ?_, Dag.blk_frozen h1 _, Dag.blk_frozen h1 _⟩
  · rw [Dag.blk_cell h1]; exact Array.getElem?_eq_getElem (by omega)
  · rw [Dag.blk_cell h1]; exact Array.getElem?_eq_getElem (by omega)
theorem set_obj {W : World} {b i : Nat} {x : Value} {cur : Array Value} {t : TypeId} (h : W.heap[b]? = some (.cells cur t (0, 0))) : (W.setCell ⟨b, i, none⟩ x).heap[b]? = some (.cells (cur.setIfInBounds i x) t (0, 0)) := by
  simp [World.setCell, Array.getElem?_modify, h]
theorem WinB.put {w : World} {b n : Nat} {l : List WinD} (h : WinB w b n l) (hk : l.length < n) (x y : Int) : WinB ((w.setCell ⟨b, l.length * 2, none⟩ (.int .i64 x)).setCell ⟨b, l.length * 2 + 1, none⟩ (.int .i64 y)) b n (l ++ [⟨x, y⟩]) := by
  obtain ⟨cur, h1, h2, h3⟩ := h.ex
  refine ⟨(cur.setIfInBounds (l.length * 2) (.int .i64 x)).setIfInBounds (l.length * 2 + 1) (.int .i64 y), set_obj (set_obj h1), by simp [h2], fun j z hz => ?_⟩
  by_cases e : j < l.length
  · rw [List.getElem?_append_left e] at hz
    obtain ⟨a1, a2⟩ := h3 j z hz
    refine ⟨?_, ?_⟩
    · rw [Array.getElem?_setIfInBounds_ne (by omega), Array.getElem?_setIfInBounds_ne (by omega)]; exact a1
    · rw [Array.getElem?_setIfInBounds_ne (by omega), Array.getElem?_setIfInBounds_ne (by omega)]; exact a2
  · have hjl := (List.getElem?_eq_some_iff.1 hz).1
    rw [List.length_append, List.length_singleton] at hjl
    obtain rfl : j = l.length := by omega
    rw [List.getElem?_append_right (Nat.le_refl _), Nat.sub_self, List.getElem?_cons_zero] at hz
    injection hz with hz
    subst hz
    refine ⟨?_, ?_⟩
    · rw [Array.getElem?_setIfInBounds_ne (by omega), Array.getElem?_setIfInBounds_self_of_lt (by omega)]
    · rw [Array.getElem?_setIfInBounds_self_of_lt (by simp; omega)]
theorem WinB.wins {w : World} {b n : Nat} {l : List WinD} (h : WinB w b n l) (hl : l.length = n) (hn : n ≤ 1000) : Wins w (some ⟨b, 0, none⟩) n l := by
  obtain ⟨cur, h1, h2, h3⟩ := h.ex
  refine ⟨fun k x hx => ⟨b, 0, rfl, ?_, ?_⟩, by omega, by simp only [maxLen]; omega, fun e => by cases e⟩
  · rw [Nat.zero_add, Dag.blk_cell h1]; exact (h3 k x hx).1
  · rw [Nat.zero_add, Dag.blk_cell h1]; exact (h3 k x hx).2
theorem info_win : (Tryd.prog.info? 37).map (fun i => (i.zero, i.size, i.bytes)) = some (some (.agg #[.int .i64 0, .int .i64 0]), 2, 16) := by kernel_rfl
theorem mk_win (n : Nat) (hn : n ≤ 1000) : ∃ cur : Array Value, cur.size = n * 2 ∧ ∀ W : World, (Instr.makeSlice 27 (.int .i64 (n : Int)) (.int .i64 (n : Int))).run Tryd.prog W = .ok (.slice (some ⟨W.heap.size, 0, none⟩) n n) (W.alloc (.cells cur 37)) := by
  obtain ⟨i0, hi0, hz0, hz1, hz2⟩ := info_parts info_win
  refine ⟨madeCells (Value.agg #[.int .i64 0, .int .i64 0]).cells (n * 2), by simp [madeCells], fun W => ?_⟩
  have h := run_makeSlice (P := Tryd.prog) W 27 37 i0 (.agg #[.int .i64 0, .int .i64 0]) Tryd.underlying27 hi0 hz0 .i64 .i64 (n : Int) (n : Int) (by omega) (by omega) (by rw [hz1]; omega) (by rw [hz2]; omega) (by omega)
  rw [h, Int.toNat_natCast, hz1]
theorem WinB.start {w : World} {n : Nat} {cur : Array Value} (hc : cur.size = n * 2) {b : Nat} (hb : w.heap.size = b) : WinB (w.alloc (.cells cur 37)) b n [] := by
  subst hb
  exact ⟨cur, heap_alloc_new w _, hc, fun j x h => by simp at h⟩

def RetWin (l : List WinD) (e0 : Int) (w : World) (e : Ending) (w' : World) : Prop := ∃ A c, e = .returned (.tuple #[.slice A l.length c, .int .i64 e0]) ∧ Wins w' A c l ∧ Below w.heap.size w w'
theorem retWin_err {l : List WinD} {x : Int} {w w' : World} (hl : l = []) (hb : Below w.heap.size w w') : RetWin l x w (.returned (.tuple #[.slice none 0 0, .int .i64 x])) w' := by
  subst hl; exact ⟨none, 0, rfl, Wins.empty _, hb⟩
theorem map_range_succ {α : Type} (g : Nat → α) (k : Nat) : (List.range (k + 1)).map g = (List.range k).map g ++ [g k] := by rw [List.range_succ, List.map_append]; rfl
theorem map_range_len {α : Type} (g : Nat → α) (k : Nat) : ((List.range k).map g).length = k := by simp

set_option maxHeartbeats 3200000 in
theorem windows_any (f : FlowD) (A : Option Addr) (c : Nat) (now by_ : Int) (w : World) (h : FlA w f A c) :
    Calls Tryd.prog 8 #[.agg #[.string (sb f.name), .int .i64 f.deadline, .int .i64 f.priority, .slice A f.tasks.length c], .int .i64 now, .int .i64 by_] w (RetWin (winL f now by_) (winE f now by_) w) := by
  have hlen := h.len
  obtain ⟨lw, hlw⟩ : ∃ lw, lwV f now by_ = lw := ⟨_, rfl⟩
  obtain ⟨e0, he0⟩ : ∃ e0, winE f now by_ = e0 := ⟨_, rfl⟩
  have HWI := Lib.hid fun W (hW : Below w.heap.size w W) => within_any f A c now by_ W (h.below hW) lw e0 hlw he0
  by_cases h0 : e0 = 0
  case neg =>
    have hl : winL f now by_ = [] := by unfold winL; rw [he0, if_neg h0]
    have hxn : (e0 != 0) = true := by simp [h0]
    have HL := Lib.hid hl
    have HE := Lib.hid he0
    rw [he0]
    clear h h0 hl he0 hlw
    go_enter Tryd.func8, Tryd.ntmps8
    go_wp2_with fail
    refine (HWI.out _ (al _ _)).mono ?_
    rintro e w1 ⟨rfl, hb1⟩
    have HB1 := Lib.hid (blw (al w (flowO f A c)) hb1)
    clear hb1
    go_wp2
    go_ret2
    exact retWin_err HL.out HB1.out
  subst h0
  obtain ⟨hnw, hbt, hea, hge⟩ := win_yes he0
  obtain ⟨_, hre, _⟩ := ear_yes hea
  have hrd := dn_ok hre
  have hvu : rankV f (upD f.tasks) = numsU f.tasks.length (upD f.tasks) := by unfold rankV; rw [if_pos hre]
  have hvd : rankV f (dnD f.tasks) = numsU f.tasks.length (dnD f.tasks) := by unfold rankV; rw [if_pos hrd]
  have HUP := Lib.hid fun W (hW : Below w.heap.size w W) => up_any f A c W (h.below hW)
  have HDN := Lib.hid fun W (hW : Below w.heap.size w W) => down_any f A c W (h.tasks.below hW) (h.tb.below hW) (by have := h.nm; omega) (fun t ht => by have := h.nms t ht; omega) hlen h.aft
  have hun : (numsU f.tasks.length (upD f.tasks)).length = f.tasks.length := by simp [numsU]
  have hdn : (numsU f.tasks.length (dnD f.tasks)).length = f.tasks.length := by simp [numsU]
  unfold RetU at HUP HDN
  rw [hvu, hre, hun] at HUP
  rw [hvd, hrd, hdn] at HDN
  have HL : Hid (winL f now by_ = (List.range f.tasks.length).map (win1 f.tasks now by_)) := Lib.hid (by unfold winL; rw [if_pos he0])
  have HRK := Lib.hid (rk_ok hre)
  have HNB := Lib.hid (Clk.isT_bd hnw); have HBB := Lib.hid (Clk.isT_bd hbt)
  have H := Lib.hid h.tasks
  obtain ⟨cur0, hcz, hmk⟩ := mk_win f.tasks.length (by omega)
  have HCZ := Lib.hid hcz
  rw [he0]
  clear h hlw he0 hnw hbt hea hge hre hrd hvu hvd hun hdn hcz
  go_enter Tryd.func8, Tryd.ntmps8
  go_wp2_with fail
  refine (HWI.out _ (al _ _)).mono ?_
  rintro e w1 ⟨rfl, hb1⟩
  have HB1 := Lib.hid (blw (al w (flowO f A c)) hb1)
  have HO1 : Hid (w1.heap[w.heap.size]? = some (flowO f A c)) := Lib.hid ((hb1.block _ (by simp)).trans (heap_alloc_new w _))
  clear hb1
  obtain ⟨p0, p1, p2, p3, hp⟩ := flowO_cells HO1.out
  go_wp2_with fail
  refine (HUP.out _ HB1.out).mono ?_
  rintro e w2 ⟨B, d, rfl, hi2, hb2⟩
  have HI2 := Lib.hid hi2; have HB2 := Lib.hid (blw HB1.out hb2)
  have HO2 : Hid (w2.heap[w.heap.size]? = some (flowO f A c)) := Lib.hid ((hb2.block _ (Dag.blk_lt HO1.out)).trans HO1.out)
  clear hi2 hb2 p0 p1 p2 p3 hp HO1 HB1
  obtain ⟨p0, p1, p2, p3, hp⟩ := flowO_cells HO2.out
  go_wp2_with fail
  refine (HDN.out _ HB2.out).mono ?_
  rintro e w3 ⟨B2, d2, rfl, hi3, hb3⟩
  have HI3 := Lib.hid hi3; have HI2' := Lib.hid (HI2.out.below hb3); have HB3 := Lib.hid (blw HB2.out hb3)
  have HO3 : Hid (w3.heap[w.heap.size]? = some (flowO f A c)) := Lib.hid ((hb3.block _ (Dag.blk_lt HO2.out)).trans HO2.out)
  clear hi3 hb3 p0 p1 p2 p3 hp HO2 HB2 HI2
  obtain ⟨p0, p1, p2, p3, hp⟩ := flowO_cells HO3.out
  have hlb := Dag.blk_lt HO3.out
  go_wp2_with fail
  clear hmk
  have hb4 := al w3 (.cells cur0 37)
  have hwb := WinB.start (w := w3) HCZ.out rfl
  generalize w3.alloc (.cells cur0 37) = w4 at hb4 hwb ⊢
  obtain ⟨wb, hwbE⟩ : ∃ wb, w3.heap.size = wb := ⟨_, rfl⟩
  rw [hwbE] at hb4 hwb hlb ⊢
  have HW4 := Lib.hid hwb; have HX4 : Hid (Below wb w3 w4) := Lib.hid hb4
  have HWE := Lib.hid hwbE
  clear hb4 hwb hwbE p0 p1 p2 p3 hp
  go_loopw [45] (fun i wr => ∃ k : Nat, k ≤ f.tasks.length ∧ i = .int .i64 k ∧ Hid (WinB wr wb f.tasks.length ((List.range k).map (win1 f.tasks now by_))) ∧ Hid (Below wb w3 wr)) (fun i _ => f.tasks.length - (intOf i).toNat)
  case atStart => exact ⟨0, Nat.zero_le _, rfl, HW4, HX4⟩
  case round =>
    clear HW4 HX4
    obtain ⟨k, hk, rfl, HW, HX⟩ := hrel
    have HXW : Hid (Below w3.heap.size w3 wr) := Lib.hid (by rw [HWE.out]; exact HX.out)
    obtain ⟨p0, p1, p2, p3, hp⟩ := flowO_cells ((HX.out.block _ hlb).trans HO3.out)
    by_cases hlt : k < f.tasks.length
    · obtain ⟨t, ht⟩ : ∃ t, f.tasks[k]? = some t := ⟨_, List.getElem?_eq_getElem hlt⟩
      obtain ⟨b, off, A2, c2, eA, h0, h1, h2, h3, h4, h5, hI⟩ := (H.out.below (blw HB3.out HXW.out)).cells k _ ht
      subst eA
      have hwt := wtAt_some ht
      obtain ⟨u, hu⟩ : ∃ u, upD f.tasks k = u := ⟨_, rfl⟩
      obtain ⟨dv, hdv⟩ : ∃ dv, dnD f.tasks k = dv := ⟨_, rfl⟩
      obtain ⟨av, hav⟩ : ∃ av, wgt t = av := ⟨_, rfl⟩
      obtain ⟨b1, o1, eb1, cu⟩ := (HI2'.out.below HXW.out).cells k (.int .i64 u) (by unfold Dag.ints numsU; rw [List.getElem?_map, List.getElem?_map, List.getElem?_range hlt]; simp [hu])
      obtain ⟨b2, o2, eb2, cd⟩ := (HI3.out.below HXW.out).cells k (.int .i64 dv) (by unfold Dag.ints numsU; rw [List.getElem?_map, List.getElem?_map, List.getElem?_range hlt]; simp [hdv])
      subst eb1 eb2
      have hWt := fun (W : World) => weight_any t A2 c2 W
      rw [hav] at hWt hwt
      have hbd : 0 ≤ dv ∧ 0 ≤ av ∧ av ≤ u ∧ dv + u ≤ 1099511627775 := by
        have q1 := HRK.out.dn0 k hlt; have q2 := HRK.out.wt0 k; have q3 := HRK.out.up k hlt; have q4 := HRK.out.sum k hlt; have q5 := HRK.out.high
        rw [hdv] at q1 q4; rw [hwt] at q2 q3; rw [hu] at q3 q4
        unfold maxT at q5
        omega
      have hnb := HNB.out; have hbb := HBB.out
      have HWIN : Hid (win1 f.tasks now by_ k = ⟨now + dv, by_ - (u - av)⟩) := Lib.hid (by unfold win1; rw [hdv, hu, hwt])
      have hw2 := heap_alloc_new wr (.cells #[.string (sb t.name), .int .i64 t.nodes, .int .i64 t.wall, .int .i64 t.retry, .bool t.done, .slice A2 t.after.length c2] 43)
      have hB2 := al wr (.cells #[.string (sb t.name), .int .i64 t.nodes, .int .i64 t.wall, .int .i64 t.retry, .bool t.done, .slice A2 t.after.length c2] 43)
      have HWT := Lib.hid hWt
      have HWr := Lib.hid (HW.out.below hB2)
      clear hWt hI ht hwt hu hdv hav
      have cu2 := kp_cell hB2 cu
      have cd2 := kp_cell hB2 cd
      go_wp2_with fail
      generalize wr.alloc (.cells #[.string (sb t.name), .int .i64 t.nodes, .int .i64 t.wall, .int .i64 t.retry, .bool t.done, .slice A2 t.after.length c2] 43) = x0 at hw2 hB2 HWr cu2 cd2 ⊢
      generalize wr.heap.size = tb at hw2 ⊢
      have HX0 := Lib.hid (HX.out.trans (hB2.mono (Nat.le_of_lt HW.out.lt)))
      have s0 : x0.drew.cell? ⟨tb, 0, none⟩ = some (.string (sb t.name)) ∧ x0.drew.cell? ⟨tb, 1, none⟩ = some (.int .i64 t.nodes) ∧ x0.drew.cell? ⟨tb, 2, none⟩ = some (.int .i64 t.wall) ∧ x0.drew.cell? ⟨tb, 3, none⟩ = some (.int .i64 t.retry) ∧ x0.drew.cell? ⟨tb, 4, none⟩ = some (.bool t.done) ∧ x0.drew.cell? ⟨tb, 5, none⟩ = some (.slice A2 t.after.length c2) ∧ x0.drew.cell? ⟨b1, o1 + k, none⟩ = some (.int .i64 u) := ⟨(Dag.blk_cell hw2 0).trans rfl, (Dag.blk_cell hw2 1).trans rfl, (Dag.blk_cell hw2 2).trans rfl, (Dag.blk_cell hw2 3).trans rfl, (Dag.blk_cell hw2 4).trans rfl, (Dag.blk_cell hw2 5).trans rfl, cu2⟩
      clear hw2 hB2 h0 h1 h2 h3 h4 h5 cu cd cu2
      go_region_held3 (fun (W : World) => W.cell? ⟨tb, 0, none⟩ = some (.string (sb t.name)) ∧ W.cell? ⟨tb, 1, none⟩ = some (.int .i64 t.nodes) ∧ W.cell? ⟨tb, 2, none⟩ = some (.int .i64 t.wall) ∧ W.cell? ⟨tb, 3, none⟩ = some (.int .i64 t.retry) ∧ W.cell? ⟨tb, 4, none⟩ = some (.bool t.done) ∧ W.cell? ⟨tb, 5, none⟩ = some (.slice A2 t.after.length c2) ∧ W.cell? ⟨b1, o1 + k, none⟩ = some (.int .i64 u)) (first | exact s1 | exact s0) (first
        | (go_at_call 21; refine (HWT.out _).mono ?_; rintro e x1 ⟨rfl, hb1⟩; have s1 : x1.cell? ⟨tb, 0, none⟩ = some (.string (sb t.name)) ∧ x1.cell? ⟨tb, 1, none⟩ = some (.int .i64 t.nodes) ∧ x1.cell? ⟨tb, 2, none⟩ = some (.int .i64 t.wall) ∧ x1.cell? ⟨tb, 3, none⟩ = some (.int .i64 t.retry) ∧ x1.cell? ⟨tb, 4, none⟩ = some (.bool t.done) ∧ x1.cell? ⟨tb, 5, none⟩ = some (.slice A2 t.after.length c2) ∧ x1.cell? ⟨b1, o1 + k, none⟩ = some (.int .i64 u) := ⟨kp_cell hb1 (s0.1), kp_cell hb1 (s0.2.1), kp_cell hb1 (s0.2.2.1), kp_cell hb1 (s0.2.2.2.1), kp_cell hb1 (s0.2.2.2.2.1), kp_cell hb1 (s0.2.2.2.2.2.1), kp_cell hb1 (s0.2.2.2.2.2.2)⟩; have HQ1 : Hid (Below x0.heap.size x0 x1) := Lib.hid ((drew_below x0).trans hb1); clear hb1))
      all_goals
        have cd3 := kp_cell HQ1.out cd2
        have HW1 := Lib.hid (HWr.out.below HQ1.out)
        obtain ⟨ya, yb, k1, k2, k3, k4⟩ := HW1.out.slot hlt
        have HX1 := Lib.hid (HX0.out.trans (HQ1.out.mono (Nat.le_of_lt HWr.out.lt)))
        have hput := HW1.out.put (by rw [map_range_len]; exact hlt) (now + dv) (by_ - (u - av))
        rw [map_range_len, ← HWIN.out, ← map_range_succ] at hput
        have HP := Lib.hid hput
        have HXP := Lib.hid ((HX1.out.setCell (p := ⟨wb, k * 2, none⟩) (Nat.le_refl _) (.int .i64 (now + dv))).setCell (p := ⟨wb, k * 2 + 1, none⟩) (Nat.le_refl _) (.int .i64 (by_ - (u - av))))
        clear hput s0 s1 cd2
        go_wp2
        go_roundw
        case rel => exact ⟨k + 1, by omega, by go_num, HP, HXP⟩
        case measure => simp [intOf]; omega
    · obtain rfl : k = f.tasks.length := by omega
      go_wp2
      go_ret2
      refine ⟨some ⟨wb, 0, none⟩, f.tasks.length, by rw [HL.out, map_range_len]; rfl, by rw [HL.out]; exact HW.out.wins (map_range_len _ _) (by omega), blw HB3.out HXW.out⟩
end Go.Proofs.YtkicanegjkemoaaDoor

