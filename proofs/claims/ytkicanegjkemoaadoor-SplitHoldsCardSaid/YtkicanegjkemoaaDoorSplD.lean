/- Layer 8: Shares: windows by the part of the whole time. -/
import Derived.Test.YtkicanegjkemoaaDoorSplB
import Derived.Test.YtkicanegjkemoaaDoorSplC
import Derived.Test.YtkicanegjkemoaaDoorRnkRegP
namespace Go.Proofs.YtkicanegjkemoaaDoor
open Go.RowKit Go.Shelf
open Dag (Ints Own1 Sl num num_len num_get Gr newE order behL order_ord)
set_option linter.unusedVariables false
set_option maxRecDepth 100000

theorem WinB.put1 {w : World} {b n : Nat} {l : List WinD} (h : WinB w b n l) (hk : l.length < n) (x : Int) : WinB (w.setCell ⟨b, l.length * 2, none⟩ (.int .i64 x)) b n l ∧ (w.setCell ⟨b, l.length * 2, none⟩ (.int .i64 x)).cell? ⟨b, l.length * 2, none⟩ = some (.int .i64 x) := by
  obtain ⟨cur, h1, h2, h3⟩ := h.ex
  refine ⟨⟨cur.setIfInBounds (l.length * 2) (.int .i64 x), set_obj h1, by simp [h2], fun j z hz => ?_⟩, ?_⟩
  · have hjl := (List.getElem?_eq_some_iff.1 hz).1
    obtain ⟨a1, a2⟩ := h3 j z hz
    refine ⟨?_, ?_⟩
    · rw [Array.getElem?_setIfInBounds_ne (by omega)]; exact a1
    · rw [Array.getElem?_setIfInBounds_ne (by omega)]; exact a2
  · rw [Dag.blk_cell (set_obj h1), Array.getElem?_setIfInBounds_self_of_lt (by omega)]
theorem WinB.put2 {w : World} {b n : Nat} {l : List WinD} (h : WinB w b n l) (hk : l.length < n) {x : Int} (hx : w.cell? ⟨b, l.length * 2, none⟩ = some (.int .i64 x)) (y : Int) : WinB (w.setCell ⟨b, l.length * 2 + 1, none⟩ (.int .i64 y)) b n (l ++ [⟨x, y⟩]) := by
  obtain ⟨cur, h1, h2, h3⟩ := h.ex
  rw [Dag.blk_cell h1] at hx
  refine ⟨cur.setIfInBounds (l.length * 2 + 1) (.int .i64 y), set_obj h1, by simp [h2], fun j z hz => ?_⟩
  by_cases e : j < l.length
  · rw [List.getElem?_append_left e] at hz
    obtain ⟨a1, a2⟩ := h3 j z hz
    refine ⟨?_, ?_⟩
    · rw [Array.getElem?_setIfInBounds_ne (by omega)]; exact a1
    · rw [Array.getElem?_setIfInBounds_ne (by omega)]; exact a2
  · have hjl := (List.getElem?_eq_some_iff.1 hz).1
    rw [List.length_append, List.length_singleton] at hjl
    obtain rfl : j = l.length := by omega
    rw [List.getElem?_append_right (Nat.le_refl _), Nat.sub_self, List.getElem?_cons_zero] at hz
    injection hz with hz
    subst hz
    refine ⟨?_, ?_⟩
    · rw [Array.getElem?_setIfInBounds_ne (by omega)]; exact hx
    · rw [Array.getElem?_setIfInBounds_self_of_lt (by omega)]

set_option maxHeartbeats 3200000 in
theorem shares_any (f : FlowD) (A : Option Addr) (c : Nat) (now by_ : Int) (w : World) (h : FlA w f A c) :
    Calls Tryd.prog 10 #[.agg #[.string (sb f.name), .int .i64 f.deadline, .int .i64 f.priority, .slice A f.tasks.length c], .int .i64 now, .int .i64 by_] w (RetWin (shrL f now by_) (winE f now by_) w) := by
  have hlen := h.len
  obtain ⟨lw, hlw⟩ : ∃ lw, lwV f now by_ = lw := ⟨_, rfl⟩
  obtain ⟨e0, he0⟩ : ∃ e0, winE f now by_ = e0 := ⟨_, rfl⟩
  have HWI := Lib.hid fun W (hW : Below w.heap.size w W) => within_any f A c now by_ W (h.below hW) lw e0 hlw he0
  by_cases h0 : e0 = 0
  case neg =>
    have hl : shrL f now by_ = [] := by unfold shrL; rw [he0, if_neg h0]
    have hxn : (e0 != 0) = true := by simp [h0]
    have HL := Lib.hid hl
    rw [he0]
    clear h h0 hl he0 hlw
    go_enter Tryd.func10, Tryd.ntmps10
    go_wp2_with fail
    refine (HWI.out _ (al _ _)).mono ?_
    rintro e w1 ⟨rfl, hb1⟩
    have HB1 := Lib.hid (blw (al w (flowO f A c)) hb1)
    clear hb1
    go_wp2
    go_ret2
    exact retWin_err HL.out HB1.out
  subst h0
  obtain ⟨hnw, hbt, hea, hge⟩ := win_yes he0
  obtain ⟨_, hre, _⟩ := ear_yes hea
  have hrd := dn_ok hre
  have hvd : rankV f (dnD f.tasks) = numsU f.tasks.length (dnD f.tasks) := by unfold rankV; rw [if_pos hrd]
  have HDN := Lib.hid fun W (hW : Below w.heap.size w W) => down_any f A c W (h.tasks.below hW) (h.tb.below hW) (by have := h.nm; omega) (fun t ht => by have := h.nms t ht; omega) hlen h.aft
  have hdn : (numsU f.tasks.length (dnD f.tasks)).length = f.tasks.length := by simp [numsU]
  unfold RetU at HDN
  rw [hvd, hrd, hdn] at HDN
  have hlv : lengthV f = lw := by rw [← hlw]; unfold lwV; rw [if_pos he0]
  have HL : Hid (shrL f now by_ = (List.range f.tasks.length).map (shr1 f.tasks lw now by_)) := Lib.hid (by unfold shrL; rw [if_pos he0, hlv])
  have HIN := Lib.hid fun (v : Nat) (hv : v < f.tasks.length) => shr1_in he0 hv
  rw [hlv] at HIN
  have HRK := Lib.hid (rk_ok hre)
  rw [hlv] at HRK hge
  have HNB := Lib.hid (Clk.isT_bd hnw); have HBB := Lib.hid (Clk.isT_bd hbt)
  have H := Lib.hid h.tasks
  obtain ⟨cur0, hcz, hmk⟩ := mk_win f.tasks.length (by omega)
  have HCZ := Lib.hid hcz
  have HGE := Lib.hid hge
  rw [he0]
  clear h hlw he0 hnw hbt hea hge hre hrd hvd hdn hcz hlv
  go_enter Tryd.func10, Tryd.ntmps10
  go_wp2_with fail
  refine (HWI.out _ (al _ _)).mono ?_
  rintro e w1 ⟨rfl, hb1⟩
  have HB1 := Lib.hid (blw (al w (flowO f A c)) hb1)
  have HO1 : Hid (w1.heap[w.heap.size]? = some (flowO f A c)) := Lib.hid ((hb1.block _ (by simp)).trans (heap_alloc_new w _))
  clear hb1
  obtain ⟨p0, p1, p2, p3, hp⟩ := flowO_cells HO1.out
  go_wp2_with fail
  refine (HDN.out _ HB1.out).mono ?_
  rintro e w3 ⟨B2, d2, rfl, hi3, hb3⟩
  have HI3 := Lib.hid hi3; have HB3 := Lib.hid (blw HB1.out hb3)
  have HO3 : Hid (w3.heap[w.heap.size]? = some (flowO f A c)) := Lib.hid ((hb3.block _ (Dag.blk_lt HO1.out)).trans HO1.out)
  clear hi3 hb3 p0 p1 p2 p3 hp HO1 HB1
  obtain ⟨p0, p1, p2, p3, hp⟩ := flowO_cells HO3.out
  have hlb := Dag.blk_lt HO3.out
  go_wp2_with fail
  clear hmk
  have hb4 := al w3 (.cells cur0 37)
  have hwb := WinB.start (w := w3) HCZ.out rfl
  generalize w3.alloc (.cells cur0 37) = w4 at hb4 hwb ⊢
  obtain ⟨wb, hwbE⟩ : ∃ wb, w3.heap.size = wb := ⟨_, rfl⟩
  rw [hwbE] at hb4 hwb hlb ⊢
  have HW4 := Lib.hid hwb; have HX4 : Hid (Below wb w3 w4) := Lib.hid hb4
  have HWE := Lib.hid hwbE
  clear hb4 hwb hwbE p0 p1 p2 p3 hp
  go_loopw [37] (fun i wr => ∃ k : Nat, k ≤ f.tasks.length ∧ i = .int .i64 k ∧ Hid (WinB wr wb f.tasks.length ((List.range k).map (shr1 f.tasks lw now by_))) ∧ Hid (Below wb w3 wr)) (fun i _ => f.tasks.length - (intOf i).toNat)
  case atStart => exact ⟨0, Nat.zero_le _, rfl, HW4, HX4⟩
  case round =>
    clear HW4 HX4
    obtain ⟨k, hk, rfl, HW, HX⟩ := hrel
    have HXW : Hid (Below w3.heap.size w3 wr) := Lib.hid (by rw [HWE.out]; exact HX.out)
    obtain ⟨p0, p1, p2, p3, hp⟩ := flowO_cells ((HX.out.block _ hlb).trans HO3.out)
    by_cases hlt : k < f.tasks.length
    · obtain ⟨t, ht⟩ : ∃ t, f.tasks[k]? = some t := ⟨_, List.getElem?_eq_getElem hlt⟩
      obtain ⟨b, off, A2, c2, eA, h0, h1, h2, h3, h4, h5, hI⟩ := (H.out.below (blw HB3.out HXW.out)).cells k _ ht
      subst eA
      have hwt := wtAt_some ht
      obtain ⟨dv, hdv⟩ : ∃ dv, dnD f.tasks k = dv := ⟨_, rfl⟩
      obtain ⟨av, hav⟩ : ∃ av, wgt t = av := ⟨_, rfl⟩
      obtain ⟨b2, o2, eb2, cd⟩ := (HI3.out.below HXW.out).cells k (.int .i64 dv) (by unfold Dag.ints numsU; rw [List.getElem?_map, List.getElem?_map, List.getElem?_range hlt]; simp [hdv])
      subst eb2
      have hWt := fun (W : World) => weight_any t A2 c2 W
      rw [hav] at hWt hwt
      have hbd : 0 ≤ dv ∧ 0 ≤ av ∧ dv + av ≤ lw ∧ lw ≤ 1099511627775 ∧ 0 ≤ lw := by
        have q1 := HRK.out.dn0 k hlt; have q2 := HRK.out.wt0 k; have q3 := HRK.out.up k hlt; have q4 := HRK.out.sum k hlt; have q5 := HRK.out.high; have q6 := HRK.out.low
        rw [hdv] at q1 q4; rw [hwt] at q2 q3
        unfold maxT at q5
        omega
      have hnb := HNB.out; have hbb := HBB.out; have hge := HGE.out
      obtain ⟨i1, i2, i3⟩ := HIN.out k hlt
      unfold shr1 at i1 i2 i3
      rw [hdv, hwt] at i1 i2 i3
      simp only at i1 i2 i3
      obtain ⟨G, hG⟩ : ∃ G, by_ - now = G := ⟨_, rfl⟩
      rw [hG] at i1 i2 i3
      obtain ⟨r1, hr1⟩ : ∃ r1, dv * G / lw = r1 := ⟨_, rfl⟩
      obtain ⟨r2, hr2⟩ : ∃ r2, (dv + av) * G / lw = r2 := ⟨_, rfl⟩
      have HWIN : Hid (shr1 f.tasks lw now by_ k = ⟨now + r1, now + r2⟩) := Lib.hid (by unfold shr1; rw [hdv, hwt, hG, hr1, hr2])
      have HS1 := Lib.hid fun (W : World) => share_any dv G lw r1 hbd.1 (by omega) hbd.2.2.2.1 (by omega) (by omega) hr1 W
      have HS2 := Lib.hid fun (W : World) => share_any (dv + av) G lw r2 (by omega) (by omega) hbd.2.2.2.1 (by omega) (by omega) hr2 W
      rw [hr1] at i1 i3; rw [hr2] at i2 i3
      have hgb : 0 ≤ G ∧ G ≤ 1099511627775 := by omega
      subst hG
      have hw2 := heap_alloc_new wr (.cells #[.string (sb t.name), .int .i64 t.nodes, .int .i64 t.wall, .int .i64 t.retry, .bool t.done, .slice A2 t.after.length c2] 43)
      have hB2 := al wr (.cells #[.string (sb t.name), .int .i64 t.nodes, .int .i64 t.wall, .int .i64 t.retry, .bool t.done, .slice A2 t.after.length c2] 43)
      have HWT := Lib.hid hWt
      have HWr := Lib.hid (HW.out.below hB2)
      have HDV := Lib.hid hdv
      clear hWt hI ht hwt hdv hav hr1 hr2
      have cd2 := kp_cell hB2 cd
      go_wp2_with fail
      generalize wr.alloc (.cells #[.string (sb t.name), .int .i64 t.nodes, .int .i64 t.wall, .int .i64 t.retry, .bool t.done, .slice A2 t.after.length c2] 43) = x0 at hw2 hB2 HWr cd2 ⊢
      generalize wr.heap.size = tb at hw2 ⊢
      have HX0 := Lib.hid (HX.out.trans (hB2.mono (Nat.le_of_lt HW.out.lt)))
      refine (HS1.out x0).mono ?_
      rintro e x1 ⟨rfl, hb1⟩
      have HX1 := Lib.hid (HX0.out.trans (hb1.mono (Nat.le_of_lt HWr.out.lt)))
      have hw3 := (hb1.block _ (Dag.blk_lt hw2)).trans hw2
      have HW1 := Lib.hid (HWr.out.below hb1)
      have cd3 := kp_cell hb1 cd2
      have htb : tb < x1.heap.size := Dag.blk_lt hw3
      clear hw2 hB2 cd2 hb1 h0 h1 h2 h3 h4 h5 cd HWr HX0
      obtain ⟨ya, yb, k1, k2, k3, k4⟩ := HW1.out.slot hlt
      have hne : tb ≠ wb := fun e => by
        subst e
        obtain ⟨cur, q, _⟩ := HW1.out.ex
        rw [hw3] at q
        injection q with q
        injection q with _ q
        revert q; decide
      have hnd : b2 < wb := by
        obtain ⟨b', o', e', hc'⟩ := HI3.out.cells k (.int .i64 dv) (by
          have := cd3
          unfold Dag.ints numsU; rw [List.getElem?_map, List.getElem?_map, List.getElem?_range hlt]; simp; exact HDV.out)
        injection e' with e'; injection e' with e'; subst e'
        rw [← HWE.out]; exact World.block_lt_of_cell? w3 _ hc'
      go_wp2_with fail
      rename_i K hKK
      have hput1 := HW1.out.put1 (by rw [map_range_len]; exact hlt) (now + r1)
      rw [map_range_len] at hput1
      have HX2 := Lib.hid (HX1.out.setCell (p := ⟨wb, k * 2, none⟩) (Nat.le_refl _) (.int .i64 (now + r1)))
      have hw4 : (x1.setCell ⟨wb, k * 2, none⟩ (.int .i64 (now + r1))).heap[tb]? = _ := (Below.heap_setCell _ _ _ _ hne).trans hw3
      have cd4 := set_other (o := k * 2) (x := .int .i64 (now + r1)) (Nat.ne_of_lt hnd) cd3
      generalize x1.setCell ⟨wb, k * 2, none⟩ (.int .i64 (now + r1)) = y0 at hput1 HX2 hw4 cd4 ⊢
      obtain ⟨hp1, hp2⟩ := hput1
      have HP1 := Lib.hid hp1; have HP2 := Lib.hid hp2
      have s0 : y0.drew.cell? ⟨tb, 0, none⟩ = some (.string (sb t.name)) := (Dag.blk_cell hw4 0).trans rfl
      have s1 : y0.drew.cell? ⟨tb, 1, none⟩ = some (.int .i64 t.nodes) := (Dag.blk_cell hw4 1).trans rfl
      have s2 : y0.drew.cell? ⟨tb, 2, none⟩ = some (.int .i64 t.wall) := (Dag.blk_cell hw4 2).trans rfl
      have s3 : y0.drew.cell? ⟨tb, 3, none⟩ = some (.int .i64 t.retry) := (Dag.blk_cell hw4 3).trans rfl
      have s4 : y0.drew.cell? ⟨tb, 4, none⟩ = some (.bool t.done) := (Dag.blk_cell hw4 4).trans rfl
      have s5 : y0.drew.cell? ⟨tb, 5, none⟩ = some (.slice A2 t.after.length c2) := (Dag.blk_cell hw4 5).trans rfl
      have s6 : y0.drew.cell? ⟨b2, o2 + k, none⟩ = some (.int .i64 dv) := cd4
      have hyb : Below y0.heap.size y0 y0.drew := (Below.refl _ _).drew
      have hmx : Tryd.prog.follows .mixedOrders = true := by kernel_rfl
      have hwA : IntKind.i64.wrap (dv + av) = dv + av := by rw [IntKind.wrap_i64]; omega
      have hwB : IntKind.i64.wrap (by_ - now) = by_ - now := by rw [IntKind.wrap_i64]; omega
      have hwC : IntKind.i64.wrap (now + r2) = now + r2 := by rw [IntKind.wrap_i64]; omega
      clear hp1 hp2 hw3 hw4 cd3 cd4 k1 k2 k3 k4 HX1 HW1
      refine wp_region_R (fun W => W.cell? ⟨tb, 0, none⟩ = some (.string (sb t.name)) ∧ W.cell? ⟨tb, 1, none⟩ = some (.int .i64 t.nodes) ∧ W.cell? ⟨tb, 2, none⟩ = some (.int .i64 t.wall) ∧ W.cell? ⟨tb, 3, none⟩ = some (.int .i64 t.retry) ∧ W.cell? ⟨tb, 4, none⟩ = some (.bool t.done) ∧ W.cell? ⟨tb, 5, none⟩ = some (.slice A2 t.after.length c2) ∧ W.cell? ⟨b2, o2 + k, none⟩ = some (.int .i64 dv)) 19 hmx ?_
      refine wpAnyR_leadI (Q := Exit.inBlock 1 (Exit.then K _)) (by kernel_rfl) (fun _ _ d _ _ h => by cases d <;> exact h) ?hS0 [0, 1, 2, 3, 4, 5, 6, 7, 10, 11, 12, 13] 7 _ _ (by kernel_rfl) ?_
      case hS0 => exact ⟨s0, s1, s2, s3, s4, s5, s6⟩
      iterate 12 (refine wpLeadI_step (v := ?_) _ rfl (by rfl) ?_ ?_; rotate_left; (intro W hW; (try dsimp only at hW); go_simp; (try with_reducible rfl)); try simp only [Act.put, List.setIfInBounds_toArray])
      simp only [wpLeadI]
      refine wpAnyR_one (i := 8) rfl (by kernel_rfl) ?_
      intro K1 hK1
      go_simp
      refine (HWT.out _).mono ?_
      rintro e x2 ⟨rfl, hb2⟩
      have HB2' : Hid (Below y0.heap.size y0 x2) := Lib.hid (hyb.trans hb2)
      replace s0 := kp_cell hb2 s0; replace s1 := kp_cell hb2 s1; replace s2 := kp_cell hb2 s2; replace s3 := kp_cell hb2 s3; replace s4 := kp_cell hb2 s4; replace s5 := kp_cell hb2 s5; replace s6 := kp_cell hb2 s6
      refine hK1.out _ _ ⟨s0, s1, s2, s3, s4, s5, s6⟩ ?_
      clear hK1 K1 hb2 hyb
      refine wpAnyR_leadI (Q := Exit.inBlock 1 (Exit.then K _)) (by kernel_rfl) (fun _ _ d _ _ h => by cases d <;> exact h) ?hS1 [9] 5 _ _ (by kernel_rfl) ?_
      case hS1 => exact ⟨s0, s1, s2, s3, s4, s5, s6⟩
      iterate 1 (refine wpLeadI_step (v := ?_) _ rfl (by rfl) ?_ ?_; rotate_left; (intro W hW; (try dsimp only at hW); go_simp; (try with_reducible rfl)); try simp only [Act.put, List.setIfInBounds_toArray])
      simp only [wpLeadI]
      refine wpAnyR_one (i := 14) rfl (by kernel_rfl) ?_
      intro K1 hK1
      go_simp
      try simp only [hwA, hwB]
      refine (HS2.out _).mono ?_
      rintro e x3 ⟨rfl, hb3⟩
      have HB3' : Hid (Below y0.heap.size y0 x3) := Lib.hid (HB2'.out.trans (hb3.mono HB2'.out.size))
      replace s0 := kp_cell hb3 s0; replace s1 := kp_cell hb3 s1; replace s2 := kp_cell hb3 s2; replace s3 := kp_cell hb3 s3; replace s4 := kp_cell hb3 s4; replace s5 := kp_cell hb3 s5; replace s6 := kp_cell hb3 s6
      refine hK1.out _ _ ⟨s0, s1, s2, s3, s4, s5, s6⟩ ?_
      clear hK1 K1 hb3 HB2'
      refine wpAnyR_leadI (Q := Exit.inBlock 1 (Exit.then K _)) (by kernel_rfl) (fun _ _ d _ _ h => by cases d <;> exact h) ?hS2 [15, 16, 17] 1 _ _ (by kernel_rfl) ?_
      case hS2 => exact ⟨s0, s1, s2, s3, s4, s5, s6⟩
      iterate 3 (refine wpLeadI_step (v := ?_) _ rfl (by rfl) ?_ ?_; rotate_left; (intro W hW; (try dsimp only at hW); go_simp; (try with_reducible rfl)); try simp only [Act.put, List.setIfInBounds_toArray])
      simp only [wpLeadI]
      have HWB3 := Lib.hid (HP1.out.below HB3'.out)
      have HC3 := Lib.hid (kp_cell HB3'.out HP2.out)
      have HX3 := Lib.hid (HX2.out.trans (HB3'.out.mono (Nat.le_of_lt HP1.out.lt)))
      obtain ⟨ya, yb, k1, k2, k3, k4⟩ := HWB3.out.slot hlt
      have hput := HWB3.out.put2 (by rw [map_range_len]; exact hlt) (by rw [map_range_len]; exact HC3.out) (now + r2)
      rw [map_range_len, ← HWIN.out, ← map_range_succ] at hput
      have HP := Lib.hid hput
      have HXP := Lib.hid (HX3.out.setCell (p := ⟨wb, k * 2 + 1, none⟩) (Nat.le_refl _) (.int .i64 (now + r2)))
      clear hput
      refine wpAnyR_one (i := 18) rfl (by kernel_rfl) ?_
      intro K1 hK1
      go_simp
      try simp only [hwC]
      refine hK1.out _ _ ⟨set_other hne s0, set_other hne s1, set_other hne s2, set_other hne s3, set_other hne s4, set_other hne s5, set_other (Nat.ne_of_lt hnd) s6⟩ ?_
      clear hK1 K1 s0 s1 s2 s3 s4 s5 s6
      refine ⟨by kernel_rfl, ?_⟩
      go_wp2
      go_roundw
      case rel => exact ⟨k + 1, by omega, by go_num, HP, HXP⟩
      case measure => simp [intOf]; omega
    · obtain rfl : k = f.tasks.length := by omega
      go_wp2
      go_ret2
      refine ⟨some ⟨wb, 0, none⟩, f.tasks.length, by rw [HL.out, map_range_len]; rfl, by rw [HL.out]; exact HW.out.wins (map_range_len _ _) (by omega), blw HB3.out HXW.out⟩
end Go.Proofs.YtkicanegjkemoaaDoor

