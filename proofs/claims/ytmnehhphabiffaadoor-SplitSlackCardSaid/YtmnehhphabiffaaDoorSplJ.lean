/- Layer 8: Slack: how much of each window is not needed. -/
import Derived.Test.YtmnehhphabiffaaDoorSplD
namespace Go.Proofs.YtmnehhphabiffaaDoor
open Go.RowKit Go.Shelf
open Dag (Ints Own1 Sl num num_len num_get Gr newE order behL order_ord)
set_option linter.unusedVariables false
set_option maxRecDepth 100000

def RetSl (f : FlowD) (now by_ : Int) (w : World) (e : Ending) (w' : World) : Prop := ∃ A c, e = .returned (.tuple #[.slice A (slkL f now by_).length c, .int .i64 (winE f now by_)]) ∧ Ints w' A c (slkL f now by_) ∧ Below w.heap.size w w'
set_option maxHeartbeats 3200000 in
theorem slack_any (f : FlowD) (A : Option Addr) (c : Nat) (now by_ : Int) (w : World) (h : FlA w f A c) :
    Calls Tryd.prog 36 #[.agg #[.string (sb f.name), .int .i64 f.deadline, .int .i64 f.priority, .slice A f.tasks.length c], .int .i64 now, .int .i64 by_] w (RetSl f now by_ w) := by
  have hlen := h.len
  have HWI := Lib.hid fun W (hW : Below w.heap.size w W) => windows_any f A c now by_ W (h.below hW)
  have H := Lib.hid h.tasks
  clear h
  unfold RetSl
  by_cases h0 : winE f now by_ = 0
  case neg =>
    have hl : winL f now by_ = [] := by unfold winL; rw [if_neg h0]
    have hs : slkL f now by_ = [] := by unfold slkL; rw [if_neg h0]
    obtain ⟨e0, he0⟩ : ∃ e0, winE f now by_ = e0 := ⟨_, rfl⟩
    rw [hs, he0]
    rw [he0] at h0
    unfold RetWin at HWI
    rw [hl, he0] at HWI
    have hxn : (e0 != 0) = true := by simp [h0]
    clear h0 hl hs he0
    simp only [List.length_nil] at HWI ⊢
    go_enter Tryd.func36, Tryd.ntmps36
    go_wp2_with fail
    refine (HWI.out _ (al _ _)).mono ?_
    rintro e w1 ⟨B, d, rfl, _, hb1⟩
    have HB1 := Lib.hid (blw (al w (flowO f A c)) hb1)
    clear hb1
    go_wp2
    go_ret2
    exact ⟨none, 0, rfl, Dag.Ints.empty _, HB1.out⟩
  have HIN := Lib.hid fun (v : Nat) (hv : v < f.tasks.length) => win1_in h0 hv
  have HFA := Lib.hid (win_facts h0)
  have HGT := Lib.hid fun (v : Nat) (hv : v < f.tasks.length) => (win_get h0 hv).1
  have hwl := (win_len h0).1
  have hsl := (win_len h0).2.2
  have HSL : Hid (slkL f now by_ = (List.range f.tasks.length).map (slk1 f.tasks now by_)) := Lib.hid (by unfold slkL; rw [if_pos h0])
  unfold RetWin at HWI
  rw [hwl, h0] at HWI
  rw [hsl, h0]
  have hmk := fun W : World => Dag.run_mk W 27 3 _ 8 Tryd.underlying27 Dag.info_int rfl (by decide) f.tasks.length (by omega) _ _ rfl rfl
  clear h0 hwl hsl
  go_enter Tryd.func36, Tryd.ntmps36
  go_wp2_with fail
  refine (HWI.out _ (al _ _)).mono ?_
  rintro e w1 ⟨B, d, rfl, hv1, hb1⟩
  have HV1 := Lib.hid hv1
  have HB1 := Lib.hid (blw (al w (flowO f A c)) hb1)
  have HO1 : Hid (w1.heap[w.heap.size]? = some (flowO f A c)) := Lib.hid ((hb1.block _ (by simp)).trans (heap_alloc_new w _))
  clear hb1 hv1
  have hlb := Dag.blk_lt HO1.out
  go_wp2_with fail
  clear hmk
  have hb4 := al w1 (.cells (Array.replicate f.tasks.length (.int .i64 0)) 3)
  have ho0 : Own1 (w1.alloc (.cells (Array.replicate f.tasks.length (.int .i64 0)) 3)) w1.heap.size 3 (.slice (some ⟨w1.heap.size, 0, none⟩) f.tasks.length f.tasks.length) (Dag.ints (List.replicate f.tasks.length 0)) := by
    rw [show Dag.ints (List.replicate f.tasks.length 0) = List.replicate f.tasks.length (.int .i64 0) from by simp [Dag.ints]]
    exact Own1.make w1 w1.heap.size 3 (Nat.le_refl _) f.tasks.length (by omega) (.int .i64 0) rfl
  generalize w1.alloc (.cells (Array.replicate f.tasks.length (.int .i64 0)) 3) = w4 at hb4 ho0 ⊢
  obtain ⟨sq, hsb⟩ : ∃ sq, w1.heap.size = sq := ⟨_, rfl⟩
  rw [hsb] at hb4 ho0 hlb ⊢
  have HO4 := Lib.hid ho0; have HX4 : Hid (Below sq w1 w4) := Lib.hid hb4
  have HWE := Lib.hid hsb
  clear hb4 ho0 hsb
  go_loopw [28] (fun i wr => ∃ (k : Nat) (xs : List Int), k ≤ f.tasks.length ∧ i = .int .i64 k ∧ Hid (xs.length = f.tasks.length ∧ ∀ j, j < k → xs[j]? = some (slk1 f.tasks now by_ j)) ∧ Hid (Own1 wr sq 3 (.slice (some ⟨sq, 0, none⟩) f.tasks.length f.tasks.length) (Dag.ints xs)) ∧ Hid (Below sq w1 wr)) (fun i _ => f.tasks.length - (intOf i).toNat)
  case atStart => exact ⟨0, _, Nat.zero_le _, rfl, Lib.hid ⟨by simp, fun j hj => by omega⟩, HO4, HX4⟩
  case round =>
    clear HO4 HX4
    obtain ⟨k, xs, hk, rfl, HXS, HO, HX⟩ := hrel
    have HXW : Hid (Below w1.heap.size w1 wr) := Lib.hid (by rw [HWE.out]; exact HX.out)
    by_cases hlt : k < f.tasks.length
    · obtain ⟨p0, p1, p2, p3, hp⟩ := flowO_cells ((HX.out.block _ hlb).trans HO1.out)
      obtain ⟨t, ht⟩ : ∃ t, f.tasks[k]? = some t := ⟨_, List.getElem?_eq_getElem hlt⟩
      obtain ⟨b, off, A2, c2, eA, h0, h1, h2, h3, h4, h5, hI⟩ := (H.out.below (blw HB1.out HXW.out)).cells k _ ht
      subst eA
      have hbw : b < w.heap.size := by
        obtain ⟨b', off', _, _, eA', s0', _⟩ := H.out.cells k t ht
        injection eA' with eA'
        injection eA' with eA'
        subst eA'
        exact World.block_lt_of_cell? w _ s0'
      have hwt := wtAt_some ht
      obtain ⟨b2, o2, eb2, d0, d1⟩ := (HV1.out.below HXW.out).cells k _ (HGT.out k hlt)
      subst eb2
      obtain ⟨i1, i2, i3⟩ := HIN.out k hlt
      obtain ⟨hrk, n0, n1, n2, _⟩ := HFA.out
      have q1 := hrk.wt0 k
      obtain ⟨x1, hx1⟩ : ∃ x1, (win1 f.tasks now by_ k).fr = x1 := ⟨_, rfl⟩
      obtain ⟨x2, hx2⟩ : ∃ x2, (win1 f.tasks now by_ k).by_ = x2 := ⟨_, rfl⟩
      obtain ⟨av, hav⟩ : ∃ av, wgt t = av := ⟨_, rfl⟩
      have hsv : slk1 f.tasks now by_ k = x2 - x1 - av := by
        rw [← hx1, ← hx2, ← hav, ← hwt]; unfold slk1 win1; simp only; omega
      rw [hx1] at d0 i1 i3; rw [hx2] at d1 i2 i3
      rw [hav] at hwt
      rw [hwt] at i3 q1
      unfold maxT at n1
      have hWt := fun (W : World) => weight_any t A2 c2 W
      rw [hav] at hWt
      have HWT := Lib.hid hWt; have HSV := Lib.hid hsv
      have hwA : IntKind.i64.wrap (x2 - x1) = x2 - x1 := by rw [IntKind.wrap_i64]; omega
      have hwB : IntKind.i64.wrap (x2 - x1 - av) = x2 - x1 - av := by rw [IntKind.wrap_i64]; omega
      have hw2 := heap_alloc_new wr (.cells #[.int .i64 x1, .int .i64 x2] 51)
      have hB2 := al wr (.cells #[.int .i64 x1, .int .i64 x2] 51)
      have HOr := Lib.hid (HO.out.below hB2)
      have hX2 := HX.out.trans (hB2.mono (by have := HXW.out.size; rw [HWE.out] at this; exact this))
      have e0 := kp_cell hB2 h0; have e1 := kp_cell hB2 h1; have e2 := kp_cell hB2 h2; have e3 := kp_cell hB2 h3; have e4 := kp_cell hB2 h4; have e5 := kp_cell hB2 h5; have e6 := kp_cell hB2 p3
      have hsz : sq ≤ wr.heap.size := by have := HXW.out.size; rw [HWE.out] at this; exact this
      clear hWt hI hsv hx1 hx2 hav hwt ht
      go_wp2_with fail
      rename_i K hKK
      generalize wr.alloc (.cells #[.int .i64 x1, .int .i64 x2] 51) = y0 at hw2 hB2 HOr hX2 e0 e1 e2 e3 e4 e5 e6 ⊢
      generalize htb : wr.heap.size = tb at hw2 hsz ⊢
      have HX2 := Lib.hid hX2
      have s0 : y0.drew.cell? ⟨tb, 0, none⟩ = some (.int .i64 x1) := (Dag.blk_cell hw2 0).trans rfl
      have s1 : y0.drew.cell? ⟨tb, 1, none⟩ = some (.int .i64 x2) := (Dag.blk_cell hw2 1).trans rfl
      have s2 : y0.drew.cell? ⟨w.heap.size, 3, none⟩ = _ := e6
      have s3 : y0.drew.cell? ⟨b, off + k * 6, none⟩ = _ := e0
      have s4 : y0.drew.cell? ⟨b, off + k * 6 + 1, none⟩ = _ := e1
      have s5 : y0.drew.cell? ⟨b, off + k * 6 + 2, none⟩ = _ := e2
      have s6 : y0.drew.cell? ⟨b, off + k * 6 + 3, none⟩ = _ := e3
      have s7 : y0.drew.cell? ⟨b, off + k * 6 + 4, none⟩ = _ := e4
      have s8 : y0.drew.cell? ⟨b, off + k * 6 + 5, none⟩ = _ := e5
      have hyb : Below y0.heap.size y0 y0.drew := (Below.refl _ _).drew
      have hmx : Tryd.prog.follows .mixedOrders = true := by kernel_rfl
      have hne : tb ≠ sq := fun e => by
        subst e
        obtain ⟨cs, hcs⟩ := HOr.out.typed (b := tb) rfl
        rw [hw2] at hcs
        injection hcs with hcs
        injection hcs with _ hcs
        revert hcs; decide
      have hki : (k : Int) < (f.tasks.length : Int) := by omega
      clear hw2 hB2 hX2 e0 e1 e2 e3 e4 e5 e6 h0 h1 h2 h3 h4 h5 p0 p1 p2 p3 hp d0 d1 htb
      refine wp_region_R (fun W => W.cell? ⟨tb, 0, none⟩ = some (.int .i64 x1) ∧ W.cell? ⟨tb, 1, none⟩ = some (.int .i64 x2) ∧ W.cell? ⟨w.heap.size, 3, none⟩ = some (.slice (some ⟨b, off, none⟩) f.tasks.length c) ∧ W.cell? ⟨b, off + k * 6, none⟩ = some (.string (sb t.name)) ∧ W.cell? ⟨b, off + k * 6 + 1, none⟩ = some (.int .i64 t.nodes) ∧ W.cell? ⟨b, off + k * 6 + 2, none⟩ = some (.int .i64 t.wall) ∧ W.cell? ⟨b, off + k * 6 + 3, none⟩ = some (.int .i64 t.retry) ∧ W.cell? ⟨b, off + k * 6 + 4, none⟩ = some (.bool t.done) ∧ W.cell? ⟨b, off + k * 6 + 5, none⟩ = some (.slice A2 t.after.length c2)) 16 hmx ?_
      refine wpAnyR_leadI (Q := Exit.inBlock 1 (Exit.then K _)) (by kernel_rfl) (fun _ _ d _ _ h => by cases d <;> exact h) ?hS0 [0, 1, 2, 3, 4, 5, 6, 7, 8, 9, 10, 11] 4 _ _ (by kernel_rfl) ?_
      case hS0 => exact ⟨s0, s1, s2, s3, s4, s5, s6, s7, s8⟩
      iterate 12 (refine wpLeadI_step (v := ?_) _ rfl (by rfl) ?_ ?_; rotate_left; (intro W hW; (try dsimp only at hW); go_simp; (try with_reducible rfl)); try simp only [Act.put, List.setIfInBounds_toArray])
      simp only [wpLeadI]
      refine wpAnyR_one (i := 12) rfl (by kernel_rfl) ?_
      intro K1 hK1
      go_simp
      refine (HWT.out _).mono ?_
      rintro e x2' ⟨rfl, hb2⟩
      have HB2' : Hid (Below y0.heap.size y0 x2') := Lib.hid (hyb.trans hb2)
      replace s0 := kp_cell hb2 s0; replace s1 := kp_cell hb2 s1; replace s2 := kp_cell hb2 s2; replace s3 := kp_cell hb2 s3; replace s4 := kp_cell hb2 s4; replace s5 := kp_cell hb2 s5; replace s6 := kp_cell hb2 s6; replace s7 := kp_cell hb2 s7; replace s8 := kp_cell hb2 s8
      refine hK1.out _ _ ⟨s0, s1, s2, s3, s4, s5, s6, s7, s8⟩ ?_
      clear hK1 K1 hb2 hyb
      try simp only [hwA]
      refine wpAnyR_leadI (Q := Exit.inBlock 1 (Exit.then K _)) (by kernel_rfl) (fun _ _ d _ _ h => by cases d <;> exact h) ?hS1 [13, 14] 1 _ _ (by kernel_rfl) ?_
      case hS1 => exact ⟨s0, s1, s2, s3, s4, s5, s6, s7, s8⟩
      iterate 2 (refine wpLeadI_step (v := ?_) _ rfl (by rfl) ?_ ?_; rotate_left; (intro W hW; (try dsimp only at hW); go_simp; (try with_reducible rfl)); try simp only [Act.put, List.setIfInBounds_toArray])
      simp only [wpLeadI]
      have HO3 := Lib.hid (HOr.out.below HB2'.out)
      obtain ⟨a0, hxa⟩ : ∃ a0, xs[k]? = some a0 := ⟨_, List.getElem?_eq_getElem (by rw [HXS.out.1]; exact hlt)⟩
      obtain ⟨_, e1, _, _, cv, fv, _, hset⟩ := Own1.at_ HO3.out (Dag.ints_get hxa)
      injection e1 with e1; injection e1 with e1; subst e1
      have hs2 := hset (.int .i64 (x2 - x1 - av))
      rw [show (Dag.ints xs).set k (.int .i64 (x2 - x1 - av)) = Dag.ints (xs.set k (x2 - x1 - av)) from by unfold Dag.ints; rw [List.map_set]] at hs2
      have HON := Lib.hid hs2
      have HXN := Lib.hid ((HX2.out.trans (HB2'.out.mono (Nat.le_of_lt (HOr.out.lt (b := sq) rfl).2))).setCell (p := ⟨sq, k, none⟩) (Nat.le_refl _) (.int .i64 (x2 - x1 - av)))
      have HXP : Hid ((xs.set k (x2 - x1 - av)).length = f.tasks.length ∧ ∀ j, j < k + 1 → (xs.set k (x2 - x1 - av))[j]? = some (slk1 f.tasks now by_ j)) := Lib.hid (by
        refine ⟨by rw [List.length_set]; exact HXS.out.1, fun j hj => ?_⟩
        by_cases e : k = j
        · subst e
          rw [List.getElem?_set_self (by rw [HXS.out.1]; exact hlt), HSV.out]
        · rw [List.getElem?_set_ne e]; exact HXS.out.2 j (by omega))
      clear hset hs2 hxa
      refine wpAnyR_one (i := 15) rfl (by kernel_rfl) ?_
      intro K1 hK1
      go_simp
      try simp only [hwA, hwB]
      refine hK1.out _ _ ⟨set_other hne s0, set_other hne s1, set_other (by omega) s2, set_other (by omega) s3, set_other (by omega) s4, set_other (by omega) s5, set_other (by omega) s6, set_other (by omega) s7, set_other (by omega) s8⟩ ?_
      clear hK1 K1 s0 s1 s2 s3 s4 s5 s6 s7 s8 cv fv
      refine ⟨by kernel_rfl, ?_⟩
      go_wp2
      go_roundw
      case rel => exact ⟨k + 1, _, by omega, by go_num, HXP, HON, HXN⟩
      case measure => simp [intOf]; omega
    · obtain rfl : k = f.tasks.length := by omega
      have hxs : xs = slkL f now by_ := by
        rw [HSL.out]
        apply List.ext_getElem?
        intro j
        by_cases hj : j < f.tasks.length
        · rw [HXS.out.2 j hj, List.getElem?_map, List.getElem?_range hj]; rfl
        · rw [List.getElem?_eq_none (by rw [HXS.out.1]; omega), List.getElem?_eq_none (by simp; omega)]
      have HXE := Lib.hid hxs
      clear hxs
      go_wp2
      go_ret2
      exact ⟨some ⟨sq, 0, none⟩, f.tasks.length, rfl, by rw [← HXE.out]; exact (Own1.sl HO.out).2, blw HB1.out HXW.out⟩
end Go.Proofs.YtmnehhphabiffaaDoor

