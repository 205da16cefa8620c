/- The document's Parse: the workflow that a text describes, or the line and the error. -/
import Derived.Test.YtkcijibkloamkaaGreatDoorFlwRLne
import Derived.Test.YtkcijibkloamkaaGreatDoorFlwRChk
import Derived.Test.YtkcijibkloamkaaGreatDoorFlwLen
namespace Go.Proofs.YtkcijibkloamkaaGreatDoor
open Go.RowKit
open Txt (nameD linesE linesV)
set_option linter.unusedVariables false
set_option maxRecDepth 100000

theorem tasks_few {l : List UInt8} (hl : l.length ≤ 1500) {s : St} (hf : feed St.start 0 (linesV l) = .inr s) : s.tasks.length ≤ 300 := by
  have h1 := pot_feed _ Inv.start hf
  have h2 := linesV_sum l
  have h3 : pot St.start = 0 := rfl
  unfold pot at h1
  rw [show (sumW (namesP St.start.tasks) + 4 * St.start.tasks.length) + sumF (wt (namesP St.start.tasks)) (lkP St.start.links) + 2 * (lkC St.start.links).length = 0 from rfl] at h1
  have hI := (Inv.start.feed hf).1
  have h4 := sumW_two (l := namesP s.tasks) (fun a ha => by
    obtain ⟨t, ht, rfl⟩ := List.mem_map.1 ha
    exact nameD_pos (hI.names t ht))
  have h5 : (namesP s.tasks).length = s.tasks.length := by simp [namesP]
  omega

theorem flow_namesS {s : St} (h : Inv s) : s.flow.name.length ≤ 1100000 ∧ ∀ t ∈ s.flow.tasks, t.name.length ≤ 1100000 := by
  constructor
  · show s.name.length ≤ _
    rcases h.name with e | e
    · rw [e]; simp
    · have := nameD_len e; omega
  · intro t ht
    obtain ⟨k, hk⟩ := List.getElem?_of_mem ht
    rw [flow_at] at hk
    obtain ⟨p, hp, rfl⟩ := Option.map_eq_some_iff.1 hk
    have := nameD_len (h.names p (List.mem_of_getElem? hp))
    show p.name.length ≤ _
    omega

set_option maxHeartbeats 6400000 in
theorem dparse_any (l : List UInt8) (w : World) (hl : l.length ≤ 1500) (hT : Txt.Tabs w) :
    Calls Tryz.prog 10 #[.string (sb l)] w (RetParse w (parseD l)) := by
  have HT := Lib.hid hT; clear hT
  go_enter Tryz.func10, Tryz.ntmps10
  go_wp2_with fail
  refine (Txt.rlines_any (sb l) _ (by rw [sb_size]; omega)).mono ?_
  rintro e w1 ⟨⟨A1, c1, zs, rfl, hS1, hz⟩, hb1⟩
  rw [show Txt.lst (sb l) = l from sb_list l] at hz ⊢
  have HL1 := Lib.hid (strsL_of hS1 hz)
  have HZL := Lib.hid (show (linesV l).length = zs.length from by rw [← hz, List.length_map])
  have HR1 := Lib.hid (keep_obj hb1 (heap_alloc_new w (.cells zero4 25)))
  have HB1 := Lib.hid (blw (al w (.cells zero4 25)) hb1)
  have hlr1 := Dag.blk_lt HR1.out
  clear hS1 hz hb1
  obtain ⟨n, hn⟩ : ∃ n, zs.length = n := ⟨_, rfl⟩
  rw [hn] at HZL ⊢
  clear hn
  by_cases he : linesE l = 0
  case neg =>
    have hne : (linesE l != 0) = true := by simp [he]
    have HP := Lib.hid (parse_long he)
    clear he
    go_wp2_with (refine wpList_storeA rfl 25 _ _ rfl w.heap.size zero4 zero4 _ rfl rfl HR1.out rfl info_flow (flow4_one _ _ _ _ _ _) ?_; intro w3 hp; have HP3 := Lib.hid hp; clear hp)
    refine bodyPost_ret (results_cell3 rfl _ rfl HP3.out.blk _ Tryz.underlying25 rfl info_flow) rfl ?_
    exact retP0 HP.out (HP3.out.below HB1.out (Nat.le_refl _))
  have hn6 : n ≤ 1501 := by
    have := HZL.out
    unfold linesV at this
    rw [if_neg (by omega)] at this
    split at this
    · have h2 := Txt.linesA_len l []; omega
    · simp at this; omega
  have HLM : Hid (∀ x ∈ linesV l, x.length ≤ 60000) := Lib.hid fun x hx => by
    unfold linesV at hx
    rw [if_neg (by omega)] at hx
    split at hx
    · have := linesA_mem l [] x hx; simp at this; omega
    · cases hx
  have HE := Lib.hid he
  rw [he]
  clear he
  obtain ⟨ls, hls⟩ : ∃ ls, linesV l = ls := ⟨_, rfl⟩
  rw [hls] at HL1 HZL HLM
  have HLS := Lib.hid hls
  clear hls
  go_wp2_with (refine wpList_storeA rfl 67 _ _ rfl w1.heap.size zero7 zero7 67 rfl rfl (heap_alloc_new w1 _) rfl info_R (by simp [zero7, Value.oneCell']) ?_; intro w3 hp3; have HO3 : Hid (w3.heap[w1.heap.size]? = some (rO noFlow none 0 false none 0 0 0)) := Lib.hid hp3.blk; have HR3 := Lib.hid ((hp3.other w.heap.size (Nat.ne_of_lt hlr1)).trans (keep_obj (al w1 (.cells zero7 67)) HR1.out)); have HB3 := Lib.hid (hp3.below (blw HB1.out (al w1 (.cells zero7 67))) HB1.out.size); have HX3 : Hid (Below w1.heap.size w1 w3) := Lib.hid (hp3.below (al w1 (.cells zero7 67)) (Nat.le_refl _)); clear hp3)
  generalize eG : w1.heap.size = g at HO3 ⊢
  go_loopw [8] (fun i wr => ∃ (k : Nat) (s : St) (H : List (List UInt8)) (F : FlowD) (A : Option Addr) (c : Nat) (nm : Bool) (HA : Option Addr) (hh hc : Nat), k ≤ n ∧ i = .int .i64 k ∧ Hid (Below w.heap.size w wr) ∧ Hid (Below w1.heap.size w1 wr) ∧ Hid (wr.heap[w.heap.size]? = some (.cells zero4 25 (0, 0))) ∧ Hid (wr.heap[g]? = some (rO F A c nm HA hh hc 0)) ∧ Hid (TT wr A c F.tasks) ∧ Hid (Words wr HA hc H ∧ TypS wr HA) ∧ Hid (Rl H s) ∧ Hid (Inv s) ∧ Hid (s.flow = F) ∧ Hid (s.had 0 = nm) ∧ Hid (H.length = hh) ∧ F.tasks.length ≤ k ∧ hh ≤ k ∧ Hid (feed St.start 0 ls = feed s k (ls.drop k))) (fun i _ => n - (intOf i).toNat)
  case atStart => exact ⟨0, St.start, [], noFlow, none, 0, false, none, 0, 0, Nat.zero_le _, rfl, HB3, HX3, HR3, HO3, Lib.hid (TT.none _), Lib.hid ⟨Dag.Sl.empty _, fun a ha => by cases ha⟩, Lib.hid Rl.start, Lib.hid Inv.start, Lib.hid rfl, Lib.hid rfl, Lib.hid rfl, Nat.le_refl _, Nat.le_refl _, Lib.hid (by rw [List.drop_zero])⟩
  case round =>
    clear HB3 HX3 HR3 HO3
    obtain ⟨k, s, H, F, A, c, nm, HA, hh, hc, hk, rfl, HB, HX, HRR, HO, HTT, HWW, HRL, HIV, HFF, HNM, HHL, hft, hhk, HFD⟩ := hrel
    have hgw : w.heap.size ≤ g := by rw [← eG]; exact HB1.out.size
    have hrg : w.heap.size < g := by rw [← eG]; exact hlr1
    obtain ⟨wA, rfl⟩ : ∃ x, x = wr := ⟨wr, rfl⟩
    obtain ⟨p0, p1, p2, p3, p4, p5, p6, hp⟩ := rO_cells HO.out
    by_cases hlt : k < n
    · obtain ⟨ln, hln⟩ : ∃ ln, ls[k]? = some ln := ⟨_, List.getElem?_eq_getElem (by rw [HZL.out]; exact hlt)⟩
      obtain ⟨b, off, eA, hc0⟩ := (HL1.out.below HX.out) k ln hln
      subst eA
      have HF2 := Lib.hid (HFD.out.trans (feed_step hln))
      have hll := HLM.out ln (List.mem_of_getElem? hln)
      have hlb := World.block_lt_of_cell? wA _ hc0
      have HDL := Lib.hid (dline_any s H HRL.out HIV.out wA.drew A c F HFF.out (HTT.out.below (drew_below wA)) (by omega) nm HNM.out HA hh hc HHL.out (by omega) (HWW.out.1.below (drew_below wA)) (HWW.out.2.below (drew_below wA)) ln hll (HT.out.below (HB.out.trans ((drew_below wA).mono HB.out.size))))
      have HSS := Lib.hid fun (W : World) (hW : Below wA.heap.size wA W) => show W.cell? ⟨g, 0, none⟩ = some (.string (sb F.name)) ∧ W.cell? ⟨g, 1, none⟩ = some (.int .i64 F.deadline) ∧ W.cell? ⟨g, 2, none⟩ = some (.int .i64 F.priority) ∧ W.cell? ⟨g, 3, none⟩ = some (.slice A F.tasks.length c) ∧ W.cell? ⟨g, 4, none⟩ = some (.bool nm) ∧ W.cell? ⟨g, 5, none⟩ = some (.slice HA hh hc) ∧ W.cell? ⟨g, 6, none⟩ = some (.int .i64 0) ∧ W.cell? ⟨b, off + k, none⟩ = some (.string (sb ln)) from ⟨keep_cell hW p0, keep_cell hW p1, keep_cell hW p2, keep_cell hW p3, keep_cell hW p4, keep_cell hW p5, keep_cell hW p6, keep_cell hW hc0⟩
      clear hln
      go_wp2_with fail
      refine wp_region_parts (fun (W : World) => W.cell? ⟨g, 0, none⟩ = some (.string (sb F.name)) ∧ W.cell? ⟨g, 1, none⟩ = some (.int .i64 F.deadline) ∧ W.cell? ⟨g, 2, none⟩ = some (.int .i64 F.priority) ∧ W.cell? ⟨g, 3, none⟩ = some (.slice A F.tasks.length c) ∧ W.cell? ⟨g, 4, none⟩ = some (.bool nm) ∧ W.cell? ⟨g, 5, none⟩ = some (.slice HA hh hc) ∧ W.cell? ⟨g, 6, none⟩ = some (.int .i64 0) ∧ W.cell? ⟨b, off + k, none⟩ = some (.string (sb ln))) 5 6 (by kernel_rfl) (by kernel_rfl) (fun _ _ d _ _ h => by cases d <;> exact h) (HSS.out _ (drew_below wA)) ?_
      simp only [List.take_succ_cons, List.take_zero, List.drop_succ_cons, List.drop_zero]
      iterate 5 (refine wpLead_step (v := ?_) (by rfl) ?_ ?_; rotate_left; (intro W hW; (try dsimp only at hW); go_simp; (try with_reducible rfl)); try simp only [Act.put, List.setIfInBounds_toArray, List.set_cons_zero, List.set_cons_succ])
      intro K hK
      go_simp
      refine HDL.out.mono ?_
      rintro e w2 ⟨hb2, h2⟩
      have HX2 := Lib.hid (blw (drew_below wA) hb2)
      have HO2 := Lib.hid (keep_obj HX2.out HO.out)
      have HR2 := Lib.hid (keep_obj HX2.out HRR.out)
      have HB2 := Lib.hid (blw HB.out HX2.out)
      have HXX2 := Lib.hid (HX.out.trans (HX2.out.mono HX.out.size))
      clear hb2 HDL p0 p1 p2 p3 p4 p5 p6 hp hc0
      cases hls : lineSt s ln with
      | error x =>
        rw [hls] at h2 HF2
        obtain ⟨hx0, F', A', c', nm', HA', hn', hc', rfl⟩ := h2
        have HP := Lib.hid (parse_bad HE.out (by rw [HLS.out]; exact HF2.out))
        have hxn : (x != 0) = true := by simp [hx0]
        have hk1 : IntKind.i64.wrap ((k : Int) + 1) = ((k + 1 : Nat) : Int) := by rw [IntKind.wrap_i64]; omega
        dsimp only
        refine hK.out _ _ (HSS.out _ HX2.out) (wpMid_nil ?_)
        clear hK K HSS HX2 hls
        try simp only [Act.put, List.setIfInBounds_toArray, List.set_cons_zero, List.set_cons_succ]
        go_wp2_with (refine wpList_storeA rfl 67 _ _ rfl g #[.string (sb F'.name), .int .i64 F'.deadline, .int .i64 F'.priority, .slice A' F'.tasks.length c', .bool nm', .slice HA' hn' hc', .int .i64 x] #[.string (sb F.name), .int .i64 F.deadline, .int .i64 F.priority, .slice A F.tasks.length c, .bool nm, .slice HA hh hc, .int .i64 0] _ rfl rfl HO2.out rfl info_R (rO_one F' A' c' nm' HA' hn' hc' x) ?_; intro w4 hp4; have HO4 : Hid (w4.heap[g]? = some (rO F' A' c' nm' HA' hn' hc' x)) := Lib.hid hp4.blk; have HR4 := Lib.hid ((hp4.other w.heap.size (by omega)).trans HR2.out); have HB4 := Lib.hid (hp4.below HB2.out hgw); clear hp4; obtain ⟨p0, p1, p2, p3, p4, p5, p6, hp⟩ := rO_cells HO4.out)
        have hlr4 := Dag.blk_lt HR4.out
        have z0 : w4.cell? ⟨w.heap.size, 0, none⟩ = some (.string ⟨#[]⟩) := (Dag.blk_cell HR4.out 0).trans rfl
        have z1 : w4.cell? ⟨w.heap.size, 1, none⟩ = some (.int .i64 0) := (Dag.blk_cell HR4.out 1).trans rfl
        have z2 : w4.cell? ⟨w.heap.size, 2, none⟩ = some (.int .i64 0) := (Dag.blk_cell HR4.out 2).trans rfl
        have z3 : w4.cell? ⟨w.heap.size, 3, none⟩ = some (.slice none 0 0) := (Dag.blk_cell HR4.out 3).trans rfl
        have f0 := Dag.blk_frozen HR4.out 0
        have f1 := Dag.blk_frozen HR4.out 1
        have f2 := Dag.blk_frozen HR4.out 2
        have f3 := Dag.blk_frozen HR4.out 3
        have hgne : g ≠ w.heap.size := by omega
        have HZ5 : Hid (((((w4.setCell ⟨w.heap.size, 0, none⟩ (.string ⟨#[]⟩)).setCell ⟨w.heap.size, 1, none⟩ (.int .i64 0)).setCell ⟨w.heap.size, 2, none⟩ (.int .i64 0)).setCell ⟨w.heap.size, 3, none⟩ (.slice none 0 0)).heap[w.heap.size]? = some (.cells zero4 25 (0, 0))) := Lib.hid (by
          rw [Dag.blk_set (Dag.blk_set (Dag.blk_set (Dag.blk_set HR4.out _ _) _ _) _ _) _ _]
          simp [zero4])
        have HB5 : Hid (Below w.heap.size w ((((w4.setCell ⟨w.heap.size, 0, none⟩ (.string ⟨#[]⟩)).setCell ⟨w.heap.size, 1, none⟩ (.int .i64 0)).setCell ⟨w.heap.size, 2, none⟩ (.int .i64 0)).setCell ⟨w.heap.size, 3, none⟩ (.slice none 0 0))) := Lib.hid ((((HB4.out.setCell (Nat.le_refl _) _).setCell (Nat.le_refl _) _).setCell (Nat.le_refl _) _).setCell (Nat.le_refl _) _)
        clear p0 p1 p2 p3 p4 p5
        go_region
        go_wp2
        refine bodyPost_ret (results_cell3 rfl _ rfl HZ5.out _ Tryz.underlying25 rfl info_flow) rfl ?_
        exact retP0 HP.out HB5.out.drew
      | ok s' =>
        rw [hls] at h2 HF2
        obtain ⟨A', c', HA', hc', H', hR', hH', rfl, hTT', hWW', hTy'⟩ := h2
        obtain ⟨hI', hI2, _⟩ := HIV.out.line hls
        have HR' := Lib.hid hR'; have HTT' := Lib.hid hTT'; have HWW' := Lib.hid (And.intro hWW' hTy'); have HI' := Lib.hid hI'
        obtain ⟨F', hF'⟩ : ∃ F', s'.flow = F' := ⟨_, rfl⟩
        obtain ⟨nm', hnm'⟩ : ∃ nm', s'.had 0 = nm' := ⟨_, rfl⟩
        obtain ⟨h3, hh3⟩ : ∃ h3, H'.length = h3 := ⟨_, rfl⟩
        have hft' : F'.tasks.length ≤ k + 1 := by
          have h1 := flow_len s; have h2 := flow_len s'
          rw [HFF.out] at h1; rw [hF'] at h2; omega
        have hhk' : h3 ≤ k + 1 := by have := HHL.out; omega
        rw [hF'] at HTT'
        rw [hF', hnm', hh3]
        have HF' := Lib.hid hF'; have HNM' := Lib.hid hnm'; have HHL' := Lib.hid hh3
        dsimp only
        refine hK.out _ _ (HSS.out _ HX2.out) (wpMid_nil ?_)
        clear hK K HSS HX2 hls hR' hTT' hWW' hTy' hI' hF' hnm' hh3 hI2 hH'
        try simp only [Act.put, List.setIfInBounds_toArray, List.set_cons_zero, List.set_cons_succ]
        go_wp2_with (refine wpList_storeA rfl 67 _ _ rfl g #[.string (sb F'.name), .int .i64 F'.deadline, .int .i64 F'.priority, .slice A' F'.tasks.length c', .bool nm', .slice HA' h3 hc', .int .i64 0] #[.string (sb F.name), .int .i64 F.deadline, .int .i64 F.priority, .slice A F.tasks.length c, .bool nm, .slice HA hh hc, .int .i64 0] _ rfl rfl HO2.out rfl info_R (rO_one F' A' c' nm' HA' h3 hc' 0) ?_; intro w4 hp4; have HO4 : Hid (w4.heap[g]? = some (rO F' A' c' nm' HA' h3 hc' 0)) := Lib.hid hp4.blk; have HR4 := Lib.hid ((hp4.other w.heap.size (by omega)).trans HR2.out); have HB4 := Lib.hid (hp4.below HB2.out hgw); have HX4 := Lib.hid (hp4.below HXX2.out (by rw [eG]; exact Nat.le_refl _)); have HK4 := Lib.hid (kept_putR3 hp4 HO2.out); clear hp4; obtain ⟨p0, p1, p2, p3, p4, p5, p6, hp⟩ := rO_cells HO4.out)
        go_roundw
        case rel => exact ⟨k + 1, s', H', F', A', c', nm', HA', h3, hc', by omega, by go_num, HB4, HX4, HR4, HO4, Lib.hid (HTT'.out.kept (HK4.out.sub (by simp))), Lib.hid (HWW'.out.1.keptT HWW'.out.2 (HK4.out.sub (by simp))), HR', HI', HF', HNM', HHL', hft', hhk', HF2⟩
        case measure => simp [intOf]; omega
    · obtain rfl : k = n := by omega
      have HF2 := Lib.hid (show feed St.start 0 (linesV l) = .inr s from by rw [HLS.out, HFD.out, feed_end (by rw [HZL.out]; omega)])
      cases nm with
      | false =>
        have HP := Lib.hid (parse_none HE.out HF2.out HNM.out)
        go_wp2_with (refine wpList_storeA rfl 25 _ _ rfl w.heap.size zero4 zero4 _ rfl rfl HRR.out rfl info_flow (flow4_one _ _ _ _ _ _) ?_; intro w4 hp; have HP4 := Lib.hid hp; clear hp)
        refine bodyPost_ret (results_cell3 rfl _ rfl HP4.out.blk _ Tryz.underlying25 rfl info_flow) rfl ?_
        exact retP0 HP.out (HP4.out.below HB.out (Nat.le_refl _))
      | true =>
        have hf300 := tasks_few hl HF2.out
        have hfl : F.tasks.length = s.tasks.length := by rw [← HFF.out]; exact flow_len s
        obtain ⟨hn1, hn2⟩ := flow_namesS HIV.out
        rw [HFF.out] at hn1 hn2
        have HCK := Lib.hid (rcheckN_any F A c wA HTT.out.tasks (HT.out.below HB.out) hn1 hn2 (by omega))
        clear hn1 hn2 hfl hf300
        go_wp2_with fail
        refine HCK.out.mono ?_
        rintro e w5 ⟨rfl, hb5⟩
        have HB5 := Lib.hid (blw HB.out hb5)
        have HR5 := Lib.hid (keep_obj hb5 HRR.out)
        have HO5 := Lib.hid (keep_obj hb5 HO.out)
        have HTT5 := Lib.hid (HTT.out.below hb5)
        clear hb5 HCK p0 p1 p2 p3 p4 p5 p6 hp
        obtain ⟨p0, p1, p2, p3, p4, p5, p6, hp⟩ := rO_cells HO5.out
        by_cases hc0 : checkE F = 0
        · have hcb : (checkE F != 0) = false := by simp [hc0]
          have HP := Lib.hid (parse_ok HE.out HF2.out HNM.out (by rw [HFF.out]; exact hc0))
          rw [hc0]
          clear hc0
          go_wp2_with (refine wpList_storeA rfl 25 _ _ rfl w.heap.size #[.string (sb F.name), .int .i64 F.deadline, .int .i64 F.priority, .slice A F.tasks.length c] zero4 _ rfl rfl HR5.out rfl info_flow (flow4_one _ _ _ _ _ _) ?_; intro w6 hp6; have HP6 := Lib.hid hp6; clear hp6)
          refine bodyPost_ret (results_cell3 rfl _ rfl HP6.out.blk _ Tryz.underlying25 rfl info_flow) rfl ?_
          have hP := HP.out
          rw [HFF.out] at hP
          exact retP hP (HP6.out.below HB5.out (Nat.le_refl _)) (HTT5.out.kept (Kept.put HP6.out HR5.out)).tasks
        · have hcb : (checkE F != 0) = true := by simp [hc0]
          have HP := Lib.hid (parse_chk HE.out HF2.out HNM.out (by rw [HFF.out]; exact hc0))
          obtain ⟨cx, hcx⟩ : ∃ cx, checkE F = cx := ⟨_, rfl⟩
          rw [hcx] at hcb ⊢
          have hP := HP.out
          rw [HFF.out, hcx] at hP
          have HP2 := Lib.hid hP
          clear hc0 hP hcx
          go_wp2_with (refine wpList_storeA rfl 25 _ _ rfl w.heap.size zero4 zero4 _ rfl rfl HR5.out rfl info_flow (flow4_one _ _ _ _ _ _) ?_; intro w6 hp; have HP6 := Lib.hid hp; clear hp)
          refine bodyPost_ret (results_cell3 rfl _ rfl HP6.out.blk _ Tryz.underlying25 rfl info_flow) rfl ?_
          exact retP0 HP2.out (HP6.out.below HB5.out (Nat.le_refl _))
end Go.Proofs.YtkcijibkloamkaaGreatDoor

