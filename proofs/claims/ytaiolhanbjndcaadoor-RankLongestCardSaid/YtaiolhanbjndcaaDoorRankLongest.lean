/- RankLongest: for any workflow, the law returns true, and all read afterwards as before. The library's and the program's tables are as the card ties them. -/
import Derived.Test.YtaiolhanbjndcaaDoorRows
import Derived.Test.YtaiolhanbjndcaaDoorCards
import Derived.Test.YtaiolhanbjndcaaDoorTie
import Derived.Test.YtaiolhanbjndcaaDoorRnkF
import Derived.Test.YtaiolhanbjndcaaDoorMGra
import Derived.Test.YtaiolhanbjndcaaDoorMSum
import Derived.Test.YtaiolhanbjndcaaDoorMTab
import Derived.Test.YtaiolhanbjndcaaDoorRnkLgs
import Derived.WalkKit
import Derived.ProofKit
import Derived.OpenShut
import Derived.ShutString
import Derived.Deep.RegionHeld3
import Derived.ChangeOld
import Derived.Below
import Derived.SevenTiedAt
namespace Go.Proofs.YtaiolhanbjndcaaDoor
open Go.ChangeShapes Go.WideShapes Go.ChangeAt Go.RowKit Go.Lib
open Go.ChangeMaps (open_string shut_string)
open Dag (Ints num)
set_option linter.unusedVariables false
set_option maxRecDepth 100000

set_option maxHeartbeats 3200000 in
theorem walk_RankLongest (w : World) (hT : Tb3 w) (f : FlowD) (A : Option Addr) (c : Nat) (h : Tasks w A c f.tasks) (hs : Small f) :
    Calls Tryd.prog 4 #[.agg #[.string (sb f.name), .int .i64 f.deadline, .int .i64 f.priority, .slice A f.tasks.length c]] w fun e w' => e = .returned (.bool true) ∧ Below w.heap.size w w' := by
  have hk := fun W (hW : Below w.heap.size w W) => known7_any W (hT.below hW)
  have hl := fun W (hW : Below w.heap.size w W) => long7_any f A c W (h.below hW) hs
  have HK := Lib.hid hk
  clear hk
  cases hlong : longD f
  case true =>
    rw [hlong] at hl
    have HL := Lib.hid hl
    clear hl
    go_enter Tryd.func4, Tryd.ntmps4
    go_wp2_with fail
    refine (HL.out _ (al _ _)).mono ?_
    rintro e w1 ⟨rfl, hb1⟩
    have HB1 := Lib.hid (blw (al w (flowO f A c)) hb1)
    clear hb1
    go_wp2_with fail
    refine (HK.out _ HB1.out).mono ?_
    rintro e w2 ⟨rfl, hb2⟩
    go_wp2
    go_ret
    exact ⟨rfl, blw HB1.out hb2⟩
  rw [hlong] at hl
  have HL := Lib.hid hl
  have hlen := (longD_no hlong).1
  have HFL := Lib.hid fun W (hW : Below w.heap.size w W) => fla_of7 (h.below hW) (hT.below hW) hlong
  have HLO := Lib.hid hlong
  have C1 := Lib.hid fun W (hW : Below w.heap.size w W) => path_any f A c W (HFL.out W hW)
  have C2 := Lib.hid fun W (hW : Below w.heap.size w W) => length_any f A c W (HFL.out W hW)
  have C3 := Lib.hid fun W (hW : Below w.heap.size w W) => up_any f A c W (HFL.out W hW)
  have C4 := Lib.hid fun W (hW : Below w.heap.size w W) => down_any f A c W (h.below hW) (hT.below hW) (by have := (longD_names hlong).1; omega) (fun t ht => by have := ((longD_names hlong).2 t ht).1; omega) hlen (fun t ht => by have := ((longD_names hlong).2 t ht).2; omega)
  have C5 := Lib.hid fun W (hW : Below w.heap.size w W) => total_any f A c W (h.below hW) (hT.below hW) (by have := (longD_names hlong).1; omega) (fun t ht => by have := ((longD_names hlong).2 t ht).1; omega)
  have H := Lib.hid h
  unfold RetU at C3 C4
  by_cases h0 : rankE f (upD f.tasks) = 0
  case neg =>
    have hv : rankV f (upD f.tasks) = [] := by unfold rankV; rw [if_neg h0]
    have hpv : pathV f = [] := by unfold pathV; rw [if_neg h0]
    have hln := lenV_no h0
    obtain ⟨e0, he0⟩ : ∃ v, rankE f (upD f.tasks) = v := ⟨_, rfl⟩
    rw [he0] at h0 C1 C2 C3
    rw [hpv] at C1
    rw [hln] at C2
    rw [hv] at C3
    simp only [List.length_nil] at C1 C3
    have b1 : (e0 != e0) = false := by simp
    have b2 : (e0 != 0) = true := by simpa using h0
    have b3 : (e0 == e0) = true := by simp
    clear hl h hT hs hlong hv he0 h0 hpv hln
    go_enter Tryd.func4, Tryd.ntmps4
    go_wp2_with fail
    refine (HL.out _ (al _ _)).mono ?_
    rintro e w1 ⟨rfl, hb1⟩
    have HB1 := Lib.hid (blw (al w (flowO f A c)) hb1)
    have HO1 : Hid (w1.heap[w.heap.size]? = some (flowO f A c)) := Lib.hid ((hb1.block _ (by simp)).trans (heap_alloc_new w _))
    clear hb1
    obtain ⟨p0, p1, p2, p3, hp⟩ := flowO_cells HO1.out
    go_wp2_with fail
    refine (C1.out _ HB1.out).mono ?_
    rintro e w2 ⟨B1, d1, rfl, _, hb⟩
    have HB2 := Lib.hid (blw HB1.out hb)
    have HO2 : Hid (w2.heap[w.heap.size]? = some (flowO f A c)) := Lib.hid ((hb.block _ (Dag.blk_lt HO1.out)).trans HO1.out)
    clear hb p0 p1 p2 p3 hp HO1
    obtain ⟨p0, p1, p2, p3, hp⟩ := flowO_cells HO2.out
    go_wp2_with fail
    refine (C2.out _ HB2.out).mono ?_
    rintro e w3 ⟨rfl, hb⟩
    have HB3 := Lib.hid (blw HB2.out hb)
    have HO3 : Hid (w3.heap[w.heap.size]? = some (flowO f A c)) := Lib.hid ((hb.block _ (Dag.blk_lt HO2.out)).trans HO2.out)
    clear hb p0 p1 p2 p3 hp HO2
    obtain ⟨p0, p1, p2, p3, hp⟩ := flowO_cells HO3.out
    go_wp2_with fail
    refine (C3.out _ HB3.out).mono ?_
    rintro e w4 ⟨B2, d2, rfl, _, hb⟩
    have HB4 := Lib.hid (blw HB3.out hb)
    have HO4 : Hid (w4.heap[w.heap.size]? = some (flowO f A c)) := Lib.hid ((hb.block _ (Dag.blk_lt HO3.out)).trans HO3.out)
    clear hb p0 p1 p2 p3 hp HO3
    obtain ⟨p0, p1, p2, p3, hp⟩ := flowO_cells HO4.out
    go_wp2_with fail
    refine (C4.out _ HB4.out).mono ?_
    rintro e w5 ⟨B3, d3, rfl, _, hb⟩
    have HB5 := Lib.hid (blw HB4.out hb)
    have HO5 : Hid (w5.heap[w.heap.size]? = some (flowO f A c)) := Lib.hid ((hb.block _ (Dag.blk_lt HO4.out)).trans HO4.out)
    clear hb p0 p1 p2 p3 hp HO4
    obtain ⟨p0, p1, p2, p3, hp⟩ := flowO_cells HO5.out
    go_wp2_with fail
    refine (HK.out _ HB5.out).mono ?_
    rintro e wk ⟨rfl, hbk⟩
    go_wp2
    go_ret
    exact ⟨rfl, blw HB5.out hbk⟩
  obtain ⟨hd0, hud⟩ := down_ok h0
  have hxn : (rankV f (upD f.tasks)).length = f.tasks.length := by unfold rankV numsU; rw [if_pos h0]; simp
  have hyn : (rankV f (dnD f.tasks)).length = f.tasks.length := by unfold rankV numsU; rw [if_pos hd0]; simp
  have hxy : ∀ (v : Nat) (x y : Int), (rankV f (upD f.tasks))[v]? = some x → (rankV f (dnD f.tasks))[v]? = some y → 0 ≤ x ∧ x ≤ 1099511627775 ∧ 0 ≤ y ∧ y ≤ 1099511627775 ∧ x + y ≤ lengthV f := fun v x y hx hy => by
    obtain ⟨hf, hV, hW⟩ := chk_facts (rank_yes h0).1
    have hvl : v < f.tasks.length := by have := (List.getElem?_eq_some_iff.1 hx).1; omega
    rw [show rankV f (upD f.tasks) = numsU f.tasks.length (upD f.tasks) from by unfold rankV; rw [if_pos h0]] at hx
    rw [show rankV f (dnD f.tasks) = numsU f.tasks.length (dnD f.tasks) from by unfold rankV; rw [if_pos hd0]] at hy
    unfold numsU at hx hy
    rw [List.getElem?_map, List.getElem?_range hvl] at hx hy
    simp only [Option.map_some, Option.some.injEq] at hx hy
    subst hx hy
    have q1 := hud v hvl
    have q2 := (upD_bd hf hV hW _ v hvl (Nat.lt_succ_self _)).1
    have q3 := (dnD_bd hf hW _ v hvl (Nat.lt_succ_self _)).1
    have q4 := (lenV_bd f).2
    unfold maxT at q4
    omega
  have htot := len_total h0
  have hlb := lenV_bd f
  unfold maxT at hlb
  obtain ⟨P, hP⟩ : ∃ P, pathV f = P := ⟨_, rfl⟩
  obtain ⟨hP1, hP2, hP3⟩ := way_facts hP h0
  have hpb := fun k => wsum_bd (chk_facts (rank_yes h0).1).2.2 P k
  have hwb := fun (t : TaskD) (hm : t ∈ f.tasks) => nums_wgt (rank_yes h0).1 hm false
  obtain ⟨xs, hxs⟩ : ∃ v, rankV f (upD f.tasks) = v := ⟨_, rfl⟩
  obtain ⟨ys, hys⟩ : ∃ v, rankV f (dnD f.tasks) = v := ⟨_, rfl⟩
  obtain ⟨n0, hn0⟩ : ∃ v, lengthV f = v := ⟨_, rfl⟩
  obtain ⟨mp, hmp⟩ : ∃ v, P.length = v := ⟨_, rfl⟩
  obtain ⟨e9, he9⟩ : ∃ v, sumE false f = v := ⟨_, rfl⟩
  obtain ⟨v9, hv9⟩ : ∃ v, sumV false f = v := ⟨_, rfl⟩
  have htt : e9 = 0 → n0 ≤ v9 := fun q => by
    rw [← hv9, ← hn0]
    unfold sumV
    rw [he9, if_pos q]
    exact htot
  rw [hP, hmp, h0] at C1
  rw [hn0, h0] at C2
  rw [hxs, h0, ← hxs, hxn, hxs] at C3
  rw [hys, hd0, ← hys, hyn, hys] at C4
  rw [hv9, he9] at C5
  rw [hxs] at hxn hxy
  rw [hys] at hyn hxy
  rw [hn0] at hxy hP2 hlb
  have HXN := Lib.hid hxn; have HYN := Lib.hid hyn; have HXY := Lib.hid hxy; have HP1 := Lib.hid hP1; have HP2 := Lib.hid hP2; have HP3 := Lib.hid hP3; have HPB := Lib.hid hpb; have HWB := Lib.hid hwb; have HPL := Lib.hid hmp; have HTT := Lib.hid htt
  have hnl := h.lenI
  have b1 : ((f.tasks.length : Int) != (f.tasks.length : Int)) = false := by simp
  clear hl h hT hs hlong hxs hys h0 hd0 hud hxn hyn hxy htot hP hP1 hP2 hP3 hpb hwb hn0 hmp he9 hv9 htt
  go_enter Tryd.func4, Tryd.ntmps4
  go_wp2_with fail
  refine (HL.out _ (al _ _)).mono ?_
  rintro e w1 ⟨rfl, hb1⟩
  have HB1 := Lib.hid (blw (al w (flowO f A c)) hb1)
  have HO1 : Hid (w1.heap[w.heap.size]? = some (flowO f A c)) := Lib.hid ((hb1.block _ (by simp)).trans (heap_alloc_new w _))
  clear hb1
  obtain ⟨p0, p1, p2, p3, hp⟩ := flowO_cells HO1.out
  go_wp2_with fail
  refine (C1.out _ HB1.out).mono ?_
  rintro e w2 ⟨B1, d1, rfl, hi, hb⟩
  have HB2 := Lib.hid (blw HB1.out hb)
  have I1 := Lib.hid hi
  have HO2 : Hid (w2.heap[w.heap.size]? = some (flowO f A c)) := Lib.hid ((hb.block _ (Dag.blk_lt HO1.out)).trans HO1.out)
  clear hb p0 p1 p2 p3 hp HO1 hi
  obtain ⟨p0, p1, p2, p3, hp⟩ := flowO_cells HO2.out
  go_wp2_with fail
  refine (C2.out _ HB2.out).mono ?_
  rintro e w3 ⟨rfl, hb⟩
  have HB3 := Lib.hid (blw HB2.out hb)
  have I1 := Lib.hid (I1.out.below hb)
  have HO3 : Hid (w3.heap[w.heap.size]? = some (flowO f A c)) := Lib.hid ((hb.block _ (Dag.blk_lt HO2.out)).trans HO2.out)
  clear hb p0 p1 p2 p3 hp HO2
  obtain ⟨p0, p1, p2, p3, hp⟩ := flowO_cells HO3.out
  go_wp2_with fail
  refine (C3.out _ HB3.out).mono ?_
  rintro e w4 ⟨B2, d2, rfl, hi, hb⟩
  have HB4 := Lib.hid (blw HB3.out hb)
  have I1 := Lib.hid (I1.out.below hb)
  have I2 := Lib.hid hi
  have HO4 : Hid (w4.heap[w.heap.size]? = some (flowO f A c)) := Lib.hid ((hb.block _ (Dag.blk_lt HO3.out)).trans HO3.out)
  clear hb p0 p1 p2 p3 hp HO3 hi
  obtain ⟨p0, p1, p2, p3, hp⟩ := flowO_cells HO4.out
  go_wp2_with fail
  refine (C4.out _ HB4.out).mono ?_
  rintro e w5 ⟨B3, d3, rfl, hi, hb⟩
  have HB5 := Lib.hid (blw HB4.out hb)
  have I1 := Lib.hid (I1.out.below hb)
  have I2 := Lib.hid (I2.out.below hb)
  have I3 := Lib.hid hi
  have HO5 : Hid (w5.heap[w.heap.size]? = some (flowO f A c)) := Lib.hid ((hb.block _ (Dag.blk_lt HO4.out)).trans HO4.out)
  clear hb p0 p1 p2 p3 hp HO4 hi
  obtain ⟨p0, p1, p2, p3, hp⟩ := flowO_cells HO5.out
  have hml : mp ≤ 9223372036854775807 := by have h := I1.out.len; rw [Dag.num_len, HPL.out] at h; exact Nat.le_trans h (by have := Dag.Sl.top I1.out; simpa [maxLen] using this)
  go_wp2
  go_loopw [11, 12] (fun ss i wr => ∃ (k : Nat) (sk : Int), k ≤ mp ∧ i = .int .i64 k ∧ ss = .int .i64 sk ∧ 0 ≤ sk ∧ sk ≤ 1099511627775 ∧ Hid (sk = wsum f.tasks (P.take k)) ∧ Hid (Below w5.heap.size w5 wr)) (fun _ i _ => mp - (intOf i).toNat)
  case atStart => exact ⟨0, 0, Nat.zero_le _, rfl, rfl, by decide, by decide, Lib.hid (by rw [List.take_zero]; rfl), Lib.hid (Below.refl _ _)⟩
  case round =>
    obtain ⟨k, sk, hk, rfl, rfl, hs0, hs1, HSK, HB⟩ := hrel
    clear p0 p1 p2 p3 hp
    by_cases hlt : k < mp
    · obtain ⟨v, hv⟩ : ∃ v, P[k]? = some v := ⟨_, List.getElem?_eq_getElem (by rw [HPL.out]; exact hlt)⟩
      have hvn := HP1.out v (List.mem_of_getElem? hv)
      obtain ⟨g1, o1, e1, c1⟩ := (I1.out.below HB.out).cells k (.int .i64 (v : Int)) (by unfold Dag.ints; rw [List.getElem?_map, Dag.num_get, hv]; rfl)
      subst e1
      obtain ⟨t, ht⟩ : ∃ t, f.tasks[v]? = some t := ⟨_, List.getElem?_eq_getElem hvn⟩
      obtain ⟨bt, off, A2, c2, eA, _, _, _, _, _, h5, hI⟩ := (H.out.below (blw HB5.out HB.out)).cells v t ht
      subst eA
      have HO6 : Hid (wr.heap[w.heap.size]? = some (flowO f (some ⟨bt, off, none⟩) c)) := Lib.hid ((HB.out.block _ (Dag.blk_lt HO5.out)).trans HO5.out)
      obtain ⟨p0, p1, p2, p3, hp⟩ := flowO_cells HO6.out
      have t1 : decide ((v : Int) < 0) = false := decide_eq_false (by omega)
      have t2 : decide ((f.tasks.length : Int) ≤ (v : Int)) = false := decide_eq_false (by omega)
      have t2n : decide (f.tasks.length ≤ v) = false := decide_eq_false (by omega)
      obtain ⟨la, hla⟩ : ∃ la, t.after.length = la := ⟨_, rfl⟩
      rw [hla] at h5
      have HV := Lib.hid hv; have HT := Lib.hid ht
      by_cases hk0 : 0 < k
      · have t3 : decide ((0 : Int) < (k : Int)) = true := decide_eq_true (by omega)
        have t3n : decide (0 < k) = true := decide_eq_true (by omega)
        obtain ⟨q, hq⟩ : ∃ q, k - 1 = q := ⟨_, rfl⟩
        have hwk : IntKind.i64.wrap ((k : Int) - 1) = (q : Int) := by rw [IntWalk.i64_in _ (by omega)]; omega
        obtain ⟨y, hy⟩ : ∃ y, P[q]? = some y := ⟨_, List.getElem?_eq_getElem (by rw [HPL.out]; omega)⟩
        have hhas := HP3.out q y v t hy (by rw [show q + 1 = k from by omega]; exact hv) ht
        obtain ⟨g2, o2, e2, c3⟩ := (I1.out.below HB.out).cells q (.int .i64 (y : Int)) (by unfold Dag.ints; rw [List.getElem?_map, Dag.num_get, hy]; rfl)
        injection e2 with e2; injection e2 with e3 e4; subst e3 e4
        have hql : q < mp := by omega
        have HH := Lib.hid fun W (hW : Below wr.heap.size wr W) => Dag.hasI_any t.after la hla (y : Int) W A2 c2 (hI.below hW) true hhas
        clear hq hy hhas hv ht hla hI
        have s0 : wr.drew.cell? ⟨g1, o1 + k, none⟩ = some (.int .i64 (v : Int)) ∧ wr.drew.cell? ⟨w.heap.size, 3, none⟩ = some (.slice (some ⟨bt, off, none⟩) f.tasks.length c) ∧ wr.drew.cell? ⟨g1, o1 + q, none⟩ = some (.int .i64 (y : Int)) ∧ wr.drew.cell? ⟨bt, off + v * 6 + 5, none⟩ = some (.slice A2 la c2) ∧ Below wr.heap.size wr wr.drew := ⟨c1, p3, c3, h5, Dag.below_drew wr 1⟩
        clear c1 p0 p1 p2 p3 hp h5 c3
        go_wp2_with fail
        refine Ft.wp_region_R (fun (W : World) => W.cell? ⟨g1, o1 + k, none⟩ = some (.int .i64 (v : Int)) ∧ W.cell? ⟨w.heap.size, 3, none⟩ = some (.slice (some ⟨bt, off, none⟩) f.tasks.length c) ∧ W.cell? ⟨g1, o1 + q, none⟩ = some (.int .i64 (y : Int)) ∧ W.cell? ⟨bt, off + v * 6 + 5, none⟩ = some (.slice A2 la c2) ∧ Below wr.heap.size wr W) 37 (by kernel_rfl) ?_
        refine Ft.wpAnyR_leadI (by kernel_rfl) ?hQ ?hS0 [0, 1, 2, 3, 4, 5, 6, 7, 8, 9, 10, 11, 12, 13, 14, 15, 16, 17, 18, 19, 20, 21, 22, 23, 24, 25, 26, 27, 28, 29, 30, 31, 32] 4 _ _ (by kernel_rfl) ?_
        case hQ => intro c a d v w h; cases d <;> exact h
        case hS0 => exact s0
        iterate 33 (refine Ft.wpLeadI_read (v := ?_) _ rfl rfl (by rfl) ?_ ?_; rotate_left; (intro W hW; (try dsimp only at hW); go_simp; (try simp only [ge_iff_le, gt_iff_lt, hwk, t1, t2, t2n, t3, t3n]); (try go_simp); (try with_reducible rfl)); try simp only [Act.put, List.setIfInBounds_toArray, List.set_cons_succ, List.set_cons_zero])
        simp only [Ft.wpLeadI]
        refine Ft.wpAnyR_one (i := 33) rfl (by kernel_rfl) ?_
        intro K1 hK1
        go_simp
        refine (HH.out _ s0.2.2.2.2).mono ?_
        rintro e x1 ⟨rfl, rfl⟩
        refine hK1.out _ _ s0 ?_
        clear hK1 K1
        refine Ft.wpAnyR_leadI (by kernel_rfl) ?hQ ?hS0 [34, 35, 36] 0 _ _ (by kernel_rfl) ?_
        case hQ => intro c a d v w h; cases d <;> exact h
        case hS0 => exact s0
        iterate 3 (refine Ft.wpLeadI_read (v := ?_) _ rfl rfl (by rfl) ?_ ?_; rotate_left; (intro W hW; (try dsimp only at hW); go_simp; (try simp only [ge_iff_le, gt_iff_lt, hwk, t1, t2, t2n, t3, t3n]); (try go_simp); (try with_reducible rfl)); try simp only [Act.put, List.setIfInBounds_toArray, List.set_cons_succ, List.set_cons_zero])
        simp only [Ft.wpLeadI]
        refine ⟨by kernel_rfl, ?_⟩
        have hwzB := s0.2.2.2.2
        clear s0
        clear hwk hql HH
        generalize wr.drew = wz at hwzB ⊢
        have HBZ := Lib.hid (HB.out.trans (hwzB.mono HB.out.size))
        clear hwzB t1 t2 t2n t3 t3n
        have HO7 : Hid (wz.heap[w.heap.size]? = some (flowO f (some ⟨bt, off, none⟩) c)) := Lib.hid ((HBZ.out.block _ (Dag.blk_lt HO5.out)).trans HO5.out)
        obtain ⟨p0, p1, p2, p3, hp⟩ := flowO_cells HO7.out
        obtain ⟨bt', off', A4, c4, eA, h0, h1, h2, h3, h4, h5, _⟩ := (H.out.below (blw HB5.out HBZ.out)).cells v t HT.out
        injection eA with eA; injection eA with e1 e2; subst e1 e2
        obtain ⟨g3, o3, e3, c1⟩ := (I1.out.below HBZ.out).cells k (.int .i64 (v : Int)) (by unfold Dag.ints; rw [List.getElem?_map, Dag.num_get, HV.out]; rfl)
        injection e3 with e3; injection e3 with e4 e5; subst e4 e5
        have HWE := Lib.hid fun (W : World) => weight_any t A4 c4 W
        have hstep := wsum_take (ts := f.tasks) HV.out
        rw [wtAt_some HT.out, ← HSK.out] at hstep
        have hbd := HPB.out (k + 1)
        rw [hstep, HP2.out] at hbd
        obtain ⟨wt, hwt⟩ : ∃ z, wgt t = z := ⟨_, rfl⟩
        rw [hwt] at HWE hstep hbd
        have hw0 := (HWB.out t (List.mem_of_getElem? HT.out)).1
        rw [hwt] at hw0
        have hwr : IntKind.i64.wrap (sk + wt) = sk + wt := IntWalk.i64_in _ (by omega)
        have HST := Lib.hid hstep
        have hnew : 0 ≤ sk + wt ∧ sk + wt ≤ 1099511627775 := by omega
        clear hstep hbd hwt hw0
        have s0 : wz.drew.cell? ⟨w.heap.size, 3, none⟩ = some (.slice (some ⟨bt, off, none⟩) f.tasks.length c) ∧ wz.drew.cell? ⟨g1, o1 + k, none⟩ = some (.int .i64 (v : Int)) ∧ wz.drew.cell? ⟨bt, off + v * 6, none⟩ = some (.string (sb t.name)) ∧ wz.drew.cell? ⟨bt, off + v * 6 + 1, none⟩ = some (.int .i64 t.nodes) ∧ wz.drew.cell? ⟨bt, off + v * 6 + 2, none⟩ = some (.int .i64 t.wall) ∧ wz.drew.cell? ⟨bt, off + v * 6 + 3, none⟩ = some (.int .i64 t.retry) ∧ wz.drew.cell? ⟨bt, off + v * 6 + 4, none⟩ = some (.bool t.done) ∧ wz.drew.cell? ⟨bt, off + v * 6 + 5, none⟩ = some (.slice A4 t.after.length c4) ∧ Below wz.heap.size wz wz.drew := ⟨p3, c1, h0, h1, h2, h3, h4, h5, Dag.below_drew wz 1⟩
        clear c1 p0 p1 p2 p3 hp h0 h1 h2 h3 h4 h5
        go_wp2_with fail
        refine Ft.wp_region_R (fun (W : World) => W.cell? ⟨w.heap.size, 3, none⟩ = some (.slice (some ⟨bt, off, none⟩) f.tasks.length c) ∧ W.cell? ⟨g1, o1 + k, none⟩ = some (.int .i64 (v : Int)) ∧ W.cell? ⟨bt, off + v * 6, none⟩ = some (.string (sb t.name)) ∧ W.cell? ⟨bt, off + v * 6 + 1, none⟩ = some (.int .i64 t.nodes) ∧ W.cell? ⟨bt, off + v * 6 + 2, none⟩ = some (.int .i64 t.wall) ∧ W.cell? ⟨bt, off + v * 6 + 3, none⟩ = some (.int .i64 t.retry) ∧ W.cell? ⟨bt, off + v * 6 + 4, none⟩ = some (.bool t.done) ∧ W.cell? ⟨bt, off + v * 6 + 5, none⟩ = some (.slice A4 t.after.length c4) ∧ Below wz.heap.size wz W) 12 (by kernel_rfl) ?_
        refine Ft.wpAnyR_leadI (by kernel_rfl) ?hQ ?hS0 [0, 1, 2, 3, 4, 5, 6, 7, 8] 3 _ _ (by kernel_rfl) ?_
        case hQ => intro c a d v w h; cases d <;> exact h
        case hS0 => exact s0
        iterate 9 (refine Ft.wpLeadI_read (v := ?_) _ rfl rfl (by rfl) ?_ ?_; rotate_left; (intro W hW; (try dsimp only at hW); go_simp; (try simp only [hwr]); (try go_simp); (try with_reducible rfl)); try simp only [Act.put, List.setIfInBounds_toArray, List.set_cons_succ, List.set_cons_zero])
        simp only [Ft.wpLeadI]
        refine Ft.wpAnyR_one (i := 9) rfl (by kernel_rfl) ?_
        intro K1 hK1
        go_simp
        refine (HWE.out _).mono ?_
        rintro e y1 ⟨rfl, hb1⟩
        have s1 : y1.cell? ⟨w.heap.size, 3, none⟩ = some (.slice (some ⟨bt, off, none⟩) f.tasks.length c) ∧ y1.cell? ⟨g1, o1 + k, none⟩ = some (.int .i64 (v : Int)) ∧ y1.cell? ⟨bt, off + v * 6, none⟩ = some (.string (sb t.name)) ∧ y1.cell? ⟨bt, off + v * 6 + 1, none⟩ = some (.int .i64 t.nodes) ∧ y1.cell? ⟨bt, off + v * 6 + 2, none⟩ = some (.int .i64 t.wall) ∧ y1.cell? ⟨bt, off + v * 6 + 3, none⟩ = some (.int .i64 t.retry) ∧ y1.cell? ⟨bt, off + v * 6 + 4, none⟩ = some (.bool t.done) ∧ y1.cell? ⟨bt, off + v * 6 + 5, none⟩ = some (.slice A4 t.after.length c4) ∧ Below wz.heap.size wz y1 := ⟨Sri.kp hb1 s0.1, Sri.kp hb1 s0.2.1, Sri.kp hb1 s0.2.2.1, Sri.kp hb1 s0.2.2.2.1, Sri.kp hb1 s0.2.2.2.2.1, Sri.kp hb1 s0.2.2.2.2.2.1, Sri.kp hb1 s0.2.2.2.2.2.2.1, Sri.kp hb1 s0.2.2.2.2.2.2.2.1, blw s0.2.2.2.2.2.2.2.2 hb1⟩
        clear hb1
        refine hK1.out _ _ s1 ?_
        clear hK1 K1
        refine Ft.wpAnyR_leadI (by kernel_rfl) ?hQ ?hS0 [10, 11] 0 _ _ (by kernel_rfl) ?_
        case hQ => intro c a d v w h; cases d <;> exact h
        case hS0 => exact s1
        iterate 2 (refine Ft.wpLeadI_read (v := ?_) _ rfl rfl (by rfl) ?_ ?_; rotate_left; (intro W hW; (try dsimp only at hW); go_simp; (try simp only [hwr]); (try go_simp); (try with_reducible rfl)); try simp only [Act.put, List.setIfInBounds_toArray, List.set_cons_succ, List.set_cons_zero])
        simp only [Ft.wpLeadI]
        refine ⟨by kernel_rfl, ?_⟩
        have HBN := Lib.hid (HBZ.out.trans (s1.2.2.2.2.2.2.2.2.mono HBZ.out.size))
        clear s1 s0
        go_wp2
        go_roundw
        case rel => exact ⟨k + 1, sk + wt, by omega, by go_num, rfl, hnew.1, hnew.2, Lib.hid HST.out.symm, HBN⟩
        case measure => simp [intOf]; omega
      · have t3 : decide ((0 : Int) < (k : Int)) = false := decide_eq_false (by omega)
        have t3n : decide (0 < k) = false := decide_eq_false (by omega)
        clear hv ht hla hI
        have s0 : wr.drew.cell? ⟨g1, o1 + k, none⟩ = some (.int .i64 (v : Int)) ∧ wr.drew.cell? ⟨w.heap.size, 3, none⟩ = some (.slice (some ⟨bt, off, none⟩) f.tasks.length c) ∧ Below wr.heap.size wr wr.drew := ⟨c1, p3, Dag.below_drew wr 1⟩
        clear c1 p0 p1 p2 p3 hp h5
        go_wp2_with fail
        refine Ft.wp_region_R (fun (W : World) => W.cell? ⟨g1, o1 + k, none⟩ = some (.int .i64 (v : Int)) ∧ W.cell? ⟨w.heap.size, 3, none⟩ = some (.slice (some ⟨bt, off, none⟩) f.tasks.length c) ∧ Below wr.heap.size wr W) 37 (by kernel_rfl) ?_
        refine Ft.wpAnyR_leadI (by kernel_rfl) ?hQ ?hS0 [0, 1, 2, 3, 4, 5, 6, 7, 8, 9, 10, 11, 12, 13, 14, 15, 16, 17, 18, 19, 20, 21, 22, 23, 24, 25, 26, 27, 28, 29, 30, 31, 32, 33, 34, 35, 36] 0 _ _ (by kernel_rfl) ?_
        case hQ => intro c a d v w h; cases d <;> exact h
        case hS0 => exact s0
        iterate 19 (refine Ft.wpLeadI_read (v := ?_) _ rfl rfl (by rfl) ?_ ?_; rotate_left; (intro W hW; (try dsimp only at hW); go_simp; (try simp only [ge_iff_le, gt_iff_lt, t1, t2, t2n, t3, t3n]); (try go_simp); (try with_reducible rfl)); try simp only [Act.put, List.setIfInBounds_toArray, List.set_cons_succ, List.set_cons_zero])
        iterate 16 (refine Ft.wpLeadI_skip _ rfl rfl (by kernel_rfl) ?_; try simp only [Act.put, List.setIfInBounds_toArray, List.set_cons_succ, List.set_cons_zero])
        iterate 2 (refine Ft.wpLeadI_read (v := ?_) _ rfl rfl (by rfl) ?_ ?_; rotate_left; (intro W hW; (try dsimp only at hW); go_simp; (try simp only [ge_iff_le, gt_iff_lt, t1, t2, t2n, t3, t3n]); (try go_simp); (try with_reducible rfl)); try simp only [Act.put, List.setIfInBounds_toArray, List.set_cons_succ, List.set_cons_zero])
        simp only [Ft.wpLeadI]
        refine ⟨by kernel_rfl, ?_⟩
        have hwzB := s0.2.2
        clear s0
        generalize wr.drew = wz at hwzB ⊢
        have HBZ := Lib.hid (HB.out.trans (hwzB.mono HB.out.size))
        clear hwzB t1 t2 t2n t3 t3n
        have HO7 : Hid (wz.heap[w.heap.size]? = some (flowO f (some ⟨bt, off, none⟩) c)) := Lib.hid ((HBZ.out.block _ (Dag.blk_lt HO5.out)).trans HO5.out)
        obtain ⟨p0, p1, p2, p3, hp⟩ := flowO_cells HO7.out
        obtain ⟨bt', off', A4, c4, eA, h0, h1, h2, h3, h4, h5, _⟩ := (H.out.below (blw HB5.out HBZ.out)).cells v t HT.out
        injection eA with eA; injection eA with e1 e2; subst e1 e2
        obtain ⟨g3, o3, e3, c1⟩ := (I1.out.below HBZ.out).cells k (.int .i64 (v : Int)) (by unfold Dag.ints; rw [List.getElem?_map, Dag.num_get, HV.out]; rfl)
        injection e3 with e3; injection e3 with e4 e5; subst e4 e5
        have HWE := Lib.hid fun (W : World) => weight_any t A4 c4 W
        have hstep := wsum_take (ts := f.tasks) HV.out
        rw [wtAt_some HT.out, ← HSK.out] at hstep
        have hbd := HPB.out (k + 1)
        rw [hstep, HP2.out] at hbd
        obtain ⟨wt, hwt⟩ : ∃ z, wgt t = z := ⟨_, rfl⟩
        rw [hwt] at HWE hstep hbd
        have hw0 := (HWB.out t (List.mem_of_getElem? HT.out)).1
        rw [hwt] at hw0
        have hwr : IntKind.i64.wrap (sk + wt) = sk + wt := IntWalk.i64_in _ (by omega)
        have HST := Lib.hid hstep
        have hnew : 0 ≤ sk + wt ∧ sk + wt ≤ 1099511627775 := by omega
        clear hstep hbd hwt hw0
        have s0 : wz.drew.cell? ⟨w.heap.size, 3, none⟩ = some (.slice (some ⟨bt, off, none⟩) f.tasks.length c) ∧ wz.drew.cell? ⟨g1, o1 + k, none⟩ = some (.int .i64 (v : Int)) ∧ wz.drew.cell? ⟨bt, off + v * 6, none⟩ = some (.string (sb t.name)) ∧ wz.drew.cell? ⟨bt, off + v * 6 + 1, none⟩ = some (.int .i64 t.nodes) ∧ wz.drew.cell? ⟨bt, off + v * 6 + 2, none⟩ = some (.int .i64 t.wall) ∧ wz.drew.cell? ⟨bt, off + v * 6 + 3, none⟩ = some (.int .i64 t.retry) ∧ wz.drew.cell? ⟨bt, off + v * 6 + 4, none⟩ = some (.bool t.done) ∧ wz.drew.cell? ⟨bt, off + v * 6 + 5, none⟩ = some (.slice A4 t.after.length c4) ∧ Below wz.heap.size wz wz.drew := ⟨p3, c1, h0, h1, h2, h3, h4, h5, Dag.below_drew wz 1⟩
        clear c1 p0 p1 p2 p3 hp h0 h1 h2 h3 h4 h5
        go_wp2_with fail
        refine Ft.wp_region_R (fun (W : World) => W.cell? ⟨w.heap.size, 3, none⟩ = some (.slice (some ⟨bt, off, none⟩) f.tasks.length c) ∧ W.cell? ⟨g1, o1 + k, none⟩ = some (.int .i64 (v : Int)) ∧ W.cell? ⟨bt, off + v * 6, none⟩ = some (.string (sb t.name)) ∧ W.cell? ⟨bt, off + v * 6 + 1, none⟩ = some (.int .i64 t.nodes) ∧ W.cell? ⟨bt, off + v * 6 + 2, none⟩ = some (.int .i64 t.wall) ∧ W.cell? ⟨bt, off + v * 6 + 3, none⟩ = some (.int .i64 t.retry) ∧ W.cell? ⟨bt, off + v * 6 + 4, none⟩ = some (.bool t.done) ∧ W.cell? ⟨bt, off + v * 6 + 5, none⟩ = some (.slice A4 t.after.length c4) ∧ Below wz.heap.size wz W) 12 (by kernel_rfl) ?_
        refine Ft.wpAnyR_leadI (by kernel_rfl) ?hQ ?hS0 [0, 1, 2, 3, 4, 5, 6, 7, 8] 3 _ _ (by kernel_rfl) ?_
        case hQ => intro c a d v w h; cases d <;> exact h
        case hS0 => exact s0
        iterate 9 (refine Ft.wpLeadI_read (v := ?_) _ rfl rfl (by rfl) ?_ ?_; rotate_left; (intro W hW; (try dsimp only at hW); go_simp; (try simp only [hwr]); (try go_simp); (try with_reducible rfl)); try simp only [Act.put, List.setIfInBounds_toArray, List.set_cons_succ, List.set_cons_zero])
        simp only [Ft.wpLeadI]
        refine Ft.wpAnyR_one (i := 9) rfl (by kernel_rfl) ?_
        intro K1 hK1
        go_simp
        refine (HWE.out _).mono ?_
        rintro e y1 ⟨rfl, hb1⟩
        have s1 : y1.cell? ⟨w.heap.size, 3, none⟩ = some (.slice (some ⟨bt, off, none⟩) f.tasks.length c) ∧ y1.cell? ⟨g1, o1 + k, none⟩ = some (.int .i64 (v : Int)) ∧ y1.cell? ⟨bt, off + v * 6, none⟩ = some (.string (sb t.name)) ∧ y1.cell? ⟨bt, off + v * 6 + 1, none⟩ = some (.int .i64 t.nodes) ∧ y1.cell? ⟨bt, off + v * 6 + 2, none⟩ = some (.int .i64 t.wall) ∧ y1.cell? ⟨bt, off + v * 6 + 3, none⟩ = some (.int .i64 t.retry) ∧ y1.cell? ⟨bt, off + v * 6 + 4, none⟩ = some (.bool t.done) ∧ y1.cell? ⟨bt, off + v * 6 + 5, none⟩ = some (.slice A4 t.after.length c4) ∧ Below wz.heap.size wz y1 := ⟨Sri.kp hb1 s0.1, Sri.kp hb1 s0.2.1, Sri.kp hb1 s0.2.2.1, Sri.kp hb1 s0.2.2.2.1, Sri.kp hb1 s0.2.2.2.2.1, Sri.kp hb1 s0.2.2.2.2.2.1, Sri.kp hb1 s0.2.2.2.2.2.2.1, Sri.kp hb1 s0.2.2.2.2.2.2.2.1, blw s0.2.2.2.2.2.2.2.2 hb1⟩
        clear hb1
        refine hK1.out _ _ s1 ?_
        clear hK1 K1
        refine Ft.wpAnyR_leadI (by kernel_rfl) ?hQ ?hS0 [10, 11] 0 _ _ (by kernel_rfl) ?_
        case hQ => intro c a d v w h; cases d <;> exact h
        case hS0 => exact s1
        iterate 2 (refine Ft.wpLeadI_read (v := ?_) _ rfl rfl (by rfl) ?_ ?_; rotate_left; (intro W hW; (try dsimp only at hW); go_simp; (try simp only [hwr]); (try go_simp); (try with_reducible rfl)); try simp only [Act.put, List.setIfInBounds_toArray, List.set_cons_succ, List.set_cons_zero])
        simp only [Ft.wpLeadI]
        refine ⟨by kernel_rfl, ?_⟩
        have HBN := Lib.hid (HBZ.out.trans (s1.2.2.2.2.2.2.2.2.mono HBZ.out.size))
        clear s1 s0
        go_wp2
        go_roundw
        case rel => exact ⟨k + 1, sk + wt, by omega, by go_num, rfl, hnew.1, hnew.2, Lib.hid HST.out.symm, HBN⟩
        case measure => simp [intOf]; omega
    · have hkm : k = mp := by omega
      have hsn : sk = n0 := by
        have h := HSK.out
        rw [hkm, List.take_of_length_le (by rw [HPL.out]; exact Nat.le_refl _), HP2.out] at h
        exact h
      have HO6 : Hid (wr.heap[w.heap.size]? = some (flowO f A c)) := Lib.hid ((HB.out.block _ (Dag.blk_lt HO5.out)).trans HO5.out)
      have HBA := Lib.hid (blw HB5.out HB.out)
      have I2 := Lib.hid (I2.out.below HB.out); have I3 := Lib.hid (I3.out.below HB.out)
      clear HSK hk
      subst hsn
      obtain ⟨p0, p1, p2, p3, hp⟩ := flowO_cells HO6.out
      obtain ⟨wA, rfl⟩ : ∃ z, z = wr := ⟨wr, rfl⟩
      go_wp2
      go_loopw [13] (fun vv wr => ∃ j : Nat, j ≤ f.tasks.length ∧ vv = .int .i64 j ∧ Hid (Below wA.heap.size wA wr)) (fun vv _ => f.tasks.length - (intOf vv).toNat)
      case atStart => exact ⟨0, Nat.zero_le _, rfl, Lib.hid (Below.refl _ _)⟩
      case round =>
        obtain ⟨j, hj, rfl, HBX⟩ := hrel
        have HO7 : Hid (wr.heap[w.heap.size]? = some (flowO f A c)) := Lib.hid ((HBX.out.block _ (Dag.blk_lt HO6.out)).trans HO6.out)
        clear p0 p1 p2 p3 hp
        obtain ⟨p0, p1, p2, p3, hp⟩ := flowO_cells HO7.out
        by_cases hjl : j < f.tasks.length
        · obtain ⟨x, hx⟩ : ∃ z, xs[j]? = some z := ⟨_, List.getElem?_eq_getElem (by rw [HXN.out]; exact hjl)⟩
          obtain ⟨y, hy⟩ : ∃ z, ys[j]? = some z := ⟨_, List.getElem?_eq_getElem (by rw [HYN.out]; exact hjl)⟩
          obtain ⟨q1, o1, e1, c1⟩ := (I2.out.below HBX.out).cells j (.int .i64 x) (by unfold Dag.ints; rw [List.getElem?_map, hx]; rfl)
          obtain ⟨q2, o2, e2, c2⟩ := (I3.out.below HBX.out).cells j (.int .i64 y) (by unfold Dag.ints; rw [List.getElem?_map, hy]; rfl)
          subst e1 e2
          obtain ⟨z1, z2, z3, z4, z5⟩ := HXY.out j x y hx hy
          have hwr : IntKind.i64.wrap (x + y) = x + y := IntWalk.i64_in _ (by omega)
          have hw64 : wrap64 (x + y) = x + y := IntWalk.wrap64_in _ (by omega)
          have hd : decide (sk < x + y) = false := decide_eq_false (by omega)
          have hd2 : decide (sk < wrap64 (x + y)) = false := by rw [hw64]; exact hd
          have hd3 : decide (sk < IntKind.i64.wrap (x + y)) = false := by rw [hwr]; exact hd
          clear hx hy z1 z2 z3 z4 z5
          go_wp2_with fail
          go_quiet (fail)
          have HBN := Lib.hid (HBX.out.trans ((Dag.below_drew wr nq).mono HBX.out.size))
          generalize wr.drewN nq = wz at HBN ⊢
          clear c1 c2 p0 p1 p2 p3 hp
          go_wp2
          go_roundw
          case rel => exact ⟨j + 1, by omega, by go_num, HBN⟩
          case measure => simp [intOf]; omega
        · obtain rfl : j = f.tasks.length := by omega
          have HBE := Lib.hid (blw HBA.out HBX.out)
          go_wp2_with fail
          refine (C5.out _ HBE.out).mono ?_
          rintro e w6 ⟨rfl, hb6⟩
          have HB6 := Lib.hid (blw HBE.out hb6)
          clear hb6
          have bs : (sk == sk) = true := by simp
          by_cases he : e9 = 0
          · have htt := HTT.out he
            subst he
            have bt : decide (sk ≤ v9) = true := decide_eq_true htt
            clear htt
            go_wp2_with fail
            refine (HK.out _ HB6.out).mono ?_
            rintro e wk ⟨rfl, hbk⟩
            go_wp2
            go_ret
            exact ⟨rfl, blw HB6.out hbk⟩
          · have bt : (e9 != 0) = true := by simpa using he
            clear he
            go_wp2_with fail
            refine (HK.out _ HB6.out).mono ?_
            rintro e wk ⟨rfl, hbk⟩
            go_wp2
            go_ret
            exact ⟨rfl, blw HB6.out hbk⟩

namespace rankLongest
theorem own : ownKnob Tryd.prog.godebug = none := by kernel_rfl
theorem laidOut : laidOutB Tryd.prog = true := by kernel_rfl
set_option maxRecDepth 100000 in
theorem lifted (os : Os) (started : os.Started) (H : Type) (enc : TypeId × Value → H) :
    ReturnsInHanded {} Tryd.checked os 4 .any (fun w args => (Rows.rankLongestSpec.pre enc Tryd.prog Tryd.f4 [] false w args ∧ laidMetH Tryd.prog laid7 w) ∧ sizedMet enc Tryd.prog Tryd.f4 (OpenSpec.ofChange Rows.rankLongestSpec) false w args)
      (Rows.rankLongestSpec.post enc Tryd.prog Tryd.f4 false true false false) := by
  refine returnsInHanded_of_change_and (C := Tryd.checked) (X := fun w _ => laidMetH Tryd.prog laid7 w) (fun _ _ _ hh h => h.of_heap hh) own started (by kernel_rfl) Tryd.func4
    (ChangeSpec.witness_shaped (enc := enc) (C := Tryd.checked) (os := os) (X := fun w _ => laidMetH Tryd.prog laid7 w) false (World.laidAll Tryd.prog os laid7) #[.agg #[.string ByteArray.empty, .int .i64 0, .int .i64 0, .slice none 0 0]] 8 (World.laidAll_os _ _ _)
      (World.shaped_of_ZipB (by kernel_rfl) (by kernel_rfl)) (by kernel_rfl) (by kernel_rfl) (by kernel_rfl)
      (by rw [MakeChecks.laidMetH_plain _ _ _ (by kernel_rfl)]; exact laidMet_laidAll _ (by kernel_rfl) (by kernel_rfl))) ?_
  intro W base args ds gs before hval0 hW _ hsz hL _
  have hval : ∀ (j : Nat) t v, Tryd.f4.params[j]? = some t → args[j]? = some v → Value.okWide Tryd.prog W .any base t v := hval0
  have hW' := hW
  obtain ⟨p, q, hA0, hV, rfl, _, _⟩ := hW
  have hA : DataW.TrodAll enc Tryd.prog W 0 (fun _ => true) true Tryd.f4.params.toList args.toList ds p := hA0
  rw [Tryd.params4] at hA hval
  obtain ⟨v0, vs0, d0, ds0, p0, q0, hargs, rfl, rfl, h0, r0⟩ := trodAll_cons hA
  obtain ⟨rfl, rfl, rfl⟩ := trodAll_nil r0
  obtain rfl : args = #[v0] := by cases args; simp_all
  obtain ⟨rfl, rfl⟩ := trodVars_none hV
  have k0 := h0
  have lt0 : ∀ x ∈ p0, x.block < W.heap.size := by obtain ⟨m, hm⟩ := k0; exact DataW.trod_lt m _ _ _ hm
  obtain ⟨cs0, e0, _⟩ := okWide_struct Tryd.underlying24 (hval 0 24 v0 rfl rfl)
  obtain ⟨fuel0, hf0⟩ := h0
  rw [show v0.cells.toList = cs0.toList from by rw [e0]; rfl] at hf0
  obtain ⟨z0, A0, c0, hcs0, w0, s0⟩ := flow_arg hf0
  obtain rfl : cs0 = #[.string (sb z0.name), .int .i64 z0.deadline, .int .i64 z0.priority, .slice A0 z0.tasks.length c0] := by rw [← Array.toArray_toList (xs := cs0), hcs0]
  subst e0
  have s0 := s0 (weights_at hsz (j := 0) (t := 24) rfl rfl)
  clear hf0 hcs0
  clear hA0 hval0
  rw [MakeChecks.laidMetH_plain _ _ _ (by kernel_rfl)] at hL
  refine (walk_RankLongest W (tabs_of hL) z0 A0 c0 w0 s0).mono fun e W' ⟨he, bel⟩ => ?_
  subst he
  exact ⟨_, rfl, _, _, _, [], _, [], hW', trodAll_mk1 (shut_bool Tryd.underlying4 _), (trodAll_cons_mk (Below.trod laidOut (by kernel_rfl) (of_decide_eq_true (by kernel_rfl)) k0 bel lt0) trodAll_mk0), rfl, bel.frame _, fun h => by cases h⟩
theorem said : Rows.RankLongestSaid :=
  OpenClaim.holds_of_wide 4 Tryd.f4 rfl rfl rfl rfl rfl rfl rfl ⟨rfl, rfl, rfl, rfl, rfl⟩ rfl rfl rfl rfl rfl (by kernel_rfl) Tryd.func4 (by kernel_rfl)
    (of_decide_eq_true (by kernel_rfl)) (by unfold Func.isWrapper; first | (rw [if_pos (by decide +kernel)]; kernel_rfl) | (rw [if_neg (by decide +kernel)]; exact ⟨rfl, rfl⟩))
    (fun os started H enc _ => lifted os started H enc)
theorem plain (f : FuncId) (fn : Func) (hf : Tryd.pinned.checked.prog.funcNamed "timekeeper/timekeeperlaw07.RankLongest" = some f) (hfn : Tryd.pinned.checked.prog.funcs[f]? = some fn) :
    false = Tryd.pinned.checked.prog.looks [] ∧ ∀ (j : Nat) t, fn.params[j]? = some t → Tryd.pinned.checked.prog.wantsStandIn t = false := by
  obtain rfl : f = 4 := Option.some.inj ((show Tryd.prog.funcNamed "timekeeper/timekeeperlaw07.RankLongest" = some 4 by kernel_rfl).symm.trans hf) |>.symm
  obtain rfl : fn = Tryd.f4 := (Option.some.inj (Tryd.func4.symm.trans hfn)).symm
  refine ⟨by kernel_rfl, fun j t ht => ?_⟩
  rw [Tryd.params4] at ht
  have hm : t ∈ [24] := by simpa using Array.mem_of_getElem? ht
  have hall : ([24].all fun u => !Tryd.prog.wantsStandIn u) = true := by kernel_rfl
  exact (show Tryd.prog.wantsStandIn t = false by simpa using List.all_eq_true.1 hall t hm)
theorem proved : Rows.RankLongestCardSaid :=
  Claim7.holds_tied_plain_at .later [] _ _ _ _ said (fun _ h => by cases h) (by kernel_rfl) (fun _ h => by cases h) rankLongest_row_tie rfl ⟨rfl, rfl⟩ (by kernel_rfl) rfl plain (by kernel_rfl)
#print axioms proved
end rankLongest
end Go.Proofs.YtaiolhanbjndcaaDoor

