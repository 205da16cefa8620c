/- Layer 7: the document's Ranks. -/
import Derived.Test.YtkicanegjkemoaaDoorRnkRef2
namespace Go.Proofs.YtkicanegjkemoaaDoor
open Go.RowKit
open Dag (Ints Own1 Sl num num_len num_get Gr newE order befL behL bef_mem beh_mem order_ord)
set_option linter.unusedVariables false
set_option maxRecDepth 100000

def selD (isUp : Bool) (ts : List TaskD) : Nat → Int := if isUp = true then upD ts else dnD ts
theorem sel_lo {f : FlowD} (hc : checkE f = 0) (isUp : Bool) (i : Nat) (hi : i < f.tasks.length) : 0 ≤ selD isUp f.tasks i := by
  obtain ⟨hf, hV, hW⟩ := chk_facts hc
  unfold selD
  split
  · exact (upD_bd hf hV hW f.tasks.length i hi (by unfold upM; omega)).1
  · exact (dnD_bd hf hW f.tasks.length i hi (pos_lt hf hi)).1
theorem okU_bad {n : Nat} {U : Nat → Int} {i : Nat} (hi : i < n) (h : maxT < U i) : okU n U = false := by
  cases e : okU n U with
  | false => rfl
  | true => have := okU_iff.1 e i hi; omega

set_option maxHeartbeats 3200000 in
theorem rranks_any (isUp : Bool) (f : FlowD) (A : Option Addr) (c : Nat) (w : World) (h : Tasks w A c f.tasks) (hT : Txt.Tabs w) (hl : f.name.length ≤ 1100000) (hn : ∀ t ∈ f.tasks, t.name.length ≤ 1100000) (hlen : f.tasks.length ≤ 30) :
    Calls Tryd.prog 23 #[.agg #[.string (sb f.name), .int .i64 f.deadline, .int .i64 f.priority, .slice A f.tasks.length c], .bool isUp] w (RetU f (selD isUp f.tasks) w) := by
  have HC := Lib.hid fun W (hW : Below w.heap.size w W) => rcheck_any f A c W (h.below hW) (hT.below hW) hl hn hlen
  have H := Lib.hid h
  clear h hT hl hn
  obtain ⟨x, hx⟩ : ∃ x, checkE f = x := ⟨_, rfl⟩
  have HX := Lib.hid hx
  rw [hx] at HC
  clear hx
  by_cases h0 : x = 0
  case neg =>
    have hxn : (x != 0) = true := by simp [h0]
    have HE : Hid (rankE f (selD isUp f.tasks) = x) := Lib.hid (by unfold rankE; rw [HX.out, if_pos h0])
    have H0 := Lib.hid h0
    clear h0
    go_enter Tryd.func23, Tryd.ntmps23
    go_wp2_with fail
    refine (HC.out _ (al _ _)).mono ?_
    rintro e w1 ⟨rfl, hb1⟩
    have HB1 := Lib.hid (blw (al w (flowO f A c)) hb1)
    clear hb1
    go_wp2
    go_ret2
    exact retU_err HE.out H0.out HB1.out
  subst h0
  have HUP := Lib.hid fun W (hW : Below w.heap.size w W) => rup_any f A c W (H.out.below hW) HX.out hlen
  have HDN := Lib.hid fun W (hW : Below w.heap.size w W) => rdown_any f A c W (H.out.below hW) HX.out hlen
  have HLO := Lib.hid (sel_lo HX.out isUp)
  go_enter Tryd.func23, Tryd.ntmps23
  go_wp2_with fail
  refine (HC.out _ (al _ _)).mono ?_
  rintro e w1 ⟨rfl, hb1⟩
  have HB1 := Lib.hid (blw (al w (flowO f A c)) hb1)
  have HO1 : Hid (w1.heap[w.heap.size]? = some (flowO f A c)) := Lib.hid ((hb1.block _ (by simp)).trans (heap_alloc_new w _))
  clear hb1
  obtain ⟨p0, p1, p2, p3, hp⟩ := flowO_cells HO1.out
  go_wp2_with fail
  refine (HDN.out _ HB1.out).mono ?_
  rintro e w2 ⟨Ad, cd, rfl, hid2, hb2⟩
  have HB2 := Lib.hid (blw HB1.out hb2)
  have HO2 := Lib.hid (keep_obj hb2 HO1.out)
  have HI2 := Lib.hid hid2
  clear hb2 hid2 p0 p1 p2 p3 hp
  obtain ⟨p0, p1, p2, p3, hp⟩ := flowO_cells HO2.out
  cases isUp with
  | false =>
    go_wp2
    have hnl : f.tasks.length ≤ 9223372036854775807 := by omega
    go_loop [8] (fun i => ∃ (k : Nat), k ≤ f.tasks.length ∧ i = .int .i64 k ∧ Hid (∀ j, j < k → dnD f.tasks j ≤ maxT)) (fun i => f.tasks.length - (intOf i).toNat)
    case atStart => exact ⟨0, Nat.zero_le _, rfl, Lib.hid fun j hj => by omega⟩
    case round =>
      obtain ⟨k, hk, rfl, HK⟩ := hrel
      by_cases hlt : k < f.tasks.length
      · obtain ⟨b, off, eb, cb⟩ := HI2.out.cells k (.int .i64 (dnD f.tasks k)) (by unfold Dag.ints numsU; rw [List.getElem?_map, List.getElem?_map, List.getElem?_range hlt]; rfl)
        subst eb
        have hlo := HLO.out k hlt
        rw [show selD false f.tasks = dnD f.tasks from rfl] at hlo
        obtain ⟨y, hy⟩ : ∃ y, dnD f.tasks k = y := ⟨_, rfl⟩
        rw [hy] at cb hlo
        have HYY := Lib.hid hy
        clear hy
        by_cases hov : y ≤ 1099511627775
        · have hit := Clk.isT_yes hlo hov
          have HIS := Lib.hid (Clk.ris_any y)
          rw [hit] at HIS
          clear hit
          go_wp2_with (go_at_call 31; refine (HIS.out _).mono ?_; rintro e w' ⟨rfl, rfl⟩)
          go_round
          case rel => exact ⟨k + 1, by omega, by go_num, Lib.hid fun j hj => by
            rcases Nat.lt_or_ge j k with h | h
            · exact HK.out j h
            · have : j = k := by omega
              subst this; rw [HYY.out]; unfold maxT; omega⟩
          case measure => simp [intOf]; omega
        · have hit := Clk.isT_high (t := y) (by omega)
          have HIS := Lib.hid (Clk.ris_any y)
          rw [hit] at HIS
          have HE : Hid (rankE f (selD false f.tasks) = 6) := Lib.hid (by
            unfold rankE
            rw [if_neg (fun e => e HX.out), if_neg]
            rw [okU_bad hlt (U := selD false f.tasks) (by rw [show selD false f.tasks k = y from HYY.out]; unfold maxT; omega)]
            decide)
          clear hit
          go_wp2_with (go_at_call 31; refine (HIS.out _).mono ?_; rintro e w' ⟨rfl, rfl⟩)
          go_ret2
          exact retU_err HE.out (by decide) HB2.out
      · obtain rfl : k = f.tasks.length := by omega
        go_wp2
        go_ret2
        exact retU_ok (U := selD false f.tasks) HX.out (okU_iff.2 HK.out) rfl rfl HI2.out HB2.out
  | true =>
    go_wp2_with fail
    refine (HUP.out _ HB2.out).mono ?_
    rintro e w3 ⟨Au, cu, rfl, hi3, hb3⟩
    have HB3 := Lib.hid (blw HB2.out hb3)
    have HI3 := Lib.hid hi3
    clear hb3 hi3 p0 p1 p2 p3 hp
    go_wp2
    have hnl : f.tasks.length ≤ 9223372036854775807 := by omega
    go_loop [8] (fun i => ∃ (k : Nat), k ≤ f.tasks.length ∧ i = .int .i64 k ∧ Hid (∀ j, j < k → upD f.tasks j ≤ maxT)) (fun i => f.tasks.length - (intOf i).toNat)
    case atStart => exact ⟨0, Nat.zero_le _, rfl, Lib.hid fun j hj => by omega⟩
    case round =>
      obtain ⟨k, hk, rfl, HK⟩ := hrel
      by_cases hlt : k < f.tasks.length
      · obtain ⟨b, off, eb, cb⟩ := HI3.out.cells k (.int .i64 (upD f.tasks k)) (by unfold Dag.ints numsU; rw [List.getElem?_map, List.getElem?_map, List.getElem?_range hlt]; rfl)
        subst eb
        have hlo := HLO.out k hlt
        rw [show selD true f.tasks = upD f.tasks from rfl] at hlo
        obtain ⟨y, hy⟩ : ∃ y, upD f.tasks k = y := ⟨_, rfl⟩
        rw [hy] at cb hlo
        have HYY := Lib.hid hy
        clear hy
        by_cases hov : y ≤ 1099511627775
        · have hit := Clk.isT_yes hlo hov
          have HIS := Lib.hid (Clk.ris_any y)
          rw [hit] at HIS
          clear hit
          go_wp2_with (go_at_call 31; refine (HIS.out _).mono ?_; rintro e w' ⟨rfl, rfl⟩)
          go_round
          case rel => exact ⟨k + 1, by omega, by go_num, Lib.hid fun j hj => by
            rcases Nat.lt_or_ge j k with h | h
            · exact HK.out j h
            · have : j = k := by omega
              subst this; rw [HYY.out]; unfold maxT; omega⟩
          case measure => simp [intOf]; omega
        · have hit := Clk.isT_high (t := y) (by omega)
          have HIS := Lib.hid (Clk.ris_any y)
          rw [hit] at HIS
          have HE : Hid (rankE f (selD true f.tasks) = 6) := Lib.hid (by
            unfold rankE
            rw [if_neg (fun e => e HX.out), if_neg]
            rw [okU_bad hlt (U := selD true f.tasks) (by rw [show selD true f.tasks k = y from HYY.out]; unfold maxT; omega)]
            decide)
          clear hit
          go_wp2_with (go_at_call 31; refine (HIS.out _).mono ?_; rintro e w' ⟨rfl, rfl⟩)
          go_ret2
          exact retU_err HE.out (by decide) HB3.out
      · obtain rfl : k = f.tasks.length := by omega
        go_wp2
        go_ret2
        exact retU_ok (U := selD true f.tasks) HX.out (okU_iff.2 HK.out) rfl rfl HI3.out HB3.out
end Go.Proofs.YtkicanegjkemoaaDoor

