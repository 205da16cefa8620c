/- Layer 13: the walk of LifeReady. -/
import Derived.Test.YtgejonmjmieglaaDoorLifY
import Derived.Test.YtgejonmjmieglaaDoorLifV
import Derived.Test.YtgejonmjmieglaaDoorLifR
namespace Go.Proofs.YtgejonmjmieglaaDoor.Lf
open Go.RowKit
open Dag (Ints IRows Own1 OwnI Sl ints num info_int info_is arc Plus)
set_option linter.unusedVariables false
set_option maxRecDepth 100000
theorem keepS {base : Nat} {W W' : World} (hb : Below base W W') {g0 g1 g2 o : Nat} {v0 v1 v2 v3 v4 v5 v6 : Value} (h0 : g0 < base) (h1 : g1 < base) (h2 : g2 < base) (h : W.cell? ⟨g0, 0, none⟩ = some v0 ∧ W.cell? ⟨g0, 1, none⟩ = some v1 ∧ W.cell? ⟨g0, 2, none⟩ = some v2 ∧ W.cell? ⟨g0, 3, none⟩ = some v3 ∧ W.cell? ⟨g1, 0, none⟩ = some v4 ∧ W.cell? ⟨g1, 1, none⟩ = some v5 ∧ W.cell? ⟨g2, o, none⟩ = some v6) :
    W'.cell? ⟨g0, 0, none⟩ = some v0 ∧ W'.cell? ⟨g0, 1, none⟩ = some v1 ∧ W'.cell? ⟨g0, 2, none⟩ = some v2 ∧ W'.cell? ⟨g0, 3, none⟩ = some v3 ∧ W'.cell? ⟨g1, 0, none⟩ = some v4 ∧ W'.cell? ⟨g1, 1, none⟩ = some v5 ∧ W'.cell? ⟨g2, o, none⟩ = some v6 :=
  ⟨(hb.cell (p := ⟨g0, 0, none⟩) h0).trans h.1, (hb.cell (p := ⟨g0, 1, none⟩) h0).trans h.2.1, (hb.cell (p := ⟨g0, 2, none⟩) h0).trans h.2.2.1, (hb.cell (p := ⟨g0, 3, none⟩) h0).trans h.2.2.2.1, (hb.cell (p := ⟨g1, 0, none⟩) h1).trans h.2.2.2.2.1, (hb.cell (p := ⟨g1, 1, none⟩) h1).trans h.2.2.2.2.2.1, (hb.cell (p := ⟨g2, o, none⟩) h2).trans h.2.2.2.2.2.2⟩
set_option maxHeartbeats 6400000 in
theorem walk_LifeReady (w : World) (hT : Tb3 w) (f : FlowD) (A : Option Addr) (c : Nat) (h : Tasks w A c f.tasks) (hs : Small f) (S F : List Int) (SA : Option Addr) (sc : Nat) (FA : Option Addr) (fc : Nat) (hL : Lif w SA S.length sc FA F.length fc S F) (back : Bool) :
    Calls Tryd.prog 9 #[.agg #[.string (sb f.name), .int .i64 f.deadline, .int .i64 f.priority, .slice A f.tasks.length c], .agg #[.slice SA S.length sc, .slice FA F.length fc], .bool back] w fun e w' => e = .returned (.bool true) ∧ Below w.heap.size w w' := by
  have HK := Lib.hid fun W (hW : Below w.heap.size w W) => known13_any W (hT.below hW)
  have HLG := Lib.hid fun W (hW : Below w.heap.size w W) => long13_any f A c W (h.below hW) hs S F SA FA S.length sc F.length fc (hL.below hW)
  have hnm : f.name.length ≤ 9000000000000000000 := Nat.le_trans hs.1 (by decide)
  have hnms : ∀ t ∈ f.tasks, t.name.length ≤ 9000000000000000000 := fun t ht => Nat.le_trans (hs.2 t ht).1 (by decide)
  obtain ⟨b, hb⟩ : ∃ b : Bool, b = true ↔ LifeOK f.tasks S F := by
    by_cases q : LifeOK f.tasks S F
    · exact ⟨true, ⟨fun _ => q, fun _ => rfl⟩⟩
    · exact ⟨false, ⟨(fun e => by cases e), fun e => absurd e q⟩⟩
  have HA := Lib.hid (show LfA w f A c SA S.length sc FA F.length fc S F b from ⟨h, hT, hnm, hnms, hL, hb⟩)
  have HN := Lib.hid (show ∀ W (_ : Below w.heap.size w W) (T G : List Int) SB n' sc' FB m' fc' (_ : Lif W SB n' sc' FB m' fc' T G) (_ : LifeOK f.tasks T G), LfA W f A c SB n' sc' FB m' fc' T G true from fun W hW T G SB n' sc' FB m' fc' hl ho => ⟨h.below hW, hT.below hW, hnm, hnms, hl, ⟨fun _ => ho, fun _ => rfl⟩⟩)
  have HS1 := Lib.hid hL
  have hln := h.lenI
  obtain ⟨y, hy⟩ : ∃ y, lifeE f b = y := ⟨_, rfl⟩
  obtain ⟨L, hLr⟩ : ∃ L, readyL f b S = L := ⟨_, rfl⟩
  have CRD := Lib.hid fun W (hW : Below w.heap.size w W) => ready_any f A c W S F SA FA S.length sc F.length fc b (HA.out.below hW)
  rw [hy, hLr] at CRD
  have hLn : y ≠ 0 → L.length = 0 := fun q => by rw [← hLr]; unfold readyL; rw [if_neg (by rw [hy]; exact q)]; rfl
  have hLL : L.length ≤ 9223372036854775807 := by
    rw [← hLr]; unfold readyL
    by_cases q : lifeE f b = 0
    · rw [if_pos q]; exact Nat.le_trans (List.length_filter_le _ _) (Nat.le_trans (List.length_filter_le _ _) (by rw [List.length_range]; exact ints_top hL.s))
    · rw [if_neg q]; exact Nat.zero_le _
  have HB := Lib.hid hb
  have HY := Lib.hid hy
  have HLR := Lib.hid hLr
  have hln1 : (S.length : Nat) ≤ 9223372036854775807 := ints_top hL.s
  have hln2 : (F.length : Nat) ≤ 9223372036854775807 := ints_top hL.f
  clear hnm hnms hb h hs hT hL hy hLr
  go_enter Tryd.func9, Tryd.ntmps9
  go_wp2_with fail
  refine (CRD.out _ (ba2 (b := 0) (Below.refl _ _))).mono ?_
  rintro e w1 ⟨AL, cL, rfl, hi1, hb1⟩
  have HB1 := Lib.hid (show Below w.heap.size w w1 from blw (ba2 (b := 0) (Below.refl _ _)) hb1)
  have HI1 := Lib.hid hi1
  obtain ⟨p0, p1, p2, p3, p4, p5⟩ := keep6 hb1 (two_boxesG _ _ _ _ _ _ w)
  have hnL : (num L).length = L.length := Dag.num_len L
  rw [hnL]
  clear hb1 hi1 CRD
  go_wp2_with fail
  refine (HLG.out _ HB1.out).mono ?_
  rintro e w2 ⟨r, rfl, _, hb2⟩
  have HB2 := Lib.hid (blw HB1.out hb2)
  have HI2 := Lib.hid (HI1.out.below hb2)
  obtain ⟨p0, p1, p2, p3, p4, p5⟩ := keep6 hb2 ⟨p0, p1, p2, p3, p4, p5⟩
  clear hb2 HLG HB1 HI1
  by_cases hy0 : y = 0
  case neg =>
    have hy1 : (y == 0) = false := by simp [hy0]
    have hy2 : (y != 0) = true := by simp [hy0]
    have h0 := hLn hy0
    clear hy0 HY hLn
    cases r
    · go_wp2_with fail
      refine (HK.out _ HB2.out).mono ?_
      rintro e w3 ⟨rfl, hb3⟩
      go_wp2
      go_ret
      exact ⟨rfl, blw HB2.out hb3⟩
    · go_wp2_with fail
      refine (HK.out _ HB2.out).mono ?_
      rintro e w3 ⟨rfl, hb3⟩
      go_wp2
      go_ret
      exact ⟨rfl, blw HB2.out hb3⟩
  subst hy0
  cases r
  case true =>
    go_wp2_with fail
    refine (HK.out _ HB2.out).mono ?_
    rintro e w3 ⟨rfl, hb3⟩
    go_wp2
    go_ret
    exact ⟨rfl, blw HB2.out hb3⟩
  have hbt : b = true := (lifeE_zero.1 HY.out).2
  have hc0 := (lifeE_zero.1 HY.out).1
  subst hbt
  have HOK := Lib.hid (show checkE f = 0 ∧ LifeOK f.tasks S F from ⟨hc0, HB.out.1 rfl⟩)
  have HP2 := Lib.hid (show w2.cell? ⟨w.heap.size, 0, none⟩ = some (.string (sb f.name)) ∧ w2.cell? ⟨w.heap.size, 1, none⟩ = some (.int .i64 f.deadline) ∧ w2.cell? ⟨w.heap.size, 2, none⟩ = some (.int .i64 f.priority) ∧ w2.cell? ⟨w.heap.size, 3, none⟩ = some (.slice A f.tasks.length c) ∧ w2.cell? ⟨w.heap.size + 1, 0, none⟩ = some (.slice SA S.length sc) ∧ w2.cell? ⟨w.heap.size + 1, 1, none⟩ = some (.slice FA F.length fc) from ⟨p0, p1, p2, p3, p4, p5⟩)
  clear hc0 hLn HY hnL HB
  go_wp2_with fail
  clear p0 p1 p2 p3 p4 p5
  go_loopw [9] (fun i wr => ∃ k : Nat, k ≤ f.tasks.length ∧ i = .int .i64 k ∧ Hid (Below w2.heap.size w2 wr)) (fun i _ => f.tasks.length - (intOf i).toNat)
  case atStart => exact ⟨0, Nat.zero_le _, rfl, Lib.hid (Below.refl _ _)⟩
  case round =>
    obtain ⟨k, hk, rfl, HBw⟩ := hrel
    obtain ⟨q0, q1, q2, q3, q4, q5⟩ := keep6 HBw.out HP2.out
    by_cases hlt : k < f.tasks.length
    · obtain ⟨x, hx⟩ : ∃ x, startE f true S (k : Int) = x := ⟨_, rfl⟩
      have CS := start_any f A c wr S F SA FA S.length sc F.length fc true (HA.out.below (blw HB2.out HBw.out)) (k : Int)
      rw [hx] at CS
      have CS := Lib.hid CS
      have HXI := Lib.hid (show x = 0 ↔ k ∈ L from by rw [← hx, start_iff HOK.out.1 hlt, ← HLR.out, rdy HOK.out.1 HOK.out.2]; exact ⟨fun q => ⟨hlt, q⟩, fun q => q.2⟩)
      clear hx
      go_wp2_with fail
      refine CS.out.mono ?_
      rintro e w3 ⟨SB, n', sc', FB, m', fc', rfl, hl3, hb3⟩
      have HB3 := Lib.hid (blw HBw.out hb3)
      clear hl3 hb3 CS q0 q1 q2 q3 q4 q5
      go_wp2_with fail
      go_loopw [12, 13] (fun q i wr' => ∃ (j : Nat) (bq : Bool), j ≤ L.length ∧ q = .bool bq ∧ i = .int .i64 j ∧ Hid (bq = true ↔ k ∈ L.take j) ∧ Hid (Below w2.heap.size w2 wr')) (fun _ i _ => L.length - (intOf i).toNat)
      case atStart => exact ⟨0, false, Nat.zero_le _, rfl, rfl, Lib.hid (by simp), Lib.hid (ba1 (b := 0) HB3.out)⟩
      case round =>
        obtain ⟨j, bq, hj, rfl, rfl, HQ, HBi⟩ := hrel
        by_cases hlj : j < L.length
        · obtain ⟨b1, o1, zz, rfl, hz, c1⟩ := (HI2.out.below HBi.out).at_ (k := j) (by rw [Dag.num_len]; exact hlj)
          obtain ⟨u, hu, rfl⟩ : ∃ u : Nat, L[j]? = some u ∧ zz = (u : Int) := by
            refine ⟨L[j], List.getElem?_eq_getElem hlj, ?_⟩
            rw [show (num L)[j]? = some (L[j] : Int) from by simp [num, hlj]] at hz
            exact (Option.some.inj hz).symm
          have htk : L.take (j + 1) = L.take j ++ [u] := by rw [List.take_add_one, hu]; rfl
          cases bq
          · by_cases huk : u = k
            · have e1 : ((u : Int) == (k : Int)) = true := by simp [huk]
              have HQ2 := Lib.hid (show (true = true) ↔ k ∈ L.take (j + 1) from ⟨fun _ => by rw [htk]; simp [huk], fun _ => rfl⟩)
              clear huk htk hu hz HQ
              go_wp2_with fail
              try go_quiet (fail)
              go_wp2
              go_roundw
              case rel => exact ⟨j + 1, true, by omega, by first | rfl | simp, by go_num, HQ2, by first | exact HBi | exact Lib.hid (bd HBi.out)⟩
              case measure => simp [intOf]; omega
            · have e1 : ((u : Int) == (k : Int)) = false := by rw [beq_eq_false_iff_ne]; omega
              have HQ2 := Lib.hid (show (false = true) ↔ k ∈ L.take (j + 1) from by rw [htk, List.mem_append, ← HQ.out]; simp; exact fun q => huk q.symm)
              clear huk htk hu hz HQ
              go_wp2_with fail
              try go_quiet (fail)
              go_wp2
              go_roundw
              case rel => exact ⟨j + 1, false, by omega, by first | rfl | simp, by go_num, HQ2, by first | exact HBi | exact Lib.hid (bd HBi.out)⟩
              case measure => simp [intOf]; omega
          · have HQ2 := Lib.hid (show (true = true) ↔ k ∈ L.take (j + 1) from ⟨fun _ => by rw [htk]; exact List.mem_append.2 (Or.inl (HQ.out.1 rfl)), fun _ => rfl⟩)
            clear htk hu hz HQ
            go_wp2_with fail
            try go_quiet (fail)
            go_wp2
            go_roundw
            case rel => exact ⟨j + 1, true, by omega, by first | rfl | simp, by go_num, HQ2, by first | exact HBi | exact Lib.hid (bd HBi.out)⟩
            case measure => simp [intOf]; omega
        · obtain rfl : j = L.length := by omega
          have hq : bq = true ↔ x = 0 := by rw [HQ.out, HXI.out, List.take_length]
          by_cases hx0 : x = 0
          · have e1 : (x == 0) = true := by simp [hx0]
            obtain rfl := hq.2 hx0
            clear hq hx0
            go_wp2_with fail
            go_roundw
            case rel => exact ⟨k + 1, by omega, by go_num, HBi⟩
            case measure => simp [intOf]; omega
          · have e1 : (x == 0) = false := by simp [hx0]
            obtain rfl : bq = false := by cases bq; rfl; exact absurd (hq.1 rfl) hx0
            clear hq hx0
            go_wp2_with fail
            go_roundw
            case rel => exact ⟨k + 1, by omega, by go_num, HBi⟩
            case measure => simp [intOf]; omega
    · go_wp2_with fail
      have HBr := Lib.hid (blw HB2.out HBw.out)
      have HLx := Lib.hid (HS1.out.below HBr.out)
      have HIr := Lib.hid (HI2.out.below HBw.out)
      have HPr := Lib.hid (And.intro q0 (And.intro q1 (And.intro q2 (And.intro q3 (And.intro q4 q5)))))
      have HY0 := Lib.hid (heap_alloc_new wr (.cells #[.slice SA S.length sc, .slice FA F.length fc] 27))
      have HBa := Lib.hid (al wr (.cells #[.slice SA S.length sc, .slice FA F.length fc] 27))
      have HLa := Lib.hid (lif_al (o := .cells #[.slice SA S.length sc, .slice FA F.length fc] 27) HLx.out)
      obtain ⟨gy, hgy⟩ : ∃ g, wr.heap.size = g := ⟨_, rfl⟩
      have HGY := Lib.hid hgy
      rw [hgy] at HY0
      simp only [hgy]
      clear hgy q0 q1 q2 q3 q4 q5 HB2 HBw HI2 HP2 HS1 hlt
      go_loopw [15] (fun i W => ∃ (j : Nat) (SB : Option Addr) (n' sc' : Nat) (FB : Option Addr) (m' fc' : Nat), j ≤ L.length ∧ i = .int .i64 j ∧ Hid (Below wr.heap.size wr W) ∧ Hid (W.heap[gy]? = some (.cells #[.slice SB n' sc', .slice FB m' fc'] 27 (0, 0))) ∧ Hid (Lif W SB n' sc' FB m' fc' (putL S ((ordL back L).take j) 1) F)) (fun i _ => L.length - (intOf i).toNat)
      case atStart => exact ⟨0, SA, S.length, sc, FA, F.length, fc, Nat.zero_le _, rfl, HBa, HY0, HLa⟩
      case round =>
        obtain ⟨j, SB, n', sc', FB, m', fc', hj, rfl, HBi, HYi, HLi⟩ := hrel
        obtain ⟨q0, q1, q2, q3, q4, q5⟩ := keep6 HBi.out HPr.out
        have y0 := (Dag.blk_cell HYi.out 0).trans rfl
        have y1 := (Dag.blk_cell HYi.out 1).trans rfl
        by_cases hlj : j < L.length
        · obtain ⟨v, hv⟩ : ∃ v, (ordL back L)[j]? = some v := ⟨_, List.getElem?_eq_getElem (by rw [ord_len]; exact hlj)⟩
          have hsn := stg_next HOK.out.1 HOK.out.2 (back := back) (i := j) (v := v) (by rw [HLR.out]; exact hv)
          rw [HLR.out] at hsn
          have hso := stg_ok HOK.out.1 HOK.out.2 (D := (ordL back L).take j) (fun x hx => by rw [HLR.out]; exact ord_mem.1 (List.mem_of_mem_take hx))
          have CS : ∀ W (_ : Below wr.heap.size wr W), Calls Tryd.prog 30 #[.agg #[.string (sb f.name), .int .i64 f.deadline, .int .i64 f.priority, .slice A f.tasks.length c], .agg #[.slice SB n' sc', .slice FB m' fc'], .int .i64 (v : Int)] W (RetLS W (putL S ((ordL back L).take (j + 1)) 1) F 0) := fun W hW => by
            have hq := start_any f A c W _ F SB FB n' sc' m' fc' true (HN.out W (blw (blw HBr.out HBi.out) hW) _ _ SB n' sc' FB m' fc' (HLi.out.below hW) hso.1) (v : Int)
            rw [hsn.1] at hq
            unfold oneS oneF at hq
            rw [if_pos rfl, if_pos rfl, Int.toNat_natCast, hsn.2] at hq
            exact hq
          have CS := Lib.hid CS
          have HV : ∃ kk : Nat, kk < L.length ∧ (if back = true then L.length - 1 - j else j) = kk ∧ (num L)[kk]? = some (v : Int) := by
            cases back
            · refine ⟨j, hlj, rfl, ?_⟩
              simp only [ordL] at hv
              rw [if_neg (by decide)] at hv
              simp [num, hv]
            · refine ⟨L.length - 1 - j, by omega, rfl, ?_⟩
              simp only [ordL, if_pos] at hv
              rw [List.getElem?_reverse hlj] at hv
              simp [num, hv]
          obtain ⟨kk, hkk, hke, hkv⟩ := HV
          obtain ⟨b1, o1, zz, rfl, hz, c1⟩ := (HIr.out.below HBi.out).at_ (k := kk) (by rw [Dag.num_len]; exact hkk)
          rw [hkv] at hz
          obtain rfl := Option.some.inj hz
          have hkI : (0 : Int) ≤ (kk : Int) ∧ (kk : Int) < (L.length : Int) := ⟨by omega, by omega⟩
          have hgz := Dag.blk_lt HYi.out
          have hg0 : w.heap.size < wr.heap.size := World.block_lt_of_cell? wr _ q3
          have hg2 : b1 < wr.heap.size := World.block_lt_of_cell? wr _ c1
          have y0' : wr.cell? ⟨gy, 0, none⟩ = some (.slice SB n' sc') := y0
          have y1' : wr.cell? ⟨gy, 1, none⟩ = some (.slice FB m' fc') := y1
          have s0 := And.intro q0 (And.intro q1 (And.intro q2 (And.intro q3 (And.intro y0' (And.intro y1' c1)))))
          clear hv hsn hso hz hkv y0' y1'
          cases back
          · obtain rfl : j = kk := hke
            go_wp2_with fail
            go_region_held3 (fun (W : World) => W.cell? ⟨w.heap.size, 0, none⟩ = some (.string (sb f.name)) ∧ W.cell? ⟨w.heap.size, 1, none⟩ = some (.int .i64 f.deadline) ∧ W.cell? ⟨w.heap.size, 2, none⟩ = some (.int .i64 f.priority) ∧ W.cell? ⟨w.heap.size, 3, none⟩ = some (.slice A f.tasks.length c) ∧ W.cell? ⟨gy, 0, none⟩ = some (.slice SB n' sc') ∧ W.cell? ⟨gy, 1, none⟩ = some (.slice FB m' fc') ∧ W.cell? ⟨b1, o1 + j, none⟩ = some (.int .i64 (v : Int)))
              (first | exact keepS (bd (Below.refl _ _)) hg0 hgz hg2 s0 | exact keepS (blw (bd (Below.refl _ _)) (al _ _)) hg0 hgz hg2 s0 | exact keepS HW4.out hg0 hgz hg2 s0 | exact keepS (ba1 (b := 0) HW4.out) hg0 hgz hg2 s0 | exact keepS ((onl2 w4 _ _ _).below HW4.out (Nat.le_refl _)) hg0 hgz hg2 s0)
              (first
                | (go_at_call 30; refine (CS.out _ (by first | exact bd (Below.refl _ _) | exact blw (bd (Below.refl _ _)) (al _ _))).mono ?_; rintro e w4 ⟨SC, n3, sc3, FC, m3, fc3, rfl, hl4, hb4⟩; have HW4 := Lib.hid (show Below wr.heap.size wr w4 from by first | exact blw (bd (Below.refl _ _)) hb4 | exact blw (blw (bd (Below.refl _ _)) (al _ _)) hb4); have HL4 := Lib.hid hl4
                   first
                     | (have q6 : w4.heap[wr.heap.size]? = _ := keep_obj hb4 (heap_alloc_new wr.drew _); have r0 := (Dag.blk_cell q6 0).trans rfl; have r1 := (Dag.blk_cell q6 1).trans rfl; have rf0 := Dag.blk_frozen q6 0; have rf1 := Dag.blk_frozen q6 1; have Q6 := Lib.hid q6; clear q6 hl4 hb4)
                     | clear hl4 hb4))
            all_goals first
              | (have HWZ := Lib.hid ((onl2 w4 wr.heap.size (.slice SC n3 sc3) (.slice FC m3 fc3)).below HW4.out (Nat.le_refl _))
                 have HZb := Lib.hid (store2 Q6.out (.slice SC n3 sc3) (.slice FC m3 fc3))
                 have HLZ := Lib.hid (lif_onl (onl2 w4 wr.heap.size (.slice SC n3 sc3) (.slice FC m3 fc3)) Q6.out HL4.out)
                 generalize ((w4.setCell ⟨wr.heap.size, 0, none⟩ (.slice SC n3 sc3)).setCell ⟨wr.heap.size, 1, none⟩ (.slice FC m3 fc3)) = WZ at HWZ HZb HLZ ⊢
                 clear r0 r1 rf0 rf1
                 obtain ⟨gz, hgzz⟩ : ∃ g, wr.heap.size = g := ⟨_, rfl⟩
                 have HGZ := Lib.hid hgzz
                 rw [hgzz] at HZb
                 simp only [hgzz]
                 clear hgzz)
              | (have HWZ := Lib.hid (ba1 (b := 0) (o := .cells #[.slice SC n3 sc3, .slice FC m3 fc3] 27) HW4.out)
                 have HZb := Lib.hid (heap_alloc_new w4 (.cells #[.slice SC n3 sc3, .slice FC m3 fc3] 27))
                 have HLZ := Lib.hid (lif_al (o := .cells #[.slice SC n3 sc3, .slice FC m3 fc3] 27) HL4.out)
                 generalize w4.alloc (.cells #[.slice SC n3 sc3, .slice FC m3 fc3] 27) = WZ at HWZ HZb HLZ ⊢
                 generalize w4.heap.size = gz at HZb ⊢)
            all_goals
              (have hyZ := (HWZ.out.block gy hgz).trans HYi.out
               have yy0 := (Dag.blk_cell hyZ 0).trans rfl
               have yy1 := (Dag.blk_cell hyZ 1).trans rfl
               have yf0 := Dag.blk_frozen hyZ 0
               have yf1 := Dag.blk_frozen hyZ 1
               have zz0 := (Dag.blk_cell HZb.out 0).trans rfl
               have zz1 := (Dag.blk_cell HZb.out 1).trans rfl
               have o5 := onl2 WZ gy (.slice SC n3 sc3) (.slice FC m3 fc3)
               have HL5 := Lib.hid (lif_onl o5 hyZ HLZ.out)
               have HY5 := Lib.hid (store2 hyZ (.slice SC n3 sc3) (.slice FC m3 fc3))
               have HB5 := Lib.hid (o5.below (blw HBi.out HWZ.out) (Nat.le_of_eq HGY.out))
               clear hyZ o5 hgz hg0 hg2 s0 q0 q1 q2 q3 q4 q5 y0 y1 c1 CS
               go_wp2_with fail
               go_roundw
               case rel => exact ⟨j + 1, SC, n3, sc3, FC, m3, fc3, by omega, by go_num, HB5, HY5, HL5⟩
               case measure => simp [intOf]; omega)
          · have hke2 : L.length - 1 - j = kk := hke
            have a1 : IntKind.i64.wrap ((L.length : Int) - 1) = (L.length : Int) - 1 := IntWalk.i64_in _ (by omega)
            have a2 : IntKind.i64.wrap ((L.length : Int) - 1 - (j : Int)) = (kk : Int) := by rw [IntWalk.i64_in _ (by omega)]; omega
            clear hke
            have HKE := Lib.hid hke2
            clear hke2
            go_wp2_with fail
            go_region_held3 (fun (W : World) => W.cell? ⟨w.heap.size, 0, none⟩ = some (.string (sb f.name)) ∧ W.cell? ⟨w.heap.size, 1, none⟩ = some (.int .i64 f.deadline) ∧ W.cell? ⟨w.heap.size, 2, none⟩ = some (.int .i64 f.priority) ∧ W.cell? ⟨w.heap.size, 3, none⟩ = some (.slice A f.tasks.length c) ∧ W.cell? ⟨gy, 0, none⟩ = some (.slice SB n' sc') ∧ W.cell? ⟨gy, 1, none⟩ = some (.slice FB m' fc') ∧ W.cell? ⟨b1, o1 + kk, none⟩ = some (.int .i64 (v : Int)))
              (first | exact keepS (bd (Below.refl _ _)) hg0 hgz hg2 s0 | exact keepS (blw (bd (Below.refl _ _)) (al _ _)) hg0 hgz hg2 s0 | exact keepS HW4.out hg0 hgz hg2 s0 | exact keepS (ba1 (b := 0) HW4.out) hg0 hgz hg2 s0 | exact keepS ((onl2 w4 _ _ _).below HW4.out (Nat.le_refl _)) hg0 hgz hg2 s0)
              (first
                | (go_at_call 30; refine (CS.out _ (by first | exact bd (Below.refl _ _) | exact blw (bd (Below.refl _ _)) (al _ _))).mono ?_; rintro e w4 ⟨SC, n3, sc3, FC, m3, fc3, rfl, hl4, hb4⟩; have HW4 := Lib.hid (show Below wr.heap.size wr w4 from by first | exact blw (bd (Below.refl _ _)) hb4 | exact blw (blw (bd (Below.refl _ _)) (al _ _)) hb4); have HL4 := Lib.hid hl4
                   first
                     | (have q6 : w4.heap[wr.heap.size]? = _ := keep_obj hb4 (heap_alloc_new wr.drew _); have r0 := (Dag.blk_cell q6 0).trans rfl; have r1 := (Dag.blk_cell q6 1).trans rfl; have rf0 := Dag.blk_frozen q6 0; have rf1 := Dag.blk_frozen q6 1; have Q6 := Lib.hid q6; clear q6 hl4 hb4)
                     | clear hl4 hb4))
            all_goals first
              | (have HWZ := Lib.hid ((onl2 w4 wr.heap.size (.slice SC n3 sc3) (.slice FC m3 fc3)).below HW4.out (Nat.le_refl _))
                 have HZb := Lib.hid (store2 Q6.out (.slice SC n3 sc3) (.slice FC m3 fc3))
                 have HLZ := Lib.hid (lif_onl (onl2 w4 wr.heap.size (.slice SC n3 sc3) (.slice FC m3 fc3)) Q6.out HL4.out)
                 generalize ((w4.setCell ⟨wr.heap.size, 0, none⟩ (.slice SC n3 sc3)).setCell ⟨wr.heap.size, 1, none⟩ (.slice FC m3 fc3)) = WZ at HWZ HZb HLZ ⊢
                 clear r0 r1 rf0 rf1
                 obtain ⟨gz, hgzz⟩ : ∃ g, wr.heap.size = g := ⟨_, rfl⟩
                 have HGZ := Lib.hid hgzz
                 rw [hgzz] at HZb
                 simp only [hgzz]
                 clear hgzz)
              | (have HWZ := Lib.hid (ba1 (b := 0) (o := .cells #[.slice SC n3 sc3, .slice FC m3 fc3] 27) HW4.out)
                 have HZb := Lib.hid (heap_alloc_new w4 (.cells #[.slice SC n3 sc3, .slice FC m3 fc3] 27))
                 have HLZ := Lib.hid (lif_al (o := .cells #[.slice SC n3 sc3, .slice FC m3 fc3] 27) HL4.out)
                 generalize w4.alloc (.cells #[.slice SC n3 sc3, .slice FC m3 fc3] 27) = WZ at HWZ HZb HLZ ⊢
                 generalize w4.heap.size = gz at HZb ⊢)
            all_goals
              (have hyZ := (HWZ.out.block gy hgz).trans HYi.out
               have yy0 := (Dag.blk_cell hyZ 0).trans rfl
               have yy1 := (Dag.blk_cell hyZ 1).trans rfl
               have yf0 := Dag.blk_frozen hyZ 0
               have yf1 := Dag.blk_frozen hyZ 1
               have zz0 := (Dag.blk_cell HZb.out 0).trans rfl
               have zz1 := (Dag.blk_cell HZb.out 1).trans rfl
               have o5 := onl2 WZ gy (.slice SC n3 sc3) (.slice FC m3 fc3)
               have HL5 := Lib.hid (lif_onl o5 hyZ HLZ.out)
               have HY5 := Lib.hid (store2 hyZ (.slice SC n3 sc3) (.slice FC m3 fc3))
               have HB5 := Lib.hid (o5.below (blw HBi.out HWZ.out) (Nat.le_of_eq HGY.out))
               clear hyZ o5 hgz hg0 hg2 s0 q0 q1 q2 q3 q4 q5 y0 y1 c1 CS
               go_wp2_with fail
               go_roundw
               case rel => exact ⟨j + 1, SC, n3, sc3, FC, m3, fc3, by omega, by go_num, HB5, HY5, HL5⟩
               case measure => simp [intOf]; omega)
        · obtain rfl : j = L.length := by omega
          have hTall : (ordL back L).take L.length = ordL back L := List.take_of_length_le (by rw [ord_len]; exact Nat.le_refl _)
          have hso := stg_ok HOK.out.1 HOK.out.2 (D := ordL back L) (fun x hx => by rw [HLR.out]; exact ord_mem.1 hx)
          have hLi := HLi.out
          rw [hTall] at hLi
          have CR := ready_any f A c wr _ F SB FB n' sc' m' fc' true (HN.out wr (blw HBr.out HBi.out) _ _ SB n' sc' FB m' fc' hLi hso.1)
          have hd := stg_done HOK.out.1 HOK.out.2 back
          rw [HLR.out] at hd
          rw [hd, lifeE_ok HOK.out.1, show num [] = [] from rfl] at CR
          have CR := Lib.hid CR
          have HLf := Lib.hid hLi.f
          have HMf := Lib.hid hLi.m
          clear hTall hso hLi hd
          go_wp2_with fail
          refine CR.out.mono ?_
          rintro e w5 ⟨AR, cR, rfl, hi5, hb5⟩
          have HB5 := Lib.hid (blw HBi.out hb5)
          have HLf5 := Lib.hid (HLf.out.below hb5)
          have x1 := keep_cell hb5 q5
          have y1 : w5.cell? ⟨gy, 1, none⟩ = some (.slice FB m' fc') := keep_cell hb5 y1
          clear q0 q1 q2 q3 q4 q5 hi5 hb5 CR y0
          go_wp2_with fail
          refine (rsame_any F F FA FB F.length m' fc fc' rfl HMf.out _ (HLx.out.f.below HB5.out) HLf5.out true (by simp)).mono ?_
          rintro e w6 ⟨rfl, hb6⟩
          have HB6 := Lib.hid (blw HBr.out (blw HB5.out hb6))
          clear hb6 x1
          go_wp2_with fail
          refine (HK.out _ HB6.out).mono ?_
          rintro e w7 ⟨rfl, hb7⟩
          go_wp2
          go_ret
          exact ⟨rfl, blw HB6.out hb7⟩
end Go.Proofs.YtgejonmjmieglaaDoor.Lf

