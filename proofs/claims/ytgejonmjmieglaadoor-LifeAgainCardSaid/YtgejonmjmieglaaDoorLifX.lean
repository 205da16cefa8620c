/- Layer 13: the walk of LifeAgain. -/
import Derived.Test.YtgejonmjmieglaaDoorLifW
import Derived.Test.YtgejonmjmieglaaDoorLifV
namespace Go.Proofs.YtgejonmjmieglaaDoor.Lf
open Go.RowKit
open Dag (Ints IRows Own1 OwnI Sl ints num info_int info_is arc Plus)
set_option linter.unusedVariables false
set_option maxRecDepth 100000
set_option maxHeartbeats 6400000 in
theorem walk_LifeAgain (w : World) (hT : Tb3 w) (f : FlowD) (A : Option Addr) (c : Nat) (h : Tasks w A c f.tasks) (hs : Small f) (S F : List Int) (SA : Option Addr) (sc : Nat) (FA : Option Addr) (fc : Nat) (hL : Lif w SA S.length sc FA F.length fc S F) (v : Int) (hv : (Lit.int .i64 v).wf = true) :
    Calls Tryd.prog 7 #[.agg #[.string (sb f.name), .int .i64 f.deadline, .int .i64 f.priority, .slice A f.tasks.length c], .agg #[.slice SA S.length sc, .slice FA F.length fc], .int .i64 v] w fun e w' => e = .returned (.bool true) ∧ Below w.heap.size w w' := by
  have HK := Lib.hid fun W (hW : Below w.heap.size w W) => known13_any W (hT.below hW)
  have HLG := Lib.hid fun W (hW : Below w.heap.size w W) => long13_any f A c W (h.below hW) hs S F SA FA S.length sc F.length fc (hL.below hW)
  have hnm : f.name.length ≤ 9000000000000000000 := Nat.le_trans hs.1 (by decide)
  have hnms : ∀ t ∈ f.tasks, t.name.length ≤ 9000000000000000000 := fun t ht => Nat.le_trans (hs.2 t ht).1 (by decide)
  obtain ⟨b, hb⟩ : ∃ b : Bool, b = true ↔ LifeOK f.tasks S F := by
    by_cases q : LifeOK f.tasks S F
    · exact ⟨true, ⟨fun _ => q, fun _ => rfl⟩⟩
    · exact ⟨false, ⟨(fun e => by cases e), fun e => absurd e q⟩⟩
  have HA := Lib.hid (show LfA w f A c SA S.length sc FA F.length fc S F b from ⟨h, hT, hnm, hnms, hL, hb⟩)
  have HN := Lib.hid (show ∀ W (_ : Below w.heap.size w W) (T G : List Int) SB n' sc' FB m' fc' (_ : Lif W SB n' sc' FB m' fc' T G) (_ : LifeOK f.tasks T G), LfA W f A c SB n' sc' FB m' fc' T G true from fun W hW T G SB n' sc' FB m' fc' hl ho => ⟨h.below hW, hT.below hW, hnm, hnms, hl, ⟨fun _ => ho, fun _ => rfl⟩⟩)
  have HS1 := Lib.hid hL
  have hln := h.lenI
  obtain ⟨z, hz⟩ : ∃ z, startE f b S v = z := ⟨_, rfl⟩
  have CST := Lib.hid fun W (hW : Below w.heap.size w W) => start_any f A c W S F SA FA S.length sc F.length fc b (HA.out.below hW) v
  rw [hz] at CST
  obtain ⟨y, hy⟩ : ∃ y, lifeE f b = y := ⟨_, rfl⟩
  have CCN := Lib.hid fun W (hW : Below w.heap.size w W) => cancel_any f A c W S F SA FA S.length sc F.length fc b (HA.out.below hW)
  rw [hy] at CCN
  have HZ := Lib.hid hz
  have HB := Lib.hid hb
  have HY := Lib.hid hy
  have hln1 : (S.length : Nat) ≤ 9223372036854775807 := ints_top hL.s
  have hln2 : (F.length : Nat) ≤ 9223372036854775807 := ints_top hL.f
  clear hnm hnms hb h hs hT hL hv hz hy
  go_enter Tryd.func7, Tryd.ntmps7
  go_wp2_with fail
  refine (HLG.out _ (ba2 (b := 0) (Below.refl _ _))).mono ?_
  rintro e w1 ⟨r, rfl, _, hb1⟩
  have HB1 := Lib.hid (show Below w.heap.size w w1 from blw (ba2 (b := 0) (Below.refl _ _)) hb1)
  obtain ⟨p0, p1, p2, p3, p4, p5⟩ := keep6 hb1 (two_boxesG _ _ _ _ _ _ w)
  clear hb1 HLG
  cases r
  case true =>
    go_wp2_with fail
    refine (HK.out _ HB1.out).mono ?_
    rintro e w2 ⟨rfl, hb2⟩
    go_wp2
    go_ret
    exact ⟨rfl, blw HB1.out hb2⟩
  go_wp2_with fail
  refine (CST.out _ HB1.out).mono ?_
  rintro e w2 ⟨SB, n', sc', FB, m', fc', rfl, hl2, hb2⟩
  have HB2 := Lib.hid (blw HB1.out hb2)
  have HL2 := Lib.hid hl2
  obtain ⟨p0, p1, p2, p3, p4, p5⟩ := keep6 hb2 ⟨p0, p1, p2, p3, p4, p5⟩
  obtain ⟨t0, t1, t2, t3, t4, t5⟩ := keep6 (al w2 (.cells #[.slice SB n' sc', .slice FB m' fc'] 27)) ⟨p0, p1, p2, p3, p4, p5⟩
  clear hb2 hl2 CST HB1
  by_cases hz0 : z = 0
  · subst hz0
    obtain ⟨hl0, u, rfl, hu, hs0, hfr⟩ := start_zero HZ.out
    obtain ⟨hc0, hb0⟩ := lifeE_zero.1 hl0
    have hok := HB.out.1 hb0
    have hus : u < S.length := by rw [hok.sl]; exact hu
    have hL2 : Lif w2 SB n' sc' FB m' fc' (S.set u 1) F := by have := HL2.out; unfold oneS oneF at this; rw [if_pos rfl, if_pos rfl] at this; simpa using this
    have CAG : Calls Tryd.prog 31 #[.agg #[.string (sb f.name), .int .i64 f.deadline, .int .i64 f.priority, .slice A f.tasks.length c], .agg #[.slice SB n' sc', .slice FB m' fc'], .int .i64 (u : Int)] (w2.alloc (.cells #[.slice SB n' sc', .slice FB m' fc'] 27)) (RetLS (w2.alloc (.cells #[.slice SB n' sc', .slice FB m' fc'] 27)) S F 0) := by
      have hq := again_any f A c (w2.alloc (.cells #[.slice SB n' sc', .slice FB m' fc'] 27)) (S.set u 1) F SB FB n' sc' m' fc' true (HN.out _ (ba1 (b := 0) HB2.out) _ _ SB n' sc' FB m' fc' (lif_al hL2) (start_ok hok hu hs0 hfr)) (u : Int)
      rw [tsk_ok hc0 hu (by rw [atI_set hus, if_pos rfl])] at hq
      unfold oneS oneF at hq
      rw [if_pos rfl, if_pos rfl] at hq
      rw [show (S.set u 1).set (u : Int).toNat 0 = S from by simpa using (set_back hus hs0).1] at hq
      exact hq
    have CAG := Lib.hid CAG
    have HNE := Lib.hid (set_back hus hs0).2
    have HL2' := Lib.hid hL2
    clear HZ hl0 hc0 hb0 hok hus hL2 hs0 hfr hu HL2
    go_wp2_with fail
    refine CAG.out.mono ?_
    rintro e w3 ⟨SZ, n2, sc2, FZ, m2, fc2, rfl, hl3, hb3⟩
    have HB3 := Lib.hid (blw (ba1 (b := 0) HB2.out) hb3)
    have HL3 := Lib.hid hl3
    have HLY := Lib.hid ((lif_al (o := .cells #[.slice SB n' sc', .slice FB m' fc'] 27) HL2'.out).below hb3)
    have hg := keep_obj hb3 (heap_alloc_new w2 _)
    have HG := Lib.hid hg
    obtain ⟨p0, p1, p2, p3, p4, p5⟩ := keep6 hb3 (keep6 (al _ _) ⟨p0, p1, p2, p3, p4, p5⟩)
    have y0 : w3.cell? ⟨w2.heap.size, 0, none⟩ = some (.slice SB n' sc') := (Dag.blk_cell hg 0).trans rfl
    have y1 : w3.cell? ⟨w2.heap.size, 1, none⟩ = some (.slice FB m' fc') := (Dag.blk_cell hg 1).trans rfl
    clear t0 t1 t2 t3 t4 t5
    obtain ⟨t0, t1, t2, t3, t4, t5⟩ := keep6 (al w3 (.cells #[.slice SZ n2 sc2, .slice FZ m2 fc2] 27)) ⟨p0, p1, p2, p3, p4, p5⟩
    clear hb3 hl3 hg CAG HL2' HB2
    go_wp2_with fail
    refine (same_any S F S F _ SZ FZ SA FA n2 sc2 m2 fc2 S.length sc F.length fc (lif_al HL3.out) (HS1.out.below (ba1 (b := 0) HB3.out)) true true (by simp) (by simp)).mono ?_
    rintro e w4 ⟨rfl, hb4⟩
    have HB4 := Lib.hid (blw (ba1 (b := 0) HB3.out) hb4)
    have HLY := Lib.hid ((lif_al (o := .cells #[.slice SZ n2 sc2, .slice FZ m2 fc2] 27) HLY.out).below hb4)
    have hg := keep_obj hb4 (keep_obj (al _ _) HG.out)
    obtain ⟨p0, p1, p2, p3, p4, p5⟩ := keep6 hb4 (keep6 (al _ _) ⟨p0, p1, p2, p3, p4, p5⟩)
    have y0 : w4.cell? ⟨w2.heap.size, 0, none⟩ = some (.slice SB n' sc') := (Dag.blk_cell hg 0).trans rfl
    have y1 : w4.cell? ⟨w2.heap.size, 1, none⟩ = some (.slice FB m' fc') := (Dag.blk_cell hg 1).trans rfl
    clear hb4 hg HL3 HB3 t0 t1 t2 t3 t4 t5
    go_wp2_with fail
    refine (same_any (S.set u 1) F S F _ SB FB SA FA n' sc' m' fc' S.length sc F.length fc HLY.out (HS1.out.below HB4.out) false true (by simpa using HNE.out) (by simp)).mono ?_
    rintro e w5 ⟨rfl, hb5⟩
    have HB5 := Lib.hid (blw HB4.out hb5)
    obtain ⟨p0, p1, p2, p3, p4, p5⟩ := keep6 hb5 ⟨p0, p1, p2, p3, p4, p5⟩
    clear hb5 HLY HB4
    go_wp2_with fail
    refine (CCN.out _ HB5.out).mono ?_
    rintro e w6 ⟨SC, n3, sc3, FC, m3, fc3, rfl, hl6, hb6⟩
    have HB6 := Lib.hid (blw HB5.out hb6)
    have HL6 := Lib.hid hl6
    obtain ⟨p0, p1, p2, p3, p4, p5⟩ := keep6 hb6 ⟨p0, p1, p2, p3, p4, p5⟩
    obtain ⟨t0, t1, t2, t3, t4, t5⟩ := keep6 (al w6 (.cells #[.slice SC n3 sc3, .slice FC m3 fc3] 27)) ⟨p0, p1, p2, p3, p4, p5⟩
    clear hb6 hl6 CCN
    by_cases hy0 : y = 0
    · subst hy0
      obtain ⟨hc0, hb0⟩ := lifeE_zero.1 HY.out
      have hok := HB.out.1 hb0
      have hL6 : Lif w6 SC n3 sc3 FC m3 fc3 (putL S (standL S [0, 1]) 5) F := by have := HL6.out; unfold canS oneF at this; rw [if_pos HY.out, if_pos rfl] at this; exact this
      have hA6 := HN.out (w6.alloc (.cells #[.slice SC n3 sc3, .slice FC m3 fc3] 27)) (ba1 (b := 0) HB6.out) _ _ SC n3 sc3 FC m3 fc3 (lif_al hL6) (cancel_ok hok)
      have CRD := ready_any f A c _ _ F SC FC n3 sc3 m3 fc3 true hA6
      have CON := Lib.hid fun W (hW : Below (w6.alloc (.cells #[.slice SC n3 sc3, .slice FC m3 fc3] 27)).heap.size (w6.alloc (.cells #[.slice SC n3 sc3, .slice FC m3 fc3] 27)) W) => opn_any f A c W _ F SC FC n3 sc3 m3 fc3 true (hA6.below hW)
      unfold readyL at CRD
      rw [lifeE_ok hc0, if_pos rfl, (cancel_none S).2, show num (List.filter (frv f.tasks (putL S (standL S [0, 1]) 5)) []) = [] from rfl] at CRD
      unfold openN at CON
      rw [lifeE_ok hc0, if_pos rfl, (cancel_none S).1] at CON
      have CRD := Lib.hid CRD
      clear hc0 hb0 hok hL6 hA6 HL6 HB5
      go_wp2_with fail
      refine CRD.out.mono ?_
      rintro e w7 ⟨AR, cR, rfl, hi7, hb7⟩
      have HB7 := Lib.hid (blw (ba1 (b := 0) HB6.out) hb7)
      have hg := keep_obj hb7 (heap_alloc_new w6 _)
      have c0 : w7.cell? ⟨w6.heap.size, 0, none⟩ = some (.slice SC n3 sc3) := (Dag.blk_cell hg 0).trans rfl
      have c1 : w7.cell? ⟨w6.heap.size, 1, none⟩ = some (.slice FC m3 fc3) := (Dag.blk_cell hg 1).trans rfl
      have CO := Lib.hid (CON.out w7 hb7)
      obtain ⟨p0, p1, p2, p3, p4, p5⟩ := keep6 hb7 ⟨t0, t1, t2, t3, t4, t5⟩
      clear hb7 hi7 hg t0 t1 t2 t3 t4 t5 CRD CON HB6
      go_wp2_with fail
      refine CO.out.mono ?_
      rintro e w8 ⟨rfl, hb8⟩
      have HB8 := Lib.hid (blw HB7.out hb8)
      clear hb8 CO
      go_wp2_with fail
      refine (HK.out _ HB8.out).mono ?_
      rintro e w9 ⟨rfl, hb9⟩
      go_wp2
      go_ret
      exact ⟨rfl, blw HB8.out hb9⟩
    · have hy1 : (y != 0) = true := by simp [hy0]
      obtain rfl : n3 = 0 := by have := HL6.out.n; unfold canS at this; rw [if_neg (by rw [HY.out]; exact hy0)] at this; simpa using this.symm
      clear HY hy0 HL6 HB5
      go_wp2_with fail
      refine (HK.out _ (ba1 (b := 0) HB6.out)).mono ?_
      rintro e w9 ⟨rfl, hb9⟩
      go_wp2
      go_ret
      exact ⟨rfl, blw (ba1 (b := 0) HB6.out) hb9⟩
  · have hz1 : (z == 0) = false := by simp [hz0]
    clear HZ hz0 HL2
    have HBr := Lib.hid (ba1 (b := 0) (o := .cells #[.slice SB n' sc', .slice FB m' fc'] 27) HB2.out)
    go_wp2_with fail
    refine (CCN.out _ HBr.out).mono ?_
    rintro e w6 ⟨SC, n3, sc3, FC, m3, fc3, rfl, hl6, hb6⟩
    have HB6 := Lib.hid (blw HBr.out hb6)
    have HL6 := Lib.hid hl6
    obtain ⟨p0, p1, p2, p3, p4, p5⟩ := keep6 hb6 ⟨t0, t1, t2, t3, t4, t5⟩
    obtain ⟨t0, t1, t2, t3, t4, t5⟩ := keep6 (al w6 (.cells #[.slice SC n3 sc3, .slice FC m3 fc3] 27)) ⟨p0, p1, p2, p3, p4, p5⟩
    clear hb6 hl6 CCN
    by_cases hy0 : y = 0
    · subst hy0
      obtain ⟨hc0, hb0⟩ := lifeE_zero.1 HY.out
      have hok := HB.out.1 hb0
      have hL6 : Lif w6 SC n3 sc3 FC m3 fc3 (putL S (standL S [0, 1]) 5) F := by have := HL6.out; unfold canS oneF at this; rw [if_pos HY.out, if_pos rfl] at this; exact this
      have hA6 := HN.out (w6.alloc (.cells #[.slice SC n3 sc3, .slice FC m3 fc3] 27)) (ba1 (b := 0) HB6.out) _ _ SC n3 sc3 FC m3 fc3 (lif_al hL6) (cancel_ok hok)
      have CRD := ready_any f A c _ _ F SC FC n3 sc3 m3 fc3 true hA6
      have CON := Lib.hid fun W (hW : Below (w6.alloc (.cells #[.slice SC n3 sc3, .slice FC m3 fc3] 27)).heap.size (w6.alloc (.cells #[.slice SC n3 sc3, .slice FC m3 fc3] 27)) W) => opn_any f A c W _ F SC FC n3 sc3 m3 fc3 true (hA6.below hW)
      unfold readyL at CRD
      rw [lifeE_ok hc0, if_pos rfl, (cancel_none S).2, show num (List.filter (frv f.tasks (putL S (standL S [0, 1]) 5)) []) = [] from rfl] at CRD
      unfold openN at CON
      rw [lifeE_ok hc0, if_pos rfl, (cancel_none S).1] at CON
      have CRD := Lib.hid CRD
      clear hc0 hb0 hok hL6 hA6 HL6 HBr
      go_wp2_with fail
      refine CRD.out.mono ?_
      rintro e w7 ⟨AR, cR, rfl, hi7, hb7⟩
      have HB7 := Lib.hid (blw (ba1 (b := 0) HB6.out) hb7)
      have hg := keep_obj hb7 (heap_alloc_new w6 _)
      have c0 : w7.cell? ⟨w6.heap.size, 0, none⟩ = some (.slice SC n3 sc3) := (Dag.blk_cell hg 0).trans rfl
      have c1 : w7.cell? ⟨w6.heap.size, 1, none⟩ = some (.slice FC m3 fc3) := (Dag.blk_cell hg 1).trans rfl
      have CO := Lib.hid (CON.out w7 hb7)
      obtain ⟨p0, p1, p2, p3, p4, p5⟩ := keep6 hb7 ⟨t0, t1, t2, t3, t4, t5⟩
      clear hb7 hi7 hg t0 t1 t2 t3 t4 t5 CRD CON HB6
      go_wp2_with fail
      refine CO.out.mono ?_
      rintro e w8 ⟨rfl, hb8⟩
      have HB8 := Lib.hid (blw HB7.out hb8)
      clear hb8 CO
      go_wp2_with fail
      refine (HK.out _ HB8.out).mono ?_
      rintro e w9 ⟨rfl, hb9⟩
      go_wp2
      go_ret
      exact ⟨rfl, blw HB8.out hb9⟩
    · have hy1 : (y != 0) = true := by simp [hy0]
      obtain rfl : n3 = 0 := by have := HL6.out.n; unfold canS at this; rw [if_neg (by rw [HY.out]; exact hy0)] at this; simpa using this.symm
      clear HY hy0 HL6 HBr
      go_wp2_with fail
      refine (HK.out _ (ba1 (b := 0) HB6.out)).mono ?_
      rintro e w9 ⟨rfl, hb9⟩
      go_wp2
      go_ret
      exact ⟨rfl, blw (ba1 (b := 0) HB6.out) hb9⟩
end Go.Proofs.YtgejonmjmieglaaDoor.Lf

