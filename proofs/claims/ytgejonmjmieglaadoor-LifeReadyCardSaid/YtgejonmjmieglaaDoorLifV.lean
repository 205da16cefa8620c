/- Layer 13: known. -/
import Derived.Test.YtgejonmjmieglaaDoorLifU
import Derived.Deep.RegionHeld3
namespace Go.Proofs.YtgejonmjmieglaaDoor.Lf
open Go.RowKit
open Dag (Ints IRows Own1 OwnI Sl ints num info_int info_is arc Plus)
set_option linter.unusedVariables false
set_option maxRecDepth 100000

theorem lif_al {w : World} {o : Obj} {SA FA : Option Addr} {n sc m fc : Nat} {S F : List Int} (h : Lif w SA n sc FA m fc S F) : Lif (w.alloc o) SA n sc FA m fc S F := h.below (al _ _)
theorem lif_dr {w : World} {SA FA : Option Addr} {n sc m fc : Nat} {S F : List Int} (h : Lif w SA n sc FA m fc S F) : Lif w.drew SA n sc FA m fc S F := h.below (Dag.below_drew w 1)
theorem lif_ad {w : World} {o : Obj} {SA FA : Option Addr} {n sc m fc : Nat} {S F : List Int} (h : Lif w SA n sc FA m fc S F) : Lif (w.alloc o).drew SA n sc FA m fc S F := lif_dr (lif_al h)
theorem ints_onl {g : Nat} {w w' : World} {A : Option Addr} {c : Nat} {xs : List Int} {A0 A1 : Option Addr} {n0 c0 n1 c1 : Nat} {T : TypeId} (ho : Onl g w w') (hg : w.heap[g]? = some (.cells #[.slice A0 n0 c0, .slice A1 n1 c1] T (0, 0))) (h : Ints w A c xs) : Ints w' A c xs := by
  refine ⟨fun k x hx => ?_, h.cap, h.top, h.nil⟩
  obtain ⟨b, off, e, hc⟩ := h.cells k x hx
  have hne : b ≠ g := by
    rintro rfl
    obtain ⟨z, rfl⟩ : ∃ z, x = .int .i64 z := by
      obtain ⟨hlt, e⟩ := List.getElem?_eq_some_iff.1 hx
      exact ⟨xs[k]'(by simpa [ints] using hlt), by rw [← e]; simp [ints]⟩
    have hc2 := (Dag.blk_cell hg (off + k)).symm.trans hc
    match off + k, hc2 with
    | 0, hc2 => cases hc2
    | 1, hc2 => cases hc2
    | n + 2, hc2 => simp at hc2
  exact ⟨b, off, e, (cell_keep (p := ⟨b, off + k, none⟩) (ho.block b hne)).trans hc⟩
theorem lif_onl {g : Nat} {w w' : World} {SA FA : Option Addr} {n sc m fc : Nat} {S F : List Int} {A0 A1 : Option Addr} {n0 c0 n1 c1 : Nat} {T : TypeId} (ho : Onl g w w') (hg : w.heap[g]? = some (.cells #[.slice A0 n0 c0, .slice A1 n1 c1] T (0, 0))) (h : Lif w SA n sc FA m fc S F) : Lif w' SA n sc FA m fc S F := ⟨ints_onl ho hg h.s, ints_onl ho hg h.f, h.n, h.m⟩
theorem begin_two (A : Option Addr) (c : Nat) (w : World) (h : Tasks w A c twoF.tasks) (hT : Tb3 w) : Calls Tryd.prog 16 #[.agg #[.string (sb twoF.name), .int .i64 twoF.deadline, .int .i64 twoF.priority, .slice A twoF.tasks.length c]] w (RetLS w [0, 0] [0, 0] 0) := by
  have hb := begin_any twoF A c w h hT (by decide) (by decide)
  rw [show begS twoF = [0, 0] from by kernel_rfl, show begF twoF = [0, 0] from by kernel_rfl, two_chk] at hb
  exact hb
theorem lfa_two {w : World} {A : Option Addr} {c : Nat} {SA FA : Option Addr} {n sc m fc : Nat} {S F : List Int} (h : Tasks w A c twoF.tasks) (hT : Tb3 w) (hL : Lif w SA n sc FA m fc S F) (ho : LifeOK twoF.tasks S F) : LfA w twoF A c SA n sc FA m fc S F true := ⟨h, hT, by decide, by decide, hL, ⟨fun _ => ho, fun _ => rfl⟩⟩
theorem ready_two {w : World} {A : Option Addr} {c : Nat} {SA FA : Option Addr} {n sc m fc : Nat} (h : Tasks w A c twoF.tasks) (hT : Tb3 w) (hL : Lif w SA n sc FA m fc [0, 0] [0, 0]) : Calls Tryd.prog 18 #[.agg #[.string (sb twoF.name), .int .i64 twoF.deadline, .int .i64 twoF.priority, .slice A twoF.tasks.length c], .agg #[.slice SA n sc, .slice FA m fc]] w (RetLI w [0] 0) := by
  have hb := ready_any twoF A c w [0, 0] [0, 0] SA FA n sc m fc true (lfa_two h hT hL two_ok1)
  rw [show num (readyL twoF true [0, 0]) = [0] from by kernel_rfl, show lifeE twoF true = 0 from by kernel_rfl] at hb
  exact hb
theorem start_two {w : World} {A : Option Addr} {c : Nat} {SA FA : Option Addr} {n sc m fc : Nat} (h : Tasks w A c twoF.tasks) (hT : Tb3 w) (hL : Lif w SA n sc FA m fc [0, 0] [0, 0]) : Calls Tryd.prog 30 #[.agg #[.string (sb twoF.name), .int .i64 twoF.deadline, .int .i64 twoF.priority, .slice A twoF.tasks.length c], .agg #[.slice SA n sc, .slice FA m fc], .int .i64 0] w (RetLS w [1, 0] [0, 0] 0) := by
  have hb := start_any twoF A c w [0, 0] [0, 0] SA FA n sc m fc true (lfa_two h hT hL two_ok1) 0
  rw [show startE twoF true [0, 0] 0 = 0 from by kernel_rfl] at hb
  exact hb
theorem fail_two {w : World} {A : Option Addr} {c : Nat} {SA FA : Option Addr} {n sc m fc : Nat} (h : Tasks w A c twoF.tasks) (hT : Tb3 w) (hL : Lif w SA n sc FA m fc [1, 0] [0, 0]) : Calls Tryd.prog 34 #[.agg #[.string (sb twoF.name), .int .i64 twoF.deadline, .int .i64 twoF.priority, .slice A twoF.tasks.length c], .agg #[.slice SA n sc, .slice FA m fc], .int .i64 0] w (RetFl w [3, 4] [1, 0] [1] 0) :=
  fail_dead twoF A c w [1, 0] [0, 0] SA FA n sc m fc true (lfa_two h hT hL two_ok2) 0 _ rfl (by kernel_rfl) 0 rfl (by decide) [1] two_dl
set_option maxHeartbeats 6400000 in
theorem known13_any (w : World) (hT : Tb3 w) : Calls Tryd.prog 11 #[] w fun e w' => e = .returned (.bool true) ∧ Below w.heap.size w w' := by
  have HT := Lib.hid fun W (hW : Below w.heap.size w W) => hT.below hW
  have H2 := Lib.hid fun (W : World) => two_any W
  have HB0 := Lib.hid (Below.refl w.heap.size w)
  clear hT
  go_enter Tryd.func11, Tryd.ntmps11
  go_wp2_with fail
  refine (H2.out _).mono ?_
  rintro e w1 ⟨A1, c1, rfl, ht1, hb1⟩
  have HB1 := Lib.hid (blw HB0.out hb1)
  have H1 := Lib.hid ht1
  clear hb1 ht1
  go_wp2_with fail
  refine (begin_two A1 c1 w1 H1.out (HT.out _ HB1.out)).mono ?_
  rintro e w2 ⟨SA, n, sc, FA, m, fc, rfl, hl2, hb2⟩
  have HB2 := Lib.hid (blw HB1.out hb2)
  have HL2 := Lib.hid hl2
  clear hl2 hb2
  go_wp2_with fail
  have s2 : (w2.alloc (.cells #[.slice SA n sc, .slice FA m fc] 27)).cell? ⟨w2.heap.size, 0, none⟩ = some (.slice SA n sc) ∧ (w2.alloc (.cells #[.slice SA n sc, .slice FA m fc] 27)).cell? ⟨w2.heap.size, 1, none⟩ = some (.slice FA m fc) := ⟨(Dag.blk_cell (heap_alloc_new w2 _) 0).trans rfl, (Dag.blk_cell (heap_alloc_new w2 _) 1).trans rfl⟩
  have HBx := Lib.hid (blw HB2.out (al w2 (.cells #[.slice SA n sc, .slice FA m fc] 27)))
  have HLx := Lib.hid (HL2.out.below (al w2 (.cells #[.slice SA n sc, .slice FA m fc] 27)))
  have hgx : w2.heap.size < (w2.alloc (.cells #[.slice SA n sc, .slice FA m fc] 27)).heap.size := by simp
  generalize w2.alloc (.cells #[.slice SA n sc, .slice FA m fc] 27) = wx at s2 HBx HLx hgx ⊢
  generalize w2.heap.size = gx at s2 hgx ⊢
  go_region_held3 (fun (W : World) => W.cell? ⟨gx, 0, none⟩ = some (.slice SA n sc) ∧ W.cell? ⟨gx, 1, none⟩ = some (.slice FA m fc))
    (first | exact s4 | exact s3 | exact s2)
    (first
      | (go_at_call 18; refine (ready_two H3.out (HT.out _ HB3.out) HL3.out).mono ?_; rintro e w4 ⟨A4, c4, rfl, hi4, hb4⟩; have s4 := keep2 hb4 s3; have HB4 := Lib.hid (blw HB3.out hb4); have HL4 := Lib.hid (HL3.out.below hb4); have HI4 := Lib.hid hi4; have z4 := Nat.lt_of_lt_of_le z3 hb4.size; clear hb4 hi4)
      | (go_at_call 33; refine (H2.out _).mono ?_; rintro e w3 ⟨A3, c3, rfl, ht3, hb3⟩; have s3 := keep2 hb3 (show wx.drew.cell? _ = _ ∧ wx.drew.cell? _ = _ from s2); have HB3 := Lib.hid (blw (bd HBx.out) hb3); have HL3 := Lib.hid (HLx.out.below (show Below wx.heap.size wx w3 from ⟨hb3.os, hb3.tape, hb3.output, hb3.size, hb3.block⟩)); have H3 := Lib.hid ht3; have z3 : gx < w3.heap.size := Nat.lt_of_lt_of_le hgx hb3.size; clear hb3 ht3))
  clear s2 hgx s3 z3
  go_wp2_with fail
  rename_i K hK
  have REST : ∀ (W : World) (gy : Nat) (A5 : Option Addr) (c5 : Nat) (SB : Option Addr) (n' sc' : Nat) (FB : Option Addr) (m' fc' : Nat), W.heap[gy]? = some (.cells #[.slice SB n' sc', .slice FB m' fc'] 27 (0, 0)) → Below w.heap.size w W → Ints W A4 c4 [0] → Lif W SB n' sc' FB m' fc' [1, 0] [0, 0] → K { tmps := #[Value.bool false, Value.pointer (some { block := gx, off := 0 }), Value.int IntKind.i64 0, Value.slice A4 1 c4, Value.int IntKind.i64 0, Value.pointer (some { block := gy, off := 0 }), Value.int IntKind.i64 0, undef, undef, undef, Value.tuple #[Value.agg #[Value.slice SA n sc, Value.slice FA m fc], Value.int IntKind.i64 0], Value.agg #[Value.string (sb twoF.name), Value.int IntKind.i64 twoF.deadline, Value.int IntKind.i64 twoF.priority, Value.slice A1 twoF.tasks.length c1], Value.tuple #[Value.agg #[Value.slice SA n sc, Value.slice FA m fc], Value.int IntKind.i64 0], Value.agg #[Value.slice SA n sc, Value.slice FA m fc], Value.int IntKind.i64 0, Value.tuple #[Value.slice A4 1 c4, Value.int IntKind.i64 0], Value.agg #[Value.string (sb twoF.name), Value.int IntKind.i64 twoF.deadline, Value.int IntKind.i64 twoF.priority, Value.slice A3 twoF.tasks.length c3], Value.agg #[Value.slice SA n sc, Value.slice FA m fc], Value.tuple #[Value.slice A4 1 c4, Value.int IntKind.i64 0], Value.slice A4 1 c4, Value.int IntKind.i64 0, Value.tuple #[Value.agg #[Value.slice SB n' sc', Value.slice FB m' fc'], Value.int IntKind.i64 0], Value.agg #[Value.string (sb twoF.name), Value.int IntKind.i64 twoF.deadline, Value.int IntKind.i64 twoF.priority, Value.slice A5 twoF.tasks.length c5], Value.agg #[Value.slice SA n sc, Value.slice FA m fc], Value.tuple #[Value.agg #[Value.slice SB n' sc', Value.slice FB m' fc'], Value.int IntKind.i64 0], Value.agg #[Value.slice SB n' sc', Value.slice FB m' fc'], Value.int IntKind.i64 0, undef, undef, undef, undef, undef, undef, undef, undef, undef, undef, undef, undef, undef, undef, undef, undef, undef, undef, undef, undef, undef, undef, undef, undef, undef, undef, undef, undef, undef, undef, undef, undef, undef, undef, undef, undef, undef], defers := [] } W := by
    intro W gy A5 c5 SB n' sc' FB m' fc' hy hb hi hl
    refine hK _ _ ?_
    clear hK s4 z4 HB4 HL4 HI4
    have HBy := Lib.hid hb
    have HIy := Lib.hid hi
    have HLy := Lib.hid hl
    have sy : W.cell? ⟨gy, 0, none⟩ = some (.slice SB n' sc') ∧ W.cell? ⟨gy, 1, none⟩ = some (.slice FB m' fc') := ⟨(Dag.blk_cell hy 0).trans rfl, (Dag.blk_cell hy 1).trans rfl⟩
    have zy := Dag.blk_lt hy
    clear hb hi hl hy
    go_wp2_with fail
    rename_i K2 hK2
    have REST2 : ∀ (W2 : World) (gz : Nat) (A7 : Option Addr) (c7 : Nat) (SZ : Option Addr) (n2 sc2 : Nat) (FZ : Option Addr) (m2 fc2 : Nat) (AD : Option Addr) (cd : Nat), W2.heap[gz]? = some (.cells #[.slice SZ n2 sc2, .slice FZ m2 fc2] 27 (0, 0)) → Below w.heap.size w W2 → Ints W2 A4 c4 [0] → Ints W2 AD cd [1] → Lif W2 SZ n2 sc2 FZ m2 fc2 [3, 4] [1, 0] → K2 { tmps := #[Value.bool false, Value.pointer (some { block := gx, off := 0 }), Value.int IntKind.i64 0, Value.slice A4 1 c4, Value.int IntKind.i64 0, Value.pointer (some { block := gy, off := 0 }), Value.int IntKind.i64 0, Value.pointer (some { block := gz, off := 0 }), Value.slice AD 1 cd, Value.int IntKind.i64 0, Value.tuple #[Value.agg #[Value.slice SA n sc, Value.slice FA m fc], Value.int IntKind.i64 0], Value.agg #[Value.string (sb twoF.name), Value.int IntKind.i64 twoF.deadline, Value.int IntKind.i64 twoF.priority, Value.slice A1 twoF.tasks.length c1], Value.tuple #[Value.agg #[Value.slice SA n sc, Value.slice FA m fc], Value.int IntKind.i64 0], Value.agg #[Value.slice SA n sc, Value.slice FA m fc], Value.int IntKind.i64 0, Value.tuple #[Value.slice A4 1 c4, Value.int IntKind.i64 0], Value.agg #[Value.string (sb twoF.name), Value.int IntKind.i64 twoF.deadline, Value.int IntKind.i64 twoF.priority, Value.slice A3 twoF.tasks.length c3], Value.agg #[Value.slice SA n sc, Value.slice FA m fc], Value.tuple #[Value.slice A4 1 c4, Value.int IntKind.i64 0], Value.slice A4 1 c4, Value.int IntKind.i64 0, Value.tuple #[Value.agg #[Value.slice SB n' sc', Value.slice FB m' fc'], Value.int IntKind.i64 0], Value.agg #[Value.string (sb twoF.name), Value.int IntKind.i64 twoF.deadline, Value.int IntKind.i64 twoF.priority, Value.slice A5 twoF.tasks.length c5], Value.agg #[Value.slice SA n sc, Value.slice FA m fc], Value.tuple #[Value.agg #[Value.slice SB n' sc', Value.slice FB m' fc'], Value.int IntKind.i64 0], Value.agg #[Value.slice SB n' sc', Value.slice FB m' fc'], Value.int IntKind.i64 0, Value.tuple #[Value.agg #[Value.slice SZ n2 sc2, Value.slice FZ m2 fc2], Value.slice AD 1 cd, Value.int IntKind.i64 0], Value.agg #[Value.string (sb twoF.name), Value.int IntKind.i64 twoF.deadline, Value.int IntKind.i64 twoF.priority, Value.slice A7 twoF.tasks.length c7], Value.agg #[Value.slice SB n' sc', Value.slice FB m' fc'], Value.tuple #[Value.agg #[Value.slice SZ n2 sc2, Value.slice FZ m2 fc2], Value.slice AD 1 cd, Value.int IntKind.i64 0], Value.agg #[Value.slice SZ n2 sc2, Value.slice FZ m2 fc2], Value.slice AD 1 cd, Value.int IntKind.i64 0, undef, undef, undef, undef, undef, undef, undef, undef, undef, undef, undef, undef, undef, undef, undef, undef, undef, undef, undef, undef, undef, undef, undef, undef, undef, undef, undef, undef, undef, undef], defers := [] } W2 := by
      intro W2 gz A7 c7 SZ n2 sc2 FZ m2 fc2 AD cd hz hb hi hd hl
      refine hK2 _ _ ?_
      clear hK2 sy zy HBy HIy HLy
      have HBz := Lib.hid hb
      have HIz := Lib.hid hi
      have HDz := Lib.hid hd
      have HLz := Lib.hid hl
      have HZ := Lib.hid hz
      have sz0 := (Dag.blk_cell hz 0).trans rfl
      have sz1 := (Dag.blk_cell hz 1).trans rfl
      clear hb hi hd hl hz
      go_wp2_with fail
      refine (rsame_any [0] [0] A4 _ 1 1 c4 _ rfl rfl _ (HIz.out.below (al _ _)) (rowO_ints (S := [0]) (heap_alloc_new W2 _) rfl (by decide)) true rfl).mono ?_
      rintro e w9 ⟨rfl, hb9⟩
      have HB9 := Lib.hid (blw (ba1 (b := 0) HBz.out) hb9)
      have HZ9 := Lib.hid (keep_obj hb9 (keep_obj (al _ _) HZ.out))
      have HL9 := Lib.hid ((HLz.out.below (al _ _)).below hb9)
      have HD9 := Lib.hid ((HDz.out.below (al _ _)).below hb9)
      have t0 := (Dag.blk_cell HZ9.out 0).trans rfl
      have t1 := (Dag.blk_cell HZ9.out 1).trans rfl
      clear hb9 sz0 sz1 HZ HLz HDz HIz HBz
      go_wp2_with fail
      refine (rsame_any [3, 4] [3, 4] SZ _ n2 2 sc2 _ HL9.out.n rfl _ (HL9.out.s.below (al _ _)) (rowO_ints (S := [3, 4]) (heap_alloc_new w9 _) rfl (by decide)) true rfl).mono ?_
      rintro e w10 ⟨rfl, hb10⟩
      have HB10 := Lib.hid (blw (ba1 (b := 0) HB9.out) hb10)
      have HD10 := Lib.hid ((HD9.out.below (al _ _)).below hb10)
      clear hb10 t0 t1 HZ9 HL9 HD9 HB9
      go_wp2_with fail
      refine (rsame_any [1] [1] AD _ 1 1 cd _ rfl rfl _ (HD10.out.below (al _ _)) (rowO_ints (S := [1]) (heap_alloc_new w10 _) rfl (by decide)) true rfl).mono ?_
      rintro e w11 ⟨rfl, hb11⟩
      have HB11 := Lib.hid (blw (ba1 (b := 0) HB10.out) hb11)
      clear hb11 HD10 HB10
      go_wp2
      go_ret
      exact ⟨rfl, HB11.out⟩
    clear hK2
    go_region_held3 (fun (W : World) => W.cell? ⟨gy, 0, none⟩ = some (.slice SB n' sc') ∧ W.cell? ⟨gy, 1, none⟩ = some (.slice FB m' fc'))
      (first | exact s8 | exact s7 | exact sy | exact keep2 (al _ _) s8 | exact keep2 (al _ _) s7 | exact keep2 (al _ _) sy | exact set2_keep s8 (by omega) | exact set2_keep (keep2 (al _ _) s8) (by omega))
      (first
        | (go_at_call 33; refine (H2.out _).mono ?_; rintro e w7 ⟨A7, c7, rfl, ht5, hb5⟩; have s7 := keep2 hb5 (by first | exact sy | exact keep2 (al _ _) sy); have z7 : gy < w7.heap.size := (by have := hb5.size; first | omega | (simp at this; omega)); have HB7 := Lib.hid (blw (by first | exact bd HBy.out | exact ba1d (b := 0) HBy.out) hb5); have HL7 := Lib.hid (show Lif w7 SB n' sc' FB m' fc' [1, 0] [0, 0] from (by first | exact (lif_dr HLy.out).below hb5 | exact (lif_al (lif_dr HLy.out)).below hb5)); have H7 := Lib.hid ht5; have HI7 := Lib.hid (show Ints w7 A4 c4 [0] from by first | exact (id_ HIy.out).below hb5 | exact ((id_ HIy.out).below (al _ _)).below hb5)
           first
             | (have q7 : w7.heap[W.heap.size]? = _ := keep_obj hb5 (heap_alloc_new W.drew _); have Q7 := Lib.hid q7; clear q7 hb5 ht5)
             | clear hb5 ht5)
        | (go_at_call 34; refine (fail_two (by first | exact H7.out | exact H7.out.below (al _ _)) (HT.out _ (by first | exact HB7.out | exact ba1 (b := 0) HB7.out)) (by first | exact HL7.out | exact lif_al HL7.out)).mono ?_; rintro e w8 ⟨SZ, n2, sc2, FZ, m2, fc2, AD, cd, rfl, hl6, hd6, hb6⟩; have s8 := keep2 hb6 (by first | exact s7 | exact keep2 (al _ _) s7); have z8 : gy < w8.heap.size := (by have := hb6.size; first | omega | (simp at this; omega)); have HB8 := Lib.hid (blw (by first | exact HB7.out | exact ba1 (b := 0) HB7.out) hb6); have HI8 := Lib.hid (show Ints w8 A4 c4 [0] from by first | exact (HI7.out.below hb6) | exact ((HI7.out.below (al _ _)).below hb6)); have HY8 := Lib.hid hl6; have HD8 := Lib.hid hd6; skip
           first
             | (have q8 := keep_obj hb6 Q7.out; have r0 := (Dag.blk_cell q8 0).trans rfl; have r1 := (Dag.blk_cell q8 1).trans rfl; have rf0 := Dag.blk_frozen q8 0; have rf1 := Dag.blk_frozen q8 1; have Q8 := Lib.hid q8; clear q8 hl6 hb6 hd6)
             | (have q8 := keep_obj hb6 (heap_alloc_new w7 _); have r0 := (Dag.blk_cell q8 0).trans rfl; have r1 := (Dag.blk_cell q8 1).trans rfl; have rf0 := Dag.blk_frozen q8 0; have rf1 := Dag.blk_frozen q8 1; have Q8 := Lib.hid q8; clear q8 hl6 hb6 hd6)
             | clear hl6 hb6 hd6))
    all_goals show K2 _ _
    all_goals first
      | exact REST2 _ _ _ _ _ _ _ _ _ _ _ _ (heap_alloc_new w8 _) (ba1 (b := 0) HB8.out) (HI8.out.below (al _ _)) (HD8.out.below (al _ _)) (lif_al HY8.out)
      | exact REST2 _ _ _ _ _ _ _ _ _ _ _ _ (store2 Q8.out _ _) ((onl2 w8 _ _ _).below HB8.out HB7.out.size) (ints_onl (onl2 w8 _ _ _) Q8.out HI8.out) (ints_onl (onl2 w8 _ _ _) Q8.out HD8.out) (lif_onl (onl2 w8 _ _ _) Q8.out HY8.out)
      | exact REST2 _ _ _ _ _ _ _ _ _ _ _ _ (store2 Q8.out _ _) ((onl2 w8 _ _ _).below HB8.out HBy.out.size) (ints_onl (onl2 w8 _ _ _) Q8.out HI8.out) (ints_onl (onl2 w8 _ _ _) Q8.out HD8.out) (lif_onl (onl2 w8 _ _ _) Q8.out HY8.out)
  clear hK
  go_region_held3 (fun (W : World) => W.cell? ⟨gx, 0, none⟩ = some (.slice SA n sc) ∧ W.cell? ⟨gx, 1, none⟩ = some (.slice FA m fc))
    (first | exact s6 | exact s5 | exact s4 | exact keep2 (al _ _) s6 | exact keep2 (al _ _) s5 | exact keep2 (al _ _) s4 | exact set2_keep s6 (by omega) | exact set2_keep (keep2 (al _ _) s6) (by omega))
    (first
      | (go_at_call 33; refine (H2.out _).mono ?_; rintro e w5 ⟨A5, c5, rfl, ht5, hb5⟩; have s5 := keep2 hb5 (by first | exact s4 | exact keep2 (al _ _) s4); have z5 : gx < w5.heap.size := (by have := hb5.size; first | omega | (simp at this; omega)); have HB5 := Lib.hid (blw (by first | exact bd HB4.out | exact ba1d (b := 0) HB4.out) hb5); have HL5 := Lib.hid (show Lif w5 SA n sc FA m fc [0, 0] [0, 0] from (by first | exact (lif_dr HL4.out).below hb5 | exact (lif_al (lif_dr HL4.out)).below hb5)); have H5 := Lib.hid ht5; have HI5 := Lib.hid (show Ints w5 A4 c4 [0] from by first | exact (id_ HI4.out).below hb5 | exact ((id_ HI4.out).below (al _ _)).below hb5)
         first
           | (have q5 : w5.heap[w4.heap.size]? = _ := keep_obj hb5 (heap_alloc_new w4.drew _); have Q5 := Lib.hid q5; clear q5 hb5 ht5)
           | clear hb5 ht5)
      | (go_at_call 30; refine (start_two (by first | exact H5.out | exact H5.out.below (al _ _)) (HT.out _ (by first | exact HB5.out | exact ba1 (b := 0) HB5.out)) (by first | exact HL5.out | exact lif_al HL5.out)).mono ?_; rintro e w6 ⟨SB, n', sc', FB, m', fc', rfl, hl6, hb6⟩; have s6 := keep2 hb6 (by first | exact s5 | exact keep2 (al _ _) s5); have z6 : gx < w6.heap.size := (by have := hb6.size; first | omega | (simp at this; omega)); have HB6 := Lib.hid (blw (by first | exact HB5.out | exact ba1 (b := 0) HB5.out) hb6); have HI6 := Lib.hid (show Ints w6 A4 c4 [0] from by first | exact (HI5.out.below hb6) | exact ((HI5.out.below (al _ _)).below hb6)); have HY6 := Lib.hid hl6; skip
         first
           | (have q6 := keep_obj hb6 Q5.out; have r0 := (Dag.blk_cell q6 0).trans rfl; have r1 := (Dag.blk_cell q6 1).trans rfl; have rf0 := Dag.blk_frozen q6 0; have rf1 := Dag.blk_frozen q6 1; have Q6 := Lib.hid q6; clear q6 hl6 hb6)
           | (have q6 := keep_obj hb6 (heap_alloc_new w5 _); have r0 := (Dag.blk_cell q6 0).trans rfl; have r1 := (Dag.blk_cell q6 1).trans rfl; have rf0 := Dag.blk_frozen q6 0; have rf1 := Dag.blk_frozen q6 1; have Q6 := Lib.hid q6; clear q6 hl6 hb6)
           | clear hl6 hb6))
  all_goals show K _ _
  all_goals first
    | exact REST _ _ _ _ _ _ _ _ _ _ (heap_alloc_new w6 _) (ba1 (b := 0) HB6.out) (HI6.out.below (al _ _)) (lif_al HY6.out)
    | exact REST _ _ _ _ _ _ _ _ _ _ (store2 Q6.out _ _) ((onl2 w6 _ _ _).below HB6.out HB5.out.size) (ints_onl (onl2 w6 _ _ _) Q6.out HI6.out) (lif_onl (onl2 w6 _ _ _) Q6.out HY6.out)
    | exact REST _ _ _ _ _ _ _ _ _ _ (store2 Q6.out _ _) ((onl2 w6 _ _ _).below HB6.out HB4.out.size) (ints_onl (onl2 w6 _ _ _) Q6.out HI6.out) (lif_onl (onl2 w6 _ _ _) Q6.out HY6.out)
end Go.Proofs.YtgejonmjmieglaaDoor.Lf

