/- RankDone: for any workflow and any number, the law returns true, and all read afterwards as before. The library's and the program's tables are as the card ties them. -/
import Derived.Test.YtaiolhanbjndcaaDoorRows
import Derived.Test.YtaiolhanbjndcaaDoorCards
import Derived.Test.YtaiolhanbjndcaaDoorTie
import Derived.Test.YtaiolhanbjndcaaDoorRnkF
import Derived.Test.YtaiolhanbjndcaaDoorMTab
import Derived.Test.YtaiolhanbjndcaaDoorRnkDon
import Derived.WalkKit
import Derived.ProofKit
import Derived.OpenShut
import Derived.ShutString
import Derived.Deep.RegionHeld3
import Derived.ChangeOld
import Derived.Below
import Derived.SevenTiedAt
namespace Go.Proofs.YtaiolhanbjndcaaDoor
open Go.ChangeShapes Go.WideShapes Go.ChangeAt Go.RowKit Go.Lib
open Go.ChangeMaps (open_string shut_string)
open Dag (Ints num)
set_option linter.unusedVariables false
set_option maxRecDepth 100000

theorem u8_bd {m : Int} (h : (Lit.int .u8 m).wf = true) : 0 ≤ m ∧ m < 256 := by
  have := h
  simp [Lit.wf] at this
  rw [show IntKind.u8.min = 0 from rfl, show IntKind.u8.max = 255 from rfl] at this
  omega
open Rdn (doneT doneF done_facts done_err check_done RowT Tasks.list tkC tkC_len tkC_one flat_one flat_split TaskA)
theorem boolI : (Tryd.prog.info? 4).map (fun i => (i.zero, i.size, i.bytes)) = some (some (.bool false), 1, 1) := by kernel_rfl
theorem wpList_doneT {w : World} {ops : Array Oper} {rest : List Oper} {op : Oper} {a : Act} {Q : Exit → Act → World → Prop} (hgd : op.guard = none) (x y : Operand) (ho : op.op = .store 4 x y)
    (g c : Nat) (L : List TaskA) (k : Nat) (t0 : TaskA) (o : Nat) (hx : a.eval x = .pointer (some ⟨g, o, none⟩)) (hok : o = k * 6 + 4) (hy : a.eval y = .bool true) (hr : RowT w g c L) (hk : L[k]? = some t0)
    (h : ∀ w', RowT w' g c (L.set k (doneT t0.1, t0.2)) → (∀ base, base ≤ g → Below base w w') → wpList Tryd.prog ops Q rest (a.put op.dst undef) w') : wpList Tryd.prog ops Q (op :: rest) a w := by
  subst hok
  obtain ⟨i0, hi0, hz0, hz1, hz2⟩ := info_parts boolI
  obtain ⟨cur, h1, h2, h3⟩ := hr.blk
  have hkl := (List.getElem?_eq_some_iff.1 hk).1
  have hc := hr.cap
  have hcell : (w.cell? ⟨g, k * 6 + 4, none⟩).isSome = true := by rw [Dag.blk_cell h1, Array.getElem?_eq_getElem (by omega)]; rfl
  have hs : (storeVar 4 ⟨g, k * 6 + 4, none⟩ (.bool true)).run Tryd.prog w = .ok () (w.setCell ⟨g, k * 6 + 4, none⟩ (.bool true)) := by
    have hrn := run_storeCells_cells (P := Tryd.prog) g (k * 6 + 4) [.bool true] 0 w (fun j hj => by obtain rfl : j = 0 := (by simpa using hj); simpa using hcell) (fun j hj => Dag.blk_frozen h1 _) (fun v hv => by simp only [List.mem_singleton] at hv; subst hv; rfl)
    simp only [Nat.add_zero] at hrn
    simp only [storeVar, sizeOf, typeInfo, Value.cells, World.setCells] at hrn ⊢
    simp [hi0, hz1, hrn]
  refine wpList_plain hgd fun _ hK => ?_
  unfold Oper.wp execOp
  simp only [ho, hx, hy, Instr.storeAt, Instr.sureAddr, Sem.run_bind, Sem.run_pure, Result.andThen_ok, hs]
  exact hK _ _ (h _ (hr.done hk) fun base hb => ⟨rfl, rfl, rfl, by simp [World.setCell], fun i hi => Dag.blk_other (by omega)⟩)
set_option maxHeartbeats 3200000 in
theorem walk_RankDone (w : World) (hT : Tb3 w) (f : FlowD) (A : Option Addr) (c : Nat) (h : Tasks w A c f.tasks) (hs : Small f) (m : Int) (hw1 : (Lit.int .u8 m).wf = true) :
    Calls Tryd.prog 5 #[.agg #[.string (sb f.name), .int .i64 f.deadline, .int .i64 f.priority, .slice A f.tasks.length c], .int .u8 m] w fun e w' => e = .returned (.bool true) ∧ Below w.heap.size w w' := by
  have hk := fun W (hW : Below w.heap.size w W) => known7_any W (hT.below hW)
  have hl := fun W (hW : Below w.heap.size w W) => long7_any f A c W (h.below hW) hs
  have HK := Lib.hid hk
  clear hk
  cases hlong : longD f
  case true =>
    rw [hlong] at hl
    have HL := Lib.hid hl
    clear hl hw1
    go_enter Tryd.func5, Tryd.ntmps5
    go_wp2_with fail
    refine (HL.out _ (al _ _)).mono ?_
    rintro e w1 ⟨rfl, hb1⟩
    have HB1 := Lib.hid (blw (al w (flowO f A c)) hb1)
    clear hb1
    go_wp2_with fail
    refine (HK.out _ HB1.out).mono ?_
    rintro e w2 ⟨rfl, hb2⟩
    go_wp2
    go_ret
    exact ⟨rfl, blw HB1.out hb2⟩
  rw [hlong] at hl
  have HL := Lib.hid hl
  have hlen := (longD_no hlong).1
  have HFL := Lib.hid fun W (hW : Below w.heap.size w W) => fla_of7 (h.below hW) (hT.below hW) hlong
  have HLO := Lib.hid hlong
  have hm := u8_bd hw1
  have H := Lib.hid h
  have hnl := h.lenI
  obtain ⟨L, hL1, hL2, hL3⟩ := Rdn.Tasks.list h
  have C1 := Lib.hid fun W (hW : Below w.heap.size w W) => up_any f A c W (HFL.out W hW)
  unfold RetU at C1
  have HTB := Lib.hid fun W (hW : Below w.heap.size w W) => hT.below hW
  clear hl h hT hs hw1
  go_enter Tryd.func5, Tryd.ntmps5
  go_wp2_with fail
  refine (HL.out _ (al _ _)).mono ?_
  rintro e w1 ⟨rfl, hb1⟩
  have HB1 := Lib.hid (blw (al w (flowO f A c)) hb1)
  have HO1 : Hid (w1.heap[w.heap.size]? = some (flowO f A c)) := Lib.hid ((hb1.block _ (by simp)).trans (heap_alloc_new w _))
  clear hb1
  obtain ⟨p0, p1, p2, p3, hp⟩ := flowO_cells HO1.out
  by_cases hn0 : f.tasks.length = 0
  · have z0 : ((f.tasks.length : Int) == 0) = true := by simp [hn0]
    clear hL1 hL2 hL3 hn0
    go_wp2_with fail
    refine (HK.out _ HB1.out).mono ?_
    rintro e wk ⟨rfl, hbk⟩
    go_wp2
    go_ret
    exact ⟨rfl, blw HB1.out hbk⟩
  have z0 : ((f.tasks.length : Int) == 0) = false := beq_eq_false_iff_ne.2 (by omega)
  have hLn : L.length = f.tasks.length := by rw [← hL1, List.length_map]
  obtain ⟨x0, hx0⟩ : ∃ x, L[0]? = some x := ⟨_, List.getElem?_eq_getElem (by omega)⟩
  obtain ⟨b, off, eA, _⟩ := hL3 0 x0 hx0
  subst eA
  have hS : ∀ j u, (flat tkC L)[j]? = some u → w.cell? ((⟨b, off, none⟩ : Addr).add j) = some u := fun j u hu => by
    obtain ⟨q, i, y, e, hi, hy, hu2⟩ := flat_split tkC_len (by decide) L j u hu
    obtain ⟨b2, off2, ea, hcell⟩ := hL3 q y hy
    injection ea with ea
    injection ea with e1 e2
    subst e1 e2
    rw [Go.WideShapes.add_plain, e, ← Nat.add_assoc]
    exact hcell i u hu2
  have hfl : (flat tkC L).length = f.tasks.length * 6 := by rw [flat_len tkC_len, hLn]
  have HS := Lib.hid hS; have HFLL := Lib.hid hfl; have HL1 := Lib.hid hL1; have HL2 := Lib.hid hL2; have HLN := Lib.hid hLn; have HN0 := Lib.hid hn0
  clear hS hfl hL1 hL2 hL3 hLn hx0 hn0
  go_wp2_with fail
  refine (C1.out _ HB1.out).mono ?_
  rintro e w2 ⟨B1, d1, rfl, hi, hb⟩
  have HB2 := Lib.hid (blw HB1.out hb)
  have I1 := Lib.hid hi
  have HO2 : Hid (w2.heap[w.heap.size]? = some (flowO f (some ⟨b, off, none⟩) c)) := Lib.hid ((hb.block _ (Dag.blk_lt HO1.out)).trans HO1.out)
  clear hb p0 p1 p2 p3 hp HO1 hi
  obtain ⟨p0, p1, p2, p3, hp⟩ := flowO_cells HO2.out
  obtain ⟨i0, hi0, hz0, hz1, hz2⟩ := info_parts info_task
  obtain ⟨k, hk⟩ : ∃ k : Nat, m % (f.tasks.length : Int) = (k : Int) := ⟨(m % (f.tasks.length : Int)).toNat, (Int.toNat_of_nonneg (Int.emod_nonneg _ (by have := HN0.out; omega))).symm⟩
  have hkn : k < f.tasks.length := by have := Int.emod_lt_of_pos m (show (0 : Int) < f.tasks.length by have := HN0.out; omega); omega
  obtain ⟨x1, hx1⟩ : ∃ x, L[k]? = some x := ⟨_, List.getElem?_eq_getElem (by rw [HLN.out]; exact hkn)⟩
  have HX1 := Lib.hid hx1
  have hn1 : ¬ f.tasks = [] := fun e => HN0.out (by rw [e]; rfl)
  have hn2 : ¬ (f.tasks.length : Int) = 0 := by have := HN0.out; omega
  clear hx1
  go_wp2_with (first
     | (at_builtin; refine wpList_append_own_at _ rfl _ _ 22 rfl w2.heap.size 32 i0 (.agg #[.string ⟨#[]⟩, .int .i64 0, .int .i64 0, .int .i64 0, .bool false, .slice none 0 0]) 6 72 Tryd.underlying22 hi0 hz0 hz1 hz2 rfl (by decide) (.slice none 0 0) 0 [] rfl ⟨rfl, Or.inl ⟨rfl, rfl⟩⟩ ⟨b, off, none⟩ f.tasks.length c (flat tkC L) rfl (by rw [HFLL.out]) (fun j u hu => by have := HS.out j u hu; exact (HB2.out.cell (World.block_lt_of_cell? w _ this)).trans this) (flat_one tkC_one L) (by simp only [maxLen]; omega) (by omega) (Nat.le_refl _) ?_; intro v9 w9 ho9 hg9 _ hb9; obtain ⟨A9, c9, rfl⟩ : ∃ A9 c9, v9 = .slice A9 (0 + f.tasks.length) c9 := (by rcases ho9.2 with ⟨hv, h0⟩ | ⟨g2, cap, cur, hv, _⟩; exact ⟨none, 0, by rw [hv, h0]⟩; exact ⟨_, _, hv⟩); rw [Nat.zero_add] at ho9 ⊢; have HO9 := Lib.hid ho9; have HB9 : Hid (Below w2.heap.size w2 w9) := Lib.hid ((Below.refl _ _).grown hg9 (Nat.le_refl _) (fun k e => by cases e)); obtain ⟨g, eg, hgb, hrow⟩ := RowT.of_own HLN.out (Nat.pos_of_ne_zero HN0.out) HO9.out; subst eg; have HRW := Lib.hid hrow; have HGB := Lib.hid hgb; clear ho9 hg9 hb9 hrow hgb)
     | (refine wpList_doneT rfl _ _ rfl g c9 L k x1 (k * 6 + 4) (by simp [Act.eval]) rfl (by simp [Act.eval]) HRW.out HX1.out ?_; intro w10 hr10 hb10; have HR10 := Lib.hid hr10; have HB10 := Lib.hid (HB9.out.trans (hb10 _ HGB.out)); clear hr10 hb10; have HO10 : Hid (w10.heap[w.heap.size]? = some (flowO f (some ⟨b, off, none⟩) c)) := Lib.hid ((HB10.out.block _ (Dag.blk_lt HO2.out)).trans HO2.out); clear p0 p1 p2 p3 hp; obtain ⟨p0, p1, p2, p3, hp⟩ := flowO_cells HO10.out))
  have ht1 : f.tasks[k]? = some x1.1 := by rw [← HL1.out, List.getElem?_map, HX1.out]; rfl
  have hset : (L.set k (doneT x1.1, x1.2)).map Prod.fst = f.tasks.set k (doneT x1.1) := by rw [← HL1.out, List.map_set]
  have hdl : (doneF f k x1.1).tasks.length = f.tasks.length := by simp [doneF]
  have hb11 : Below w10.heap.size w10 (w10.alloc (.cells #[.string (sb f.name), .int .i64 f.deadline, .int .i64 f.priority, .slice (some ⟨g, 0, none⟩) f.tasks.length c9] 24)) := al _ _
  have hr11 := HR10.out.below hb11
  have hbw : Below w.heap.size w (w10.alloc (.cells #[.string (sb f.name), .int .i64 f.deadline, .int .i64 f.priority, .slice (some ⟨g, 0, none⟩) f.tasks.length c9] 24)) := blw (blw HB2.out HB10.out) hb11
  have hnm := longD_names hlong
  have htk : Tasks (w10.alloc (.cells #[.string (sb f.name), .int .i64 f.deadline, .int .i64 f.priority, .slice (some ⟨g, 0, none⟩) f.tasks.length c9] 24)) (some ⟨g, 0, none⟩) c9 (doneF f k x1.1).tasks := hr11.tasks hset (fun x hx => by
    rcases List.mem_or_eq_of_mem_set hx with q | q
    · exact (HL2.out x q).below hbw
    · subst q; exact (HL2.out x1 (List.mem_of_getElem? HX1.out)).below hbw) (fun t ht => by
    rcases List.mem_or_eq_of_mem_set ht with q | q
    · have := (hnm.2 t q).1; simp only [maxLen]; omega
    · subst q; have := (hnm.2 x1.1 (List.mem_of_getElem? ht1)).1; simp only [maxLen]; show x1.1.name.length ≤ _; omega)
  have hfl2 : FlA (w10.alloc (.cells #[.string (sb f.name), .int .i64 f.deadline, .int .i64 f.priority, .slice (some ⟨g, 0, none⟩) f.tasks.length c9] 24)) (doneF f k x1.1) (some ⟨g, 0, none⟩) c9 := ⟨htk, HTB.out _ hbw, (HFL.out w (Below.refl _ _)).nm, fun t ht => by
    rcases List.mem_or_eq_of_mem_set ht with q | q
    · exact (HFL.out w (Below.refl _ _)).nms t q
    · subst q; exact (HFL.out w (Below.refl _ _)).nms x1.1 (List.mem_of_getElem? ht1), by rw [hdl]; exact hlen, fun t ht => by
    rcases List.mem_or_eq_of_mem_set ht with q | q
    · exact (HFL.out w (Below.refl _ _)).aft t q
    · subst q; exact (HFL.out w (Below.refl _ _)).aft x1.1 (List.mem_of_getElem? ht1)⟩
  have hup := up_any (doneF f k x1.1) (some ⟨g, 0, none⟩) c9 _ hfl2
  rw [hdl] at hup
  unfold RetU at hup
  have HCK := Lib.hid fun (h : rankE f (upD f.tasks) = 0) => (rank_yes h).1
  have hde := fun h => done_err (f := f) (k := k) (t := x1.1) ht1 h
  have hdf := fun h => done_facts (f := f) (k := k) (t := x1.1) ht1 h
  have hx0v : rankE f (upD f.tasks) = 0 → (rankV f (upD f.tasks)).length = f.tasks.length := fun h => by unfold rankV numsU; rw [if_pos h]; simp
  obtain ⟨xs, hxs⟩ : ∃ v, rankV f (upD f.tasks) = v := ⟨_, rfl⟩
  obtain ⟨e0, he0⟩ : ∃ v, rankE f (upD f.tasks) = v := ⟨_, rfl⟩
  obtain ⟨ys, hys⟩ : ∃ v, rankV (doneF f k x1.1) (upD (doneF f k x1.1).tasks) = v := ⟨_, rfl⟩
  obtain ⟨e1, he1⟩ : ∃ v, rankE (doneF f k x1.1) (upD (doneF f k x1.1).tasks) = v := ⟨_, rfl⟩
  have HI1x := I1
  rw [hxs] at HI1x
  rw [hys, he1] at hup
  rw [he0, he1] at hde
  rw [he0] at HCK
  rw [he0, he1, hys, hxs] at hdf
  rw [he0, hxs] at hx0v
  rw [hxs, he0]
  have HUP := Lib.hid hup; have HDE := Lib.hid hde; have HDF := Lib.hid hdf; have HXV := Lib.hid hx0v; have HT1 := Lib.hid ht1; have HBW := Lib.hid hbw; have HR11 := Lib.hid hr11
  clear I1 hup hde hdf hx0v hfl2 htk hnm hset hdl hxs he0 hys he1 hr11
  refine HUP.out.mono ?_
  rintro e w12 ⟨B2, d2, rfl, hi2, hb12⟩
  have HI2 := Lib.hid hi2; have HI1 := Lib.hid ((HI1x.out.below (blw HB10.out hb11)).below hb12); have HBX := Lib.hid (blw HBW.out hb12); have HR12 := Lib.hid (HR11.out.below hb12)
  have HO12 : Hid (w12.heap[w.heap.size]? = some (flowO f (some ⟨b, off, none⟩) c)) := Lib.hid (((blw hb11 hb12).block _ (Dag.blk_lt HO10.out)).trans HO10.out)
  clear hi2 hb12 hb11 ht1 hbw HI1x p0 p1 p2 p3 hp HUP
  by_cases h0 : e0 = 0
  case neg =>
    have b1 : (e0 != 0) = true := by simpa using h0
    rcases HDE.out h0 with q | q
    · subst q
      have b2 : (e1 == e1) = true := by simp
      clear h0
      go_wp2_with fail
      refine (HK.out _ HBX.out).mono ?_
      rintro e wk ⟨rfl, hbk⟩
      go_wp2
      go_ret
      exact ⟨rfl, blw HBX.out hbk⟩
    · subst q
      have b2 : ((0 : Int) == e0) = false := by simpa using fun q => h0 q.symm
      clear h0
      go_wp2_with fail
      refine (HK.out _ HBX.out).mono ?_
      rintro e wk ⟨rfl, hbk⟩
      go_wp2
      go_ret
      exact ⟨rfl, blw HBX.out hbk⟩
  subst h0
  obtain ⟨g1, g2, g3⟩ := HDF.out rfl
  subst g1
  have hxl := HXV.out rfl
  rw [hxl, g2]
  have b3 : ((f.tasks.length : Int) != (f.tasks.length : Int)) = false := by simp
  have HG3 := Lib.hid g3; have HXL := Lib.hid hxl; have HYL := Lib.hid g2
  clear g3 hxl g2
  go_wp2
  go_loopw [12] (fun i wr => ∃ j : Nat, j ≤ f.tasks.length ∧ i = .int .i64 j ∧ Hid (Below w12.heap.size w12 wr)) (fun i _ => f.tasks.length - (intOf i).toNat)
  case atStart => exact ⟨0, Nat.zero_le _, rfl, Lib.hid (Below.refl _ _)⟩
  case round =>
    obtain ⟨j, hj, rfl, HB⟩ := hrel
    by_cases hjl : j < f.tasks.length
    · obtain ⟨x, hx⟩ : ∃ z, xs[j]? = some z := ⟨_, List.getElem?_eq_getElem (by rw [HXL.out]; exact hjl)⟩
      obtain ⟨y, hy⟩ : ∃ z, ys[j]? = some z := ⟨_, List.getElem?_eq_getElem (by rw [HYL.out]; exact hjl)⟩
      obtain ⟨q1, o1, e1, c1⟩ := (HI1.out.below HB.out).cells j (.int .i64 x) (by unfold Dag.ints; rw [List.getElem?_map, hx]; rfl)
      obtain ⟨q2, o2, e2, c2⟩ := (HI2.out.below HB.out).cells j (.int .i64 y) (by unfold Dag.ints; rw [List.getElem?_map, hy]; rfl)
      subst e1 e2
      have hle := (HG3.out j x y hx hy).1
      have hd : decide (x < y) = false := decide_eq_false (by omega)
      clear hx hy hle
      go_wp2_with fail
      go_quiet (fail)
      have HBN := Lib.hid (HB.out.trans ((Dag.below_drew wr nq).mono HB.out.size))
      generalize wr.drewN nq = wz at HBN ⊢
      clear c1 c2
      go_wp2
      go_roundw
      case rel => exact ⟨j + 1, by omega, by go_num, HBN⟩
      case measure => simp [intOf]; omega
    · obtain rfl : j = f.tasks.length := by omega
      obtain ⟨x, hx⟩ : ∃ z, xs[k]? = some z := ⟨_, List.getElem?_eq_getElem (by rw [HXL.out]; exact hkn)⟩
      obtain ⟨y, hy⟩ : ∃ z, ys[k]? = some z := ⟨_, List.getElem?_eq_getElem (by rw [HYL.out]; exact hkn)⟩
      obtain ⟨q1, o1, e1, cx⟩ := (HI1.out.below HB.out).cells k (.int .i64 x) (by unfold Dag.ints; rw [List.getElem?_map, hx]; rfl)
      obtain ⟨q2, o2, e2, cy⟩ := (HI2.out.below HB.out).cells k (.int .i64 y) (by unfold Dag.ints; rw [List.getElem?_map, hy]; rfl)
      subst e1 e2
      have hxy := (HG3.out k x y hx hy).2 rfl
      have hwb := nums_wgt (HCK.out (by first | rfl | trivial)) (List.mem_of_getElem? HT1.out) false
      have HW1 := Lib.hid fun (W : World) => weight_any (doneT x1.1) x1.2.1 x1.2.2 W
      rw [show wgt (doneT x1.1) = 0 from rfl] at HW1
      obtain ⟨b4, off4, A4, c4, eA, h0, h1, h2, h3, h4, h5, _⟩ := (H.out.below (blw HBX.out HB.out)).cells k x1.1 HT1.out
      injection eA with eA; injection eA with e1 e2; subst e1 e2
      have HW2 := Lib.hid fun (W : World) => weight_any x1.1 A4 c4 W
      obtain ⟨wt, hwt⟩ : ∃ z, wgt x1.1 = z := ⟨_, rfl⟩
      rw [hwt] at HW2 hxy hwb
      have hwr : IntKind.i64.wrap (x - y) = wt := by rw [hxy, IntWalk.i64_in _ (by have := hwb.1; have := hwb.2.1; unfold maxT at this; omega)]
      have bq : (wt == wt) = true := by simp
      obtain ⟨cur, hbk, hsz, hcur⟩ := (HR12.out.below HB.out).blk
      have hk' : (L.set k (doneT x1.1, x1.2))[k]? = some (doneT x1.1, x1.2) := List.getElem?_set_self (by rw [HLN.out]; exact hkn)
      have lc := fun j u (hu : (tkC (doneT x1.1, x1.2))[j]? = some u) => (show wr.cell? ⟨g, k * 6 + j, none⟩ = some u from by rw [Dag.blk_cell hbk]; exact hcur k _ hk' j u hu)
      have l0 : wr.cell? ⟨g, k * 6, none⟩ = some (.string (sb x1.1.name)) := lc 0 _ rfl
      have l1 : wr.cell? ⟨g, k * 6 + 1, none⟩ = some (.int .i64 x1.1.nodes) := lc 1 _ rfl
      have l2 : wr.cell? ⟨g, k * 6 + 2, none⟩ = some (.int .i64 x1.1.wall) := lc 2 _ rfl
      have l3 : wr.cell? ⟨g, k * 6 + 3, none⟩ = some (.int .i64 x1.1.retry) := lc 3 _ rfl
      have l4 : wr.cell? ⟨g, k * 6 + 4, none⟩ = some (.bool true) := lc 4 _ rfl
      have l5 : wr.cell? ⟨g, k * 6 + 5, none⟩ = some (.slice x1.2.1 x1.1.after.length x1.2.2) := lc 5 _ rfl
      have HO13 : Hid (wr.heap[w.heap.size]? = some (flowO f (some ⟨b, off, none⟩) c)) := Lib.hid ((HB.out.block _ (Dag.blk_lt HO12.out)).trans HO12.out)
      obtain ⟨p0, p1, p2, p3, hp⟩ := flowO_cells HO13.out
      clear hx hy hxy hwb hwt lc hk' hcur hbk hsz
      have s0 : wr.drew.cell? ⟨g, k * 6, none⟩ = some (.string (sb x1.1.name)) ∧ wr.drew.cell? ⟨g, k * 6 + 1, none⟩ = some (.int .i64 x1.1.nodes) ∧ wr.drew.cell? ⟨g, k * 6 + 2, none⟩ = some (.int .i64 x1.1.wall) ∧ wr.drew.cell? ⟨g, k * 6 + 3, none⟩ = some (.int .i64 x1.1.retry) ∧ wr.drew.cell? ⟨g, k * 6 + 4, none⟩ = some (.bool true) ∧ wr.drew.cell? ⟨g, k * 6 + 5, none⟩ = some (.slice x1.2.1 x1.1.after.length x1.2.2) ∧ wr.drew.cell? ⟨b, off + k * 6, none⟩ = some (.string (sb x1.1.name)) ∧ wr.drew.cell? ⟨b, off + k * 6 + 1, none⟩ = some (.int .i64 x1.1.nodes) ∧ wr.drew.cell? ⟨b, off + k * 6 + 2, none⟩ = some (.int .i64 x1.1.wall) ∧ wr.drew.cell? ⟨b, off + k * 6 + 3, none⟩ = some (.int .i64 x1.1.retry) ∧ wr.drew.cell? ⟨b, off + k * 6 + 4, none⟩ = some (.bool x1.1.done) ∧ wr.drew.cell? ⟨b, off + k * 6 + 5, none⟩ = some (.slice A4 x1.1.after.length c4) ∧ wr.drew.cell? ⟨w.heap.size, 3, none⟩ = some (.slice (some ⟨b, off, none⟩) f.tasks.length c) ∧ wr.drew.cell? ⟨q1, o1 + k, none⟩ = some (.int .i64 x) ∧ wr.drew.cell? ⟨q2, o2 + k, none⟩ = some (.int .i64 y) ∧ Below wr.heap.size wr wr.drew := ⟨l0, l1, l2, l3, l4, l5, h0, h1, h2, h3, h4, h5, p3, cx, cy, Dag.below_drew wr 1⟩
      clear l0 l1 l2 l3 l4 l5 h0 h1 h2 h3 h4 h5 p0 p1 p2 p3 hp cx cy
      go_wp2_with fail
      refine Ft.wp_region_R (fun (W : World) => W.cell? ⟨g, k * 6, none⟩ = some (.string (sb x1.1.name)) ∧ W.cell? ⟨g, k * 6 + 1, none⟩ = some (.int .i64 x1.1.nodes) ∧ W.cell? ⟨g, k * 6 + 2, none⟩ = some (.int .i64 x1.1.wall) ∧ W.cell? ⟨g, k * 6 + 3, none⟩ = some (.int .i64 x1.1.retry) ∧ W.cell? ⟨g, k * 6 + 4, none⟩ = some (.bool true) ∧ W.cell? ⟨g, k * 6 + 5, none⟩ = some (.slice x1.2.1 x1.1.after.length x1.2.2) ∧ W.cell? ⟨b, off + k * 6, none⟩ = some (.string (sb x1.1.name)) ∧ W.cell? ⟨b, off + k * 6 + 1, none⟩ = some (.int .i64 x1.1.nodes) ∧ W.cell? ⟨b, off + k * 6 + 2, none⟩ = some (.int .i64 x1.1.wall) ∧ W.cell? ⟨b, off + k * 6 + 3, none⟩ = some (.int .i64 x1.1.retry) ∧ W.cell? ⟨b, off + k * 6 + 4, none⟩ = some (.bool x1.1.done) ∧ W.cell? ⟨b, off + k * 6 + 5, none⟩ = some (.slice A4 x1.1.after.length c4) ∧ W.cell? ⟨w.heap.size, 3, none⟩ = some (.slice (some ⟨b, off, none⟩) f.tasks.length c) ∧ W.cell? ⟨q1, o1 + k, none⟩ = some (.int .i64 x) ∧ W.cell? ⟨q2, o2 + k, none⟩ = some (.int .i64 y) ∧ Below wr.heap.size wr W) 28 (by kernel_rfl) ?_
      refine Ft.wpAnyR_leadI (by kernel_rfl) ?hQ ?hS0 [0, 1, 2, 3] 24 _ _ (by kernel_rfl) ?_
      case hQ => intro c a d v w h; cases d <;> exact h
      case hS0 => exact s0
      iterate 4 (refine Ft.wpLeadI_read (v := ?_) _ rfl rfl (by rfl) ?_ ?_; rotate_left; (intro W hW; (try dsimp only at hW); go_simp; (try simp only [hwr, bq]); (try go_simp); (try with_reducible rfl)); try simp only [Act.put, List.setIfInBounds_toArray, List.set_cons_succ, List.set_cons_zero])
      simp only [Ft.wpLeadI]
      refine Ft.wpAnyR_one (i := 4) rfl (by kernel_rfl) ?_
      intro K1 hK1
      go_simp
      refine (HW1.out _).mono ?_
      rintro e y1 ⟨rfl, hb1⟩
      have s1 : y1.cell? ⟨g, k * 6, none⟩ = some (.string (sb x1.1.name)) ∧ y1.cell? ⟨g, k * 6 + 1, none⟩ = some (.int .i64 x1.1.nodes) ∧ y1.cell? ⟨g, k * 6 + 2, none⟩ = some (.int .i64 x1.1.wall) ∧ y1.cell? ⟨g, k * 6 + 3, none⟩ = some (.int .i64 x1.1.retry) ∧ y1.cell? ⟨g, k * 6 + 4, none⟩ = some (.bool true) ∧ y1.cell? ⟨g, k * 6 + 5, none⟩ = some (.slice x1.2.1 x1.1.after.length x1.2.2) ∧ y1.cell? ⟨b, off + k * 6, none⟩ = some (.string (sb x1.1.name)) ∧ y1.cell? ⟨b, off + k * 6 + 1, none⟩ = some (.int .i64 x1.1.nodes) ∧ y1.cell? ⟨b, off + k * 6 + 2, none⟩ = some (.int .i64 x1.1.wall) ∧ y1.cell? ⟨b, off + k * 6 + 3, none⟩ = some (.int .i64 x1.1.retry) ∧ y1.cell? ⟨b, off + k * 6 + 4, none⟩ = some (.bool x1.1.done) ∧ y1.cell? ⟨b, off + k * 6 + 5, none⟩ = some (.slice A4 x1.1.after.length c4) ∧ y1.cell? ⟨w.heap.size, 3, none⟩ = some (.slice (some ⟨b, off, none⟩) f.tasks.length c) ∧ y1.cell? ⟨q1, o1 + k, none⟩ = some (.int .i64 x) ∧ y1.cell? ⟨q2, o2 + k, none⟩ = some (.int .i64 y) ∧ Below wr.heap.size wr y1 := ⟨Sri.kp hb1 s0.1, Sri.kp hb1 s0.2.1, Sri.kp hb1 s0.2.2.1, Sri.kp hb1 s0.2.2.2.1, Sri.kp hb1 s0.2.2.2.2.1, Sri.kp hb1 s0.2.2.2.2.2.1, Sri.kp hb1 s0.2.2.2.2.2.2.1, Sri.kp hb1 s0.2.2.2.2.2.2.2.1, Sri.kp hb1 s0.2.2.2.2.2.2.2.2.1, Sri.kp hb1 s0.2.2.2.2.2.2.2.2.2.1, Sri.kp hb1 s0.2.2.2.2.2.2.2.2.2.2.1, Sri.kp hb1 s0.2.2.2.2.2.2.2.2.2.2.2.1, Sri.kp hb1 s0.2.2.2.2.2.2.2.2.2.2.2.2.1, Sri.kp hb1 s0.2.2.2.2.2.2.2.2.2.2.2.2.2.1, Sri.kp hb1 s0.2.2.2.2.2.2.2.2.2.2.2.2.2.2.1, blw s0.2.2.2.2.2.2.2.2.2.2.2.2.2.2.2 hb1⟩
      clear hb1
      refine hK1.out _ _ s1 ?_
      clear hK1 K1
      refine Ft.wpAnyR_leadI (by kernel_rfl) ?hQ ?hS0 [5, 6, 7, 8, 9, 10, 11, 12, 13, 14, 15, 16, 17, 18, 19, 20] 7 _ _ (by kernel_rfl) ?_
      case hQ => intro c a d v w h; cases d <;> exact h
      case hS0 => exact s1
      iterate 16 (refine Ft.wpLeadI_read (v := ?_) _ rfl rfl (by rfl) ?_ ?_; rotate_left; (intro W hW; (try dsimp only at hW); go_simp; (try simp only [hwr, bq]); (try go_simp); (try with_reducible rfl)); try simp only [Act.put, List.setIfInBounds_toArray, List.set_cons_succ, List.set_cons_zero])
      simp only [Ft.wpLeadI]
      refine Ft.wpAnyR_one (i := 21) rfl (by kernel_rfl) ?_
      intro K2 hK2
      go_simp
      refine (HW2.out _).mono ?_
      rintro e y2 ⟨rfl, hb2⟩
      have s2 : y2.cell? ⟨g, k * 6, none⟩ = some (.string (sb x1.1.name)) ∧ y2.cell? ⟨g, k * 6 + 1, none⟩ = some (.int .i64 x1.1.nodes) ∧ y2.cell? ⟨g, k * 6 + 2, none⟩ = some (.int .i64 x1.1.wall) ∧ y2.cell? ⟨g, k * 6 + 3, none⟩ = some (.int .i64 x1.1.retry) ∧ y2.cell? ⟨g, k * 6 + 4, none⟩ = some (.bool true) ∧ y2.cell? ⟨g, k * 6 + 5, none⟩ = some (.slice x1.2.1 x1.1.after.length x1.2.2) ∧ y2.cell? ⟨b, off + k * 6, none⟩ = some (.string (sb x1.1.name)) ∧ y2.cell? ⟨b, off + k * 6 + 1, none⟩ = some (.int .i64 x1.1.nodes) ∧ y2.cell? ⟨b, off + k * 6 + 2, none⟩ = some (.int .i64 x1.1.wall) ∧ y2.cell? ⟨b, off + k * 6 + 3, none⟩ = some (.int .i64 x1.1.retry) ∧ y2.cell? ⟨b, off + k * 6 + 4, none⟩ = some (.bool x1.1.done) ∧ y2.cell? ⟨b, off + k * 6 + 5, none⟩ = some (.slice A4 x1.1.after.length c4) ∧ y2.cell? ⟨w.heap.size, 3, none⟩ = some (.slice (some ⟨b, off, none⟩) f.tasks.length c) ∧ y2.cell? ⟨q1, o1 + k, none⟩ = some (.int .i64 x) ∧ y2.cell? ⟨q2, o2 + k, none⟩ = some (.int .i64 y) ∧ Below wr.heap.size wr y2 := ⟨Sri.kp hb2 s1.1, Sri.kp hb2 s1.2.1, Sri.kp hb2 s1.2.2.1, Sri.kp hb2 s1.2.2.2.1, Sri.kp hb2 s1.2.2.2.2.1, Sri.kp hb2 s1.2.2.2.2.2.1, Sri.kp hb2 s1.2.2.2.2.2.2.1, Sri.kp hb2 s1.2.2.2.2.2.2.2.1, Sri.kp hb2 s1.2.2.2.2.2.2.2.2.1, Sri.kp hb2 s1.2.2.2.2.2.2.2.2.2.1, Sri.kp hb2 s1.2.2.2.2.2.2.2.2.2.2.1, Sri.kp hb2 s1.2.2.2.2.2.2.2.2.2.2.2.1, Sri.kp hb2 s1.2.2.2.2.2.2.2.2.2.2.2.2.1, Sri.kp hb2 s1.2.2.2.2.2.2.2.2.2.2.2.2.2.1, Sri.kp hb2 s1.2.2.2.2.2.2.2.2.2.2.2.2.2.2.1, blw s1.2.2.2.2.2.2.2.2.2.2.2.2.2.2.2 hb2⟩
      clear hb2
      refine hK2.out _ _ s2 ?_
      clear hK2 K2
      refine Ft.wpAnyR_leadI (by kernel_rfl) ?hQ ?hS0 [22, 23, 24] 3 _ _ (by kernel_rfl) ?_
      case hQ => intro c a d v w h; cases d <;> exact h
      case hS0 => exact s2
      iterate 3 (refine Ft.wpLeadI_read (v := ?_) _ rfl rfl (by rfl) ?_ ?_; rotate_left; (intro W hW; (try dsimp only at hW); go_simp; (try simp only [hwr, bq]); (try go_simp); (try with_reducible rfl)); try simp only [Act.put, List.setIfInBounds_toArray, List.set_cons_succ, List.set_cons_zero])
      simp only [Ft.wpLeadI]
      refine Ft.wpAnyR_one (i := 25) rfl (by kernel_rfl) ?_
      intro K3 hK3
      go_simp
      refine (HK.out _ (blw (blw HBX.out HB.out) s2.2.2.2.2.2.2.2.2.2.2.2.2.2.2.2)).mono ?_
      rintro e y3 ⟨rfl, hb3⟩
      have s3 : y3.cell? ⟨g, k * 6, none⟩ = some (.string (sb x1.1.name)) ∧ y3.cell? ⟨g, k * 6 + 1, none⟩ = some (.int .i64 x1.1.nodes) ∧ y3.cell? ⟨g, k * 6 + 2, none⟩ = some (.int .i64 x1.1.wall) ∧ y3.cell? ⟨g, k * 6 + 3, none⟩ = some (.int .i64 x1.1.retry) ∧ y3.cell? ⟨g, k * 6 + 4, none⟩ = some (.bool true) ∧ y3.cell? ⟨g, k * 6 + 5, none⟩ = some (.slice x1.2.1 x1.1.after.length x1.2.2) ∧ y3.cell? ⟨b, off + k * 6, none⟩ = some (.string (sb x1.1.name)) ∧ y3.cell? ⟨b, off + k * 6 + 1, none⟩ = some (.int .i64 x1.1.nodes) ∧ y3.cell? ⟨b, off + k * 6 + 2, none⟩ = some (.int .i64 x1.1.wall) ∧ y3.cell? ⟨b, off + k * 6 + 3, none⟩ = some (.int .i64 x1.1.retry) ∧ y3.cell? ⟨b, off + k * 6 + 4, none⟩ = some (.bool x1.1.done) ∧ y3.cell? ⟨b, off + k * 6 + 5, none⟩ = some (.slice A4 x1.1.after.length c4) ∧ y3.cell? ⟨w.heap.size, 3, none⟩ = some (.slice (some ⟨b, off, none⟩) f.tasks.length c) ∧ y3.cell? ⟨q1, o1 + k, none⟩ = some (.int .i64 x) ∧ y3.cell? ⟨q2, o2 + k, none⟩ = some (.int .i64 y) ∧ Below wr.heap.size wr y3 := ⟨Sri.kp hb3 s2.1, Sri.kp hb3 s2.2.1, Sri.kp hb3 s2.2.2.1, Sri.kp hb3 s2.2.2.2.1, Sri.kp hb3 s2.2.2.2.2.1, Sri.kp hb3 s2.2.2.2.2.2.1, Sri.kp hb3 s2.2.2.2.2.2.2.1, Sri.kp hb3 s2.2.2.2.2.2.2.2.1, Sri.kp hb3 s2.2.2.2.2.2.2.2.2.1, Sri.kp hb3 s2.2.2.2.2.2.2.2.2.2.1, Sri.kp hb3 s2.2.2.2.2.2.2.2.2.2.2.1, Sri.kp hb3 s2.2.2.2.2.2.2.2.2.2.2.2.1, Sri.kp hb3 s2.2.2.2.2.2.2.2.2.2.2.2.2.1, Sri.kp hb3 s2.2.2.2.2.2.2.2.2.2.2.2.2.2.1, Sri.kp hb3 s2.2.2.2.2.2.2.2.2.2.2.2.2.2.2.1, blw s2.2.2.2.2.2.2.2.2.2.2.2.2.2.2.2 hb3⟩
      clear hb3
      refine hK3.out _ _ s3 ?_
      clear hK3 K3
      refine Ft.wpAnyR_leadI (by kernel_rfl) ?hQ ?hS0 [26, 27] 0 _ _ (by kernel_rfl) ?_
      case hQ => intro c a d v w h; cases d <;> exact h
      case hS0 => exact s3
      iterate 2 (refine Ft.wpLeadI_read (v := ?_) _ rfl rfl (by rfl) ?_ ?_; rotate_left; (intro W hW; (try dsimp only at hW); go_simp; (try simp only [hwr, bq]); (try go_simp); (try with_reducible rfl)); try simp only [Act.put, List.setIfInBounds_toArray, List.set_cons_succ, List.set_cons_zero])
      simp only [Ft.wpLeadI]
      refine ⟨by kernel_rfl, ?_⟩
      have HBE := Lib.hid (blw (blw HBX.out HB.out) s3.2.2.2.2.2.2.2.2.2.2.2.2.2.2.2)
      clear s3
      go_wp2
      go_ret
      exact ⟨rfl, HBE.out⟩

namespace rankDone
theorem own : ownKnob Tryd.prog.godebug = none := by kernel_rfl
theorem laidOut : laidOutB Tryd.prog = true := by kernel_rfl
set_option maxRecDepth 100000 in
theorem lifted (os : Os) (started : os.Started) (H : Type) (enc : TypeId × Value → H) :
    ReturnsInHanded {} Tryd.checked os 5 .any (fun w args => (Rows.rankDoneSpec.pre enc Tryd.prog Tryd.f5 [] false w args ∧ laidMetH Tryd.prog laid7 w) ∧ sizedMet enc Tryd.prog Tryd.f5 (OpenSpec.ofChange Rows.rankDoneSpec) false w args)
      (Rows.rankDoneSpec.post enc Tryd.prog Tryd.f5 false true false false) := by
  refine returnsInHanded_of_change_and (C := Tryd.checked) (X := fun w _ => laidMetH Tryd.prog laid7 w) (fun _ _ _ hh h => h.of_heap hh) own started (by kernel_rfl) Tryd.func5
    (ChangeSpec.witness_shaped (enc := enc) (C := Tryd.checked) (os := os) (X := fun w _ => laidMetH Tryd.prog laid7 w) false (World.laidAll Tryd.prog os laid7) #[.agg #[.string ByteArray.empty, .int .i64 0, .int .i64 0, .slice none 0 0], .int .u8 0] 8 (World.laidAll_os _ _ _)
      (World.shaped_of_ZipB (by kernel_rfl) (by kernel_rfl)) (by kernel_rfl) (by kernel_rfl) (by kernel_rfl)
      (by rw [MakeChecks.laidMetH_plain _ _ _ (by kernel_rfl)]; exact laidMet_laidAll _ (by kernel_rfl) (by kernel_rfl))) ?_
  intro W base args ds gs before hval0 hW _ hsz hL _
  have hval : ∀ (j : Nat) t v, Tryd.f5.params[j]? = some t → args[j]? = some v → Value.okWide Tryd.prog W .any base t v := hval0
  have hW' := hW
  obtain ⟨p, q, hA0, hV, rfl, _, _⟩ := hW
  have hA : DataW.TrodAll enc Tryd.prog W 0 (fun _ => true) true Tryd.f5.params.toList args.toList ds p := hA0
  rw [Tryd.params5] at hA hval
  obtain ⟨v0, vs0, d0, ds0, p0, q0, hargs, rfl, rfl, h0, r0⟩ := trodAll_cons hA
  obtain ⟨v1, vs1, d1, ds1, p1, q1, rfl, rfl, rfl, h1, r1⟩ := trodAll_cons r0
  obtain ⟨rfl, rfl, rfl⟩ := trodAll_nil r1
  obtain rfl : args = #[v0, v1] := by cases args; simp_all
  obtain ⟨rfl, rfl⟩ := trodVars_none hV
  have k0 := h0
  have lt0 : ∀ x ∈ p0, x.block < W.heap.size := by obtain ⟨m, hm⟩ := k0; exact DataW.trod_lt m _ _ _ hm
  obtain ⟨cs0, e0, _⟩ := okWide_struct Tryd.underlying24 (hval 0 24 v0 rfl rfl)
  obtain ⟨fuel0, hf0⟩ := h0
  rw [show v0.cells.toList = cs0.toList from by rw [e0]; rfl] at hf0
  obtain ⟨z0, A0, c0, hcs0, w0, s0⟩ := flow_arg hf0
  obtain rfl : cs0 = #[.string (sb z0.name), .int .i64 z0.deadline, .int .i64 z0.priority, .slice A0 z0.tasks.length c0] := by rw [← Array.toArray_toList (xs := cs0), hcs0]
  subst e0
  have s0 := s0 (weights_at hsz (j := 0) (t := 24) rfl rfl)
  clear hf0 hcs0
  obtain ⟨a1, rfl, rfl, rfl, w1⟩ := open_int Tryd.underlying5 (hval 1 5 v1 rfl rfl) h1
  clear hA0 hval0
  rw [MakeChecks.laidMetH_plain _ _ _ (by kernel_rfl)] at hL
  refine (walk_RankDone W (tabs_of hL) z0 A0 c0 w0 s0 a1 w1).mono fun e W' ⟨he, bel⟩ => ?_
  subst he
  exact ⟨_, rfl, _, _, _, [], _, [], hW', trodAll_mk1 (shut_bool Tryd.underlying4 _), (trodAll_cons_mk (Below.trod laidOut (by kernel_rfl) (of_decide_eq_true (by kernel_rfl)) k0 bel lt0) (trodAll_cons_mk (shut_int Tryd.underlying5 w1) trodAll_mk0)), rfl, bel.frame _, fun h => by cases h⟩
theorem said : Rows.RankDoneSaid :=
  OpenClaim.holds_of_wide 5 Tryd.f5 rfl rfl rfl rfl rfl rfl rfl ⟨rfl, rfl, rfl, rfl, rfl⟩ rfl rfl rfl rfl rfl (by kernel_rfl) Tryd.func5 (by kernel_rfl)
    (of_decide_eq_true (by kernel_rfl)) (by unfold Func.isWrapper; first | (rw [if_pos (by decide +kernel)]; kernel_rfl) | (rw [if_neg (by decide +kernel)]; exact ⟨rfl, rfl⟩))
    (fun os started H enc _ => lifted os started H enc)
theorem plain (f : FuncId) (fn : Func) (hf : Tryd.pinned.checked.prog.funcNamed "timekeeper/timekeeperlaw07.RankDone" = some f) (hfn : Tryd.pinned.checked.prog.funcs[f]? = some fn) :
    false = Tryd.pinned.checked.prog.looks [] ∧ ∀ (j : Nat) t, fn.params[j]? = some t → Tryd.pinned.checked.prog.wantsStandIn t = false := by
  obtain rfl : f = 5 := Option.some.inj ((show Tryd.prog.funcNamed "timekeeper/timekeeperlaw07.RankDone" = some 5 by kernel_rfl).symm.trans hf) |>.symm
  obtain rfl : fn = Tryd.f5 := (Option.some.inj (Tryd.func5.symm.trans hfn)).symm
  refine ⟨by kernel_rfl, fun j t ht => ?_⟩
  rw [Tryd.params5] at ht
  have hm : t ∈ [24, 5] := by simpa using Array.mem_of_getElem? ht
  have hall : ([24, 5].all fun u => !Tryd.prog.wantsStandIn u) = true := by kernel_rfl
  exact (show Tryd.prog.wantsStandIn t = false by simpa using List.all_eq_true.1 hall t hm)
theorem proved : Rows.RankDoneCardSaid :=
  Claim7.holds_tied_plain_at .later [] _ _ _ _ said (fun _ h => by cases h) (by kernel_rfl) (fun _ h => by cases h) rankDone_row_tie rfl ⟨rfl, rfl⟩ (by kernel_rfl) rfl plain (by kernel_rfl)
#print axioms proved
end rankDone
end Go.Proofs.YtaiolhanbjndcaaDoor

