/- RankStands: for any workflow, the law returns true, and all read afterwards as before. The library's and the program's tables are as the card ties them. -/
import Derived.Test.YtaiolhanbjndcaaDoorRows
import Derived.Test.YtaiolhanbjndcaaDoorCards
import Derived.Test.YtaiolhanbjndcaaDoorTie
import Derived.Test.YtaiolhanbjndcaaDoorRnkF
import Derived.Test.YtaiolhanbjndcaaDoorMTab
import Derived.WalkKit
import Derived.ProofKit
import Derived.OpenShut
import Derived.ShutString
import Derived.Deep.RegionHeld3
import Derived.ChangeOld
import Derived.Below
import Derived.SevenTiedAt
namespace Go.Proofs.YtaiolhanbjndcaaDoor
open Go.ChangeShapes Go.WideShapes Go.ChangeAt Go.RowKit Go.Lib
open Go.ChangeMaps (open_string shut_string)
open Dag (Ints num)
set_option linter.unusedVariables false
set_option maxRecDepth 100000

theorem sizeI (W : World) : (sizeOf (Tryd.prog.elem 27)).run Tryd.prog W = .ok 1 W := by
  obtain ⟨i0, hi, hz0, hz1, hz2⟩ := info_parts Dag.info_int
  rw [show Tryd.prog.elem 27 = 3 from by kernel_rfl]
  simp [sizeOf, typeInfo, hi, hz1]
theorem run_cutI_h (A : Option Addr) (n c hi : Nat) (kh : IntKind) (h' : Int) (hh : h' = (hi : Int)) (h2 : hi ≤ c) (W : World) :
    (Instr.slice 27 (.slice A n c) none (some (.int kh h')) none).run Tryd.prog W = .ok (.slice A hi c) W := by
  subst hh
  rw [run_slice_h W 27 A n c (by kernel_rfl) kh hi (by omega) (by omega), sizeI]
  cases A <;> simp [Result.andThen, sliced, Addr.add]
theorem ints_take {w : World} {A : Option Addr} {c : Nat} {xs : List Int} (h : Ints w A c xs) (k : Nat) : Ints w A c (xs.take k) := by
  refine ⟨fun i u hu => h.cells i u ?_, ?_, h.top, h.nil⟩
  · unfold Dag.ints at hu ⊢
    rw [List.getElem?_map] at hu ⊢
    rw [List.getElem?_take] at hu
    split at hu
    · exact hu
    · cases hu
  · have := h.cap
    rw [Dag.ints_len] at this ⊢
    rw [List.length_take]; omega
theorem sub_split {u v : Nat} {l1 l2 : List Nat} (h : [u, v].Sublist (l1 ++ v :: l2)) (hv : v ∉ l2) (ne : u ≠ v) : u ∈ l1 := by
  obtain ⟨a, b, e, h1, h2⟩ := List.sublist_append_iff.1 h
  match a, e with
  | [], e =>
    rw [List.nil_append] at e
    rw [← e] at h2
    cases h2 with
    | cons _ h3 => exact absurd (h3.subset (by simp)) hv
    | cons_cons _ h3 => exact absurd rfl ne
  | x :: a, e =>
    rw [List.cons_append] at e
    injection e with e1 e2
    subst e1
    exact h1.subset (by simp)
theorem stand_facts {f : FlowD} (h : rankE f (upD f.tasks) = 0) : ∃ O : List Nat, orderV f = num O ∧ O.length = f.tasks.length ∧ (∀ v ∈ O, v < f.tasks.length) ∧
    (∀ (i x y : Nat), O[i]? = some y → O[i + 1]? = some x → atL (rankV f (upD f.tasks)) x ≤ atL (rankV f (upD f.tasks)) y) ∧
    (∀ (i v : Nat) (t : TaskD), O[i]? = some v → f.tasks[v]? = some t → ∀ a ∈ t.after, decide (a ∈ num (O.take i)) = true) := by
  have hc := (rank_yes h).1
  obtain ⟨hf, hV, hW⟩ := chk_facts hc
  have hor := Dag.order_ord (afterL f.tasks)
  obtain ⟨h1, h2, h3, h4⟩ := Srt.fall_all (atL (rankV f (upD f.tasks))) (Dag.order (afterL f.tasks)) hor.nodup
  have hat : ∀ v, v < f.tasks.length → atL (rankV f (upD f.tasks)) v = upD f.tasks v := fun v hv => by
    have e : rankV f (upD f.tasks) = numsU f.tasks.length (upD f.tasks) := by unfold rankV; rw [if_pos h]
    rw [e]
    exact atL_some (by unfold numsU; rw [List.getElem?_map, List.getElem?_range hv]; rfl)
  refine ⟨Srt.fallL (atL (rankV f (upD f.tasks))) (Dag.order (afterL f.tasks)), by unfold orderV; rw [if_pos h], by rw [h1, hf], fun v hv => (ord_all hf v).1 (h2.subset hv), fun i x y hy hx => ?_, fun i v t hv ht a ha => ?_⟩
  · obtain ⟨p1, e1⟩ := List.getElem?_eq_some_iff.1 hy
    obtain ⟨p2, e2⟩ := List.getElem?_eq_some_iff.1 hx
    have := (List.pairwise_iff_getElem.1 h3) i (i + 1) p1 p2 (by omega)
    rwa [e1, e2] at this
  · have hvO := List.mem_of_getElem? hv
    have hvL := h2.subset hvO
    have hvn := (ord_all hf v).1 hvL
    have hrow : Dag.row (afterL f.tasks) v = t.after := by simp [Dag.row, afterL, ht]
    have hva := hV t.after (by unfold afterL; exact List.mem_map.2 ⟨t, List.mem_of_getElem? ht, rfl⟩) a ha
    rw [afterL_len] at hva
    obtain ⟨u, rfl⟩ : ∃ u : Nat, a = (u : Int) := ⟨a.toNat, by omega⟩
    have hun : u < f.tasks.length := by omega
    have hub : u ∈ Dag.befL (afterL f.tasks) v := Dag.bef_mem.2 ⟨by rw [afterL_len]; exact hun, by unfold Dag.arc; rw [hrow]; exact decide_eq_true ha⟩
    have hvb : v ∈ Dag.behL (afterL f.tasks) u := Dag.beh_mem.2 ⟨by rw [afterL_len]; exact hvn, by unfold Dag.arc; rw [hrow]; exact decide_eq_true ha⟩
    have hne : u ≠ v := fun e => by have := (up_arc hf hV hvb).2.2; rw [e] at this; omega
    have hge0 := up_ge hf hV hub
    have hw0 := (hW u).1
    have hge : upD f.tasks v ≤ upD f.tasks u := by omega
    rw [← hat u hun, ← hat v hvn] at hge
    obtain ⟨k, hk⟩ := List.mem_iff_getElem?.1 hvL
    have huk := hor.behind k v hk u hub
    have hsub : [u, v].Sublist (Dag.order (afterL f.tasks)) := by
      have e := List.take_append_drop k (Dag.order (afterL f.tasks))
      rw [List.drop_eq_getElem_cons (List.getElem?_eq_some_iff.1 hk).1, (List.getElem?_eq_some_iff.1 hk).2] at e
      rw [← e]
      exact List.Sublist.append (List.singleton_sublist.2 huk) (List.singleton_sublist.2 (by simp))
    have hO := List.take_append_drop i (Srt.fallL (atL (rankV f (upD f.tasks))) (Dag.order (afterL f.tasks)))
    rw [List.drop_eq_getElem_cons (List.getElem?_eq_some_iff.1 hv).1, (List.getElem?_eq_some_iff.1 hv).2] at hO
    have hnd : (Srt.fallL (atL (rankV f (upD f.tasks))) (Dag.order (afterL f.tasks))).Nodup := h2.nodup_iff.2 hor.nodup
    have huO : u ∈ Srt.fallL (atL (rankV f (upD f.tasks))) (Dag.order (afterL f.tasks)) := h2.mem_iff.2 ((ord_all hf u).2 hun)
    refine decide_eq_true ?_
    suffices u ∈ (Srt.fallL (atL (rankV f (upD f.tasks))) (Dag.order (afterL f.tasks))).take i from List.mem_map.2 ⟨u, this, rfl⟩
    generalize Srt.fallL (atL (rankV f (upD f.tasks))) (Dag.order (afterL f.tasks)) = O at *
    generalize atL (rankV f (upD f.tasks)) = U at *
    rw [← hO] at huO hnd
    have hnd2 := List.nodup_append.1 hnd
    have hvd : v ∉ O.drop (i + 1) := (List.nodup_cons.1 hnd2.2.1).1
    rcases List.mem_append.1 huO with q | q
    · exact q
    · rcases List.mem_cons.1 q with q | q
      · exact absurd q hne
      · have hp : (O.take i ++ v :: O.drop (i + 1)).Pairwise (fun a b => U b ≤ U a) := by rw [hO]; exact h3
        have hle := (List.pairwise_cons.1 (List.pairwise_append.1 hp).2.1).1 u q
        have heq : U u = U v := by omega
        have hs2 := hsub.filter (fun x => decide (U x = U v))
        rw [← h4 (U v), List.filter_cons_of_pos (by simp [heq]), List.filter_cons_of_pos (by simp), List.filter_nil] at hs2
        have hs3 := hs2.trans List.filter_sublist
        rw [← hO] at hs3
        exact sub_split hs3 hvd hne
set_option maxHeartbeats 3200000 in
theorem walk_RankStands (w : World) (hT : Tb3 w) (f : FlowD) (A : Option Addr) (c : Nat) (h : Tasks w A c f.tasks) (hs : Small f) :
    Calls Tryd.prog 3 #[.agg #[.string (sb f.name), .int .i64 f.deadline, .int .i64 f.priority, .slice A f.tasks.length c]] w fun e w' => e = .returned (.bool true) ∧ Below w.heap.size w w' := by
  have hk := fun W (hW : Below w.heap.size w W) => known7_any W (hT.below hW)
  have hl := fun W (hW : Below w.heap.size w W) => long7_any f A c W (h.below hW) hs
  have HK := Lib.hid hk
  clear hk
  cases hlong : longD f
  case true =>
    rw [hlong] at hl
    have HL := Lib.hid hl
    clear hl
    go_enter Tryd.func3, Tryd.ntmps3
    go_wp2_with fail
    refine (HL.out _ (al _ _)).mono ?_
    rintro e w1 ⟨rfl, hb1⟩
    have HB1 := Lib.hid (blw (al w (flowO f A c)) hb1)
    clear hb1
    go_wp2_with fail
    refine (HK.out _ HB1.out).mono ?_
    rintro e w2 ⟨rfl, hb2⟩
    go_wp2
    go_ret
    exact ⟨rfl, blw HB1.out hb2⟩
  rw [hlong] at hl
  have HL := Lib.hid hl
  have hlen := (longD_no hlong).1
  have HFL := Lib.hid fun W (hW : Below w.heap.size w W) => fla_of7 (h.below hW) (hT.below hW) hlong
  have HLO := Lib.hid hlong
  have C1 := Lib.hid fun W (hW : Below w.heap.size w W) => orderP_any f A c W (HFL.out W hW)
  have C2 := Lib.hid fun W (hW : Below w.heap.size w W) => up_any f A c W (HFL.out W hW)
  have H := Lib.hid h
  unfold RetU at C2
  by_cases h0 : rankE f (upD f.tasks) = 0
  case neg =>
    have hv : rankV f (upD f.tasks) = [] := by unfold rankV; rw [if_neg h0]
    have ho : orderV f = [] := by unfold orderV; rw [if_neg h0]
    obtain ⟨e0, he0⟩ : ∃ v, rankE f (upD f.tasks) = v := ⟨_, rfl⟩
    rw [he0] at h0 C1 C2
    rw [ho] at C1
    rw [hv] at C2
    simp only [List.length_nil] at C1 C2
    have b1 : (e0 != e0) = false := by simp
    have b2 : (e0 != 0) = true := by simpa using h0
    have b3 : (e0 == e0) = true := by simp
    clear hl h hT hs hlong hv ho he0 h0
    go_enter Tryd.func3, Tryd.ntmps3
    go_wp2_with fail
    refine (HL.out _ (al _ _)).mono ?_
    rintro e w1 ⟨rfl, hb1⟩
    have HB1 := Lib.hid (blw (al w (flowO f A c)) hb1)
    have HO1 : Hid (w1.heap[w.heap.size]? = some (flowO f A c)) := Lib.hid ((hb1.block _ (by simp)).trans (heap_alloc_new w _))
    clear hb1
    obtain ⟨p0, p1, p2, p3, hp⟩ := flowO_cells HO1.out
    go_wp2_with fail
    refine (C1.out _ HB1.out).mono ?_
    rintro e w2 ⟨B1, d1, rfl, _, hb⟩
    have HB2 := Lib.hid (blw HB1.out hb)
    have HO2 : Hid (w2.heap[w.heap.size]? = some (flowO f A c)) := Lib.hid ((hb.block _ (Dag.blk_lt HO1.out)).trans HO1.out)
    clear hb p0 p1 p2 p3 hp HO1
    obtain ⟨p0, p1, p2, p3, hp⟩ := flowO_cells HO2.out
    go_wp2_with fail
    refine (C2.out _ HB2.out).mono ?_
    rintro e w3 ⟨B2, d2, rfl, _, hb⟩
    have HB3 := Lib.hid (blw HB2.out hb)
    have HO3 : Hid (w3.heap[w.heap.size]? = some (flowO f A c)) := Lib.hid ((hb.block _ (Dag.blk_lt HO2.out)).trans HO2.out)
    clear hb p0 p1 p2 p3 hp HO2
    obtain ⟨p0, p1, p2, p3, hp⟩ := flowO_cells HO3.out
    go_wp2_with fail
    refine (HK.out _ HB3.out).mono ?_
    rintro e wk ⟨rfl, hbk⟩
    go_wp2
    go_ret
    exact ⟨rfl, blw HB3.out hbk⟩
  obtain ⟨O, hO, hOl, hO1, hO2, hO3⟩ := stand_facts h0
  have hxn : (rankV f (upD f.tasks)).length = f.tasks.length := by unfold rankV numsU; rw [if_pos h0]; simp
  obtain ⟨xs, hxs⟩ : ∃ v, rankV f (upD f.tasks) = v := ⟨_, rfl⟩
  rw [hxs] at hxn hO2
  have hno : (num O).length = f.tasks.length := by rw [Dag.num_len, hOl]
  rw [hO, hno, h0] at C1
  rw [hxs, hxn, h0] at C2
  have HXN := Lib.hid hxn; have HOL := Lib.hid hOl; have HF1 := Lib.hid hO1; have HF2 := Lib.hid hO2; have HF3 := Lib.hid hO3
  have hnl := H.out.lenI
  clear hl h hT hs hlong hxs h0 hno hO hxn hOl hO1 hO2 hO3
  go_enter Tryd.func3, Tryd.ntmps3
  go_wp2_with fail
  refine (HL.out _ (al _ _)).mono ?_
  rintro e w1 ⟨rfl, hb1⟩
  have HB1 := Lib.hid (blw (al w (flowO f A c)) hb1)
  have HO1 : Hid (w1.heap[w.heap.size]? = some (flowO f A c)) := Lib.hid ((hb1.block _ (by simp)).trans (heap_alloc_new w _))
  clear hb1
  obtain ⟨p0, p1, p2, p3, hp⟩ := flowO_cells HO1.out
  go_wp2_with fail
  refine (C1.out _ HB1.out).mono ?_
  rintro e w2 ⟨B1, d1, rfl, hi, hb⟩
  have HB2 := Lib.hid (blw HB1.out hb)
  have I1 := Lib.hid hi
  have HO2 : Hid (w2.heap[w.heap.size]? = some (flowO f A c)) := Lib.hid ((hb.block _ (Dag.blk_lt HO1.out)).trans HO1.out)
  clear hb p0 p1 p2 p3 hp HO1 hi
  obtain ⟨p0, p1, p2, p3, hp⟩ := flowO_cells HO2.out
  go_wp2_with fail
  refine (C2.out _ HB2.out).mono ?_
  rintro e w3 ⟨B2, d2, rfl, hi, hb⟩
  have HB3 := Lib.hid (blw HB2.out hb)
  have I1 := Lib.hid (I1.out.below hb)
  have I2 := Lib.hid hi
  have HO3 : Hid (w3.heap[w.heap.size]? = some (flowO f A c)) := Lib.hid ((hb.block _ (Dag.blk_lt HO2.out)).trans HO2.out)
  clear hb p0 p1 p2 p3 hp HO2 hi
  obtain ⟨p0, p1, p2, p3, hp⟩ := flowO_cells HO3.out
  have HCAP : Hid (f.tasks.length ≤ d1) := Lib.hid (by have h := I1.out.cap; rw [Dag.ints_len, Dag.num_len, HOL.out] at h; exact h)
  go_wp2
  go_loopw [7] (fun i wr => ∃ k : Nat, k ≤ f.tasks.length ∧ i = .int .i64 k ∧ Hid (Below w3.heap.size w3 wr)) (fun i _ => f.tasks.length - (intOf i).toNat)
  case atStart => exact ⟨0, Nat.zero_le _, rfl, Lib.hid (Below.refl _ _)⟩
  case round =>
    obtain ⟨k, hk, rfl, HB⟩ := hrel
    clear p0 p1 p2 p3 hp
    by_cases hlt : k < f.tasks.length
    · obtain ⟨v, hv⟩ : ∃ v, O[k]? = some v := ⟨_, List.getElem?_eq_getElem (by rw [HOL.out]; exact hlt)⟩
      have hvn := HF1.out v (List.mem_of_getElem? hv)
      obtain ⟨g1, o1, e1, c1⟩ := (I1.out.below HB.out).cells k (.int .i64 (v : Int)) (by unfold Dag.ints; rw [List.getElem?_map, Dag.num_get, hv]; rfl)
      subst e1
      have t1 : decide ((v : Int) < 0) = false := decide_eq_false (by omega)
      have t2 : decide ((f.tasks.length : Int) ≤ (v : Int)) = false := decide_eq_false (by omega)
      have t2n : decide (f.tasks.length ≤ v) = false := decide_eq_false (by omega)
      by_cases hk0 : 0 < k
      · have t3 : decide ((0 : Int) < (k : Int)) = true := decide_eq_true (by omega)
        have t3n : decide (0 < k) = true := decide_eq_true (by omega)
        obtain ⟨q, hq⟩ : ∃ q, k - 1 = q := ⟨_, rfl⟩
        have hwk : IntKind.i64.wrap ((k : Int) - 1) = (q : Int) := by rw [IntWalk.i64_in _ (by omega)]; omega
        obtain ⟨y, hy⟩ : ∃ y, O[q]? = some y := ⟨_, List.getElem?_eq_getElem (by rw [HOL.out]; omega)⟩
        have hyn := HF1.out y (List.mem_of_getElem? hy)
        have hle := HF2.out q v y hy (by rw [show q + 1 = k from by omega]; exact hv)
        obtain ⟨g2, o2, e2, c2⟩ := (I1.out.below HB.out).cells q (.int .i64 (y : Int)) (by unfold Dag.ints; rw [List.getElem?_map, Dag.num_get, hy]; rfl)
        injection e2 with e2; injection e2 with e3 e4; subst e3 e4
        obtain ⟨xv, hxv⟩ : ∃ z, xs[v]? = some z := ⟨_, List.getElem?_eq_getElem (by rw [HXN.out]; exact hvn)⟩
        obtain ⟨xy, hxy⟩ : ∃ z, xs[y]? = some z := ⟨_, List.getElem?_eq_getElem (by rw [HXN.out]; exact hyn)⟩
        rw [atL_some hxv, atL_some hxy] at hle
        obtain ⟨g3, o3, e3, c3⟩ := (I2.out.below HB.out).cells v (.int .i64 xv) (by unfold Dag.ints; rw [List.getElem?_map, hxv]; rfl)
        obtain ⟨g4, o4, e4, c4⟩ := (I2.out.below HB.out).cells y (.int .i64 xy) (by unfold Dag.ints; rw [List.getElem?_map, hxy]; rfl)
        subst e3
        injection e4 with e4; injection e4 with e5 e6; subst e5 e6
        have t4 : decide (xy < xv) = false := decide_eq_false (by omega)
        have hql : q < f.tasks.length := by omega
        clear hq hy hxv hxy hle
        have s0 : wr.drew.cell? ⟨g1, o1 + k, none⟩ = some (.int .i64 (v : Int)) ∧ wr.drew.cell? ⟨g1, o1 + q, none⟩ = some (.int .i64 (y : Int)) ∧ wr.drew.cell? ⟨g3, o3 + v, none⟩ = some (.int .i64 xv) ∧ wr.drew.cell? ⟨g3, o3 + y, none⟩ = some (.int .i64 xy) ∧ Below wr.heap.size wr wr.drew := ⟨c1, c2, c3, c4, Dag.below_drew wr 1⟩
        clear c1 c2 c3 c4
        go_wp2_with fail
        refine Ft.wp_region_R (fun (W : World) => W.cell? ⟨g1, o1 + k, none⟩ = some (.int .i64 (v : Int)) ∧ W.cell? ⟨g1, o1 + q, none⟩ = some (.int .i64 (y : Int)) ∧ W.cell? ⟨g3, o3 + v, none⟩ = some (.int .i64 xv) ∧ W.cell? ⟨g3, o3 + y, none⟩ = some (.int .i64 xy) ∧ Below wr.heap.size wr W) 36 (by kernel_rfl) ?_
        refine Ft.wpAnyR_leadI (by kernel_rfl) ?hQ ?hS0 [0, 1, 2, 3, 4, 5, 6, 7, 8, 9, 10, 11, 12, 13, 14, 15, 16, 17, 18, 19, 20, 21, 22, 23, 24, 25, 26, 27, 28, 29, 30, 31, 32, 33, 34, 35] 0 _ _ (by kernel_rfl) ?_
        case hQ => intro c a d v w h; cases d <;> exact h
        case hS0 => exact s0
        iterate 36 (refine Ft.wpLeadI_read (v := ?_) _ rfl rfl (by rfl) ?_ ?_; rotate_left; (intro W hW; (try dsimp only at hW); go_simp; (try simp only [ge_iff_le, gt_iff_lt, hwk, t1, t2, t2n, t3, t3n, t4]); (try go_simp); (try with_reducible rfl)); try simp only [Act.put, List.setIfInBounds_toArray, List.set_cons_succ, List.set_cons_zero])
        simp only [Ft.wpLeadI]
        refine ⟨by kernel_rfl, ?_⟩
        have hwzB := s0.2.2.2.2
        clear s0
        generalize wr.drew = wz at hwzB ⊢
        have HBZ := Lib.hid (HB.out.trans (hwzB.mono HB.out.size))
        clear hwzB
        have HO5 : Hid (wz.heap[w.heap.size]? = some (flowO f A c)) := Lib.hid ((HBZ.out.block _ (Dag.blk_lt HO3.out)).trans HO3.out)
        obtain ⟨p0, p1, p2, p3, hp⟩ := flowO_cells HO5.out
        obtain ⟨t, ht⟩ : ∃ t, f.tasks[v]? = some t := ⟨_, List.getElem?_eq_getElem hvn⟩
        obtain ⟨bt, off, A2, c2, eA, h0, h1, h2, h3, h4, h5, hI0⟩ := (H.out.below (blw HB3.out HBZ.out)).cells v t ht
        subst eA
        obtain ⟨g2, o2, e2, c1⟩ := (I1.out.below HBZ.out).cells k (.int .i64 (v : Int)) (by unfold Dag.ints; rw [List.getElem?_map, Dag.num_get, hv]; rfl)
        injection e2 with e2; injection e2 with e3 e4; subst e3 e4
        obtain ⟨la, hla⟩ : ∃ la, t.after.length = la := ⟨_, rfl⟩
        rw [hla] at h5
        have HV := Lib.hid hv; have HT := Lib.hid ht; have HLA := Lib.hid hla; have HAI := Lib.hid hI0
        clear hv ht hla h0 h1 h2 h3 h4 hI0
        go_wp2_with fail
        go_quiet (fail)
        obtain ⟨wy, hwy⟩ : ∃ z, wz.drewN nq = z := ⟨_, rfl⟩
        rw [hwy]
        have HAY := Lib.hid (HAI.out.below (by rw [← hwy]; exact Dag.below_drew wz nq : Below wz.heap.size wz wy))
        have HBY := Lib.hid (HBZ.out.trans ((by rw [← hwy]; exact Dag.below_drew wz nq : Below wz.heap.size wz wy).mono HBZ.out.size))
        clear hwy nq p0 p1 p2 p3 hp h5 c1
        have hlb : la ≤ 9223372036854775807 := by
          have h := HAY.out.len
          rw [HLA.out] at h
          exact Nat.le_trans h (by have := Dag.Sl.top HAY.out; simpa [maxLen] using this)
        go_wp2
        go_loopw [9] (fun i wr => ∃ j : Nat, j ≤ la ∧ i = .int .i64 j ∧ Hid (Below wy.heap.size wy wr)) (fun i _ => la - (intOf i).toNat)
        case atStart => exact ⟨0, Nat.zero_le _, rfl, Lib.hid (Below.refl _ _)⟩
        case round =>
          obtain ⟨j, hj, rfl, HBX⟩ := hrel
          by_cases hjl : j < la
          · obtain ⟨a, ha⟩ : ∃ a, t.after[j]? = some a := ⟨_, List.getElem?_eq_getElem (by rw [HLA.out]; exact hjl)⟩
            obtain ⟨g5, o5, e5, c5⟩ := (HAY.out.below HBX.out).cells j (.int .i64 a) (by unfold Dag.ints; rw [List.getElem?_map, ha]; rfl)
            subst e5
            have qc := run_cutI_h (some ⟨g1, o1, none⟩) f.tasks.length d1 k .i64 (k : Int) rfl (by have := HCAP.out; omega)
            have HH := Lib.hid fun W (hW : Below wr.heap.size wr W) => Dag.hasI_any (num (O.take k)) k (by rw [Dag.num_len, List.length_take, HOL.out]; omega) a W (some ⟨g1, o1, none⟩) d1 (by rw [show num (O.take k) = (num O).take k from by simp [num]]; exact ints_take ((I1.out.below (blw HBY.out HBX.out)).below hW) k) true (HF3.out k v t HV.out HT.out a (List.mem_of_getElem? ha))
            have hjz : j < la := hjl
            clear ha
            go_wp2_with fail
            have s0 : wr.drew.cell? ⟨g5, o5 + j, none⟩ = some (.int .i64 a) ∧ Below wr.heap.size wr wr.drew := ⟨c5, Dag.below_drew wr 1⟩
            clear c5
            go_region_held3 (fun (W : World) => W.cell? ⟨g5, o5 + j, none⟩ = some (.int .i64 a) ∧ Below wr.heap.size wr W) (first | exact s0) (first
              | (go_at_call 11; refine (HH.out _ s0.2).mono ?_; rintro e x1 ⟨rfl, rfl⟩))
            have HBN := Lib.hid (blw HBX.out s0.2)
            clear s0
            go_wp2
            go_roundw
            case rel => exact ⟨j + 1, by omega, by go_num, HBN⟩
            case measure => simp [intOf]; omega
          · obtain rfl : j = la := by omega
            go_wp2
            go_roundw
            case rel => exact ⟨k + 1, by omega, by go_num, Lib.hid (blw HBY.out HBX.out)⟩
            case measure => simp [intOf]; omega
      · have t3 : decide ((0 : Int) < (k : Int)) = false := decide_eq_false (by omega)
        have t3n : decide (0 < k) = false := decide_eq_false (by omega)
        have s0 : wr.drew.cell? ⟨g1, o1 + k, none⟩ = some (.int .i64 (v : Int)) ∧ Below wr.heap.size wr wr.drew := ⟨c1, Dag.below_drew wr 1⟩
        clear c1
        go_wp2_with fail
        refine Ft.wp_region_R (fun (W : World) => W.cell? ⟨g1, o1 + k, none⟩ = some (.int .i64 (v : Int)) ∧ Below wr.heap.size wr W) 36 (by kernel_rfl) ?_
        refine Ft.wpAnyR_leadI (by kernel_rfl) ?hQ ?hS0 [0, 1, 2, 3, 4, 5, 6, 7, 8, 9, 10, 11, 12, 13, 14, 15, 16, 17, 18, 19, 20, 21, 22, 23, 24, 25, 26, 27, 28, 29, 30, 31, 32, 33, 34, 35] 0 _ _ (by kernel_rfl) ?_
        case hQ => intro c a d v w h; cases d <;> exact h
        case hS0 => exact s0
        iterate 18 (refine Ft.wpLeadI_read (v := ?_) _ rfl rfl (by rfl) ?_ ?_; rotate_left; (intro W hW; (try dsimp only at hW); go_simp; (try simp only [ge_iff_le, gt_iff_lt, t1, t2, t2n, t3, t3n]); (try go_simp); (try with_reducible rfl)); try simp only [Act.put, List.setIfInBounds_toArray, List.set_cons_succ, List.set_cons_zero])
        iterate 16 (refine Ft.wpLeadI_skip _ rfl rfl (by kernel_rfl) ?_; try simp only [Act.put, List.setIfInBounds_toArray, List.set_cons_succ, List.set_cons_zero])
        iterate 2 (refine Ft.wpLeadI_read (v := ?_) _ rfl rfl (by rfl) ?_ ?_; rotate_left; (intro W hW; (try dsimp only at hW); go_simp; (try simp only [ge_iff_le, gt_iff_lt, t1, t2, t2n, t3, t3n]); (try go_simp); (try with_reducible rfl)); try simp only [Act.put, List.setIfInBounds_toArray, List.set_cons_succ, List.set_cons_zero])
        simp only [Ft.wpLeadI]
        refine ⟨by kernel_rfl, ?_⟩
        have hwzB := s0.2
        clear s0
        generalize wr.drew = wz at hwzB ⊢
        have HBZ := Lib.hid (HB.out.trans (hwzB.mono HB.out.size))
        clear hwzB
        have HO5 : Hid (wz.heap[w.heap.size]? = some (flowO f A c)) := Lib.hid ((HBZ.out.block _ (Dag.blk_lt HO3.out)).trans HO3.out)
        obtain ⟨p0, p1, p2, p3, hp⟩ := flowO_cells HO5.out
        obtain ⟨t, ht⟩ : ∃ t, f.tasks[v]? = some t := ⟨_, List.getElem?_eq_getElem hvn⟩
        obtain ⟨bt, off, A2, c2, eA, h0, h1, h2, h3, h4, h5, hI0⟩ := (H.out.below (blw HB3.out HBZ.out)).cells v t ht
        subst eA
        obtain ⟨g2, o2, e2, c1⟩ := (I1.out.below HBZ.out).cells k (.int .i64 (v : Int)) (by unfold Dag.ints; rw [List.getElem?_map, Dag.num_get, hv]; rfl)
        injection e2 with e2; injection e2 with e3 e4; subst e3 e4
        obtain ⟨la, hla⟩ : ∃ la, t.after.length = la := ⟨_, rfl⟩
        rw [hla] at h5
        have HV := Lib.hid hv; have HT := Lib.hid ht; have HLA := Lib.hid hla; have HAI := Lib.hid hI0
        clear hv ht hla h0 h1 h2 h3 h4 hI0
        go_wp2_with fail
        go_quiet (fail)
        obtain ⟨wy, hwy⟩ : ∃ z, wz.drewN nq = z := ⟨_, rfl⟩
        rw [hwy]
        have HAY := Lib.hid (HAI.out.below (by rw [← hwy]; exact Dag.below_drew wz nq : Below wz.heap.size wz wy))
        have HBY := Lib.hid (HBZ.out.trans ((by rw [← hwy]; exact Dag.below_drew wz nq : Below wz.heap.size wz wy).mono HBZ.out.size))
        clear hwy nq p0 p1 p2 p3 hp h5 c1
        have hlb : la ≤ 9223372036854775807 := by
          have h := HAY.out.len
          rw [HLA.out] at h
          exact Nat.le_trans h (by have := Dag.Sl.top HAY.out; simpa [maxLen] using this)
        go_wp2
        go_loopw [9] (fun i wr => ∃ j : Nat, j ≤ la ∧ i = .int .i64 j ∧ Hid (Below wy.heap.size wy wr)) (fun i _ => la - (intOf i).toNat)
        case atStart => exact ⟨0, Nat.zero_le _, rfl, Lib.hid (Below.refl _ _)⟩
        case round =>
          obtain ⟨j, hj, rfl, HBX⟩ := hrel
          by_cases hjl : j < la
          · obtain ⟨a, ha⟩ : ∃ a, t.after[j]? = some a := ⟨_, List.getElem?_eq_getElem (by rw [HLA.out]; exact hjl)⟩
            obtain ⟨g5, o5, e5, c5⟩ := (HAY.out.below HBX.out).cells j (.int .i64 a) (by unfold Dag.ints; rw [List.getElem?_map, ha]; rfl)
            subst e5
            have qc := run_cutI_h (some ⟨g1, o1, none⟩) f.tasks.length d1 k .i64 (k : Int) rfl (by have := HCAP.out; omega)
            have HH := Lib.hid fun W (hW : Below wr.heap.size wr W) => Dag.hasI_any (num (O.take k)) k (by rw [Dag.num_len, List.length_take, HOL.out]; omega) a W (some ⟨g1, o1, none⟩) d1 (by rw [show num (O.take k) = (num O).take k from by simp [num]]; exact ints_take ((I1.out.below (blw HBY.out HBX.out)).below hW) k) true (HF3.out k v t HV.out HT.out a (List.mem_of_getElem? ha))
            have hjz : j < la := hjl
            clear ha
            go_wp2_with fail
            have s0 : wr.drew.cell? ⟨g5, o5 + j, none⟩ = some (.int .i64 a) ∧ Below wr.heap.size wr wr.drew := ⟨c5, Dag.below_drew wr 1⟩
            clear c5
            go_region_held3 (fun (W : World) => W.cell? ⟨g5, o5 + j, none⟩ = some (.int .i64 a) ∧ Below wr.heap.size wr W) (first | exact s0) (first
              | (go_at_call 11; refine (HH.out _ s0.2).mono ?_; rintro e x1 ⟨rfl, rfl⟩))
            have HBN := Lib.hid (blw HBX.out s0.2)
            clear s0
            go_wp2
            go_roundw
            case rel => exact ⟨j + 1, by omega, by go_num, HBN⟩
            case measure => simp [intOf]; omega
          · obtain rfl : j = la := by omega
            go_wp2
            go_roundw
            case rel => exact ⟨k + 1, by omega, by go_num, Lib.hid (blw HBY.out HBX.out)⟩
            case measure => simp [intOf]; omega
    · obtain rfl : k = f.tasks.length := by omega
      have HBE := Lib.hid (blw HB3.out HB.out)
      go_wp2_with fail
      refine (HK.out _ HBE.out).mono ?_
      rintro e wk ⟨rfl, hbk⟩
      go_wp2
      go_ret
      exact ⟨rfl, blw HBE.out hbk⟩

namespace rankStands
theorem own : ownKnob Tryd.prog.godebug = none := by kernel_rfl
theorem laidOut : laidOutB Tryd.prog = true := by kernel_rfl
set_option maxRecDepth 100000 in
theorem lifted (os : Os) (started : os.Started) (H : Type) (enc : TypeId × Value → H) :
    ReturnsInHanded {} Tryd.checked os 3 .any (fun w args => (Rows.rankStandsSpec.pre enc Tryd.prog Tryd.f3 [] false w args ∧ laidMetH Tryd.prog laid7 w) ∧ sizedMet enc Tryd.prog Tryd.f3 (OpenSpec.ofChange Rows.rankStandsSpec) false w args)
      (Rows.rankStandsSpec.post enc Tryd.prog Tryd.f3 false true false false) := by
  refine returnsInHanded_of_change_and (C := Tryd.checked) (X := fun w _ => laidMetH Tryd.prog laid7 w) (fun _ _ _ hh h => h.of_heap hh) own started (by kernel_rfl) Tryd.func3
    (ChangeSpec.witness_shaped (enc := enc) (C := Tryd.checked) (os := os) (X := fun w _ => laidMetH Tryd.prog laid7 w) false (World.laidAll Tryd.prog os laid7) #[.agg #[.string ByteArray.empty, .int .i64 0, .int .i64 0, .slice none 0 0]] 8 (World.laidAll_os _ _ _)
      (World.shaped_of_ZipB (by kernel_rfl) (by kernel_rfl)) (by kernel_rfl) (by kernel_rfl) (by kernel_rfl)
      (by rw [MakeChecks.laidMetH_plain _ _ _ (by kernel_rfl)]; exact laidMet_laidAll _ (by kernel_rfl) (by kernel_rfl))) ?_
  intro W base args ds gs before hval0 hW _ hsz hL _
  have hval : ∀ (j : Nat) t v, Tryd.f3.params[j]? = some t → args[j]? = some v → Value.okWide Tryd.prog W .any base t v := hval0
  have hW' := hW
  obtain ⟨p, q, hA0, hV, rfl, _, _⟩ := hW
  have hA : DataW.TrodAll enc Tryd.prog W 0 (fun _ => true) true Tryd.f3.params.toList args.toList ds p := hA0
  rw [Tryd.params3] at hA hval
  obtain ⟨v0, vs0, d0, ds0, p0, q0, hargs, rfl, rfl, h0, r0⟩ := trodAll_cons hA
  obtain ⟨rfl, rfl, rfl⟩ := trodAll_nil r0
  obtain rfl : args = #[v0] := by cases args; simp_all
  obtain ⟨rfl, rfl⟩ := trodVars_none hV
  have k0 := h0
  have lt0 : ∀ x ∈ p0, x.block < W.heap.size := by obtain ⟨m, hm⟩ := k0; exact DataW.trod_lt m _ _ _ hm
  obtain ⟨cs0, e0, _⟩ := okWide_struct Tryd.underlying24 (hval 0 24 v0 rfl rfl)
  obtain ⟨fuel0, hf0⟩ := h0
  rw [show v0.cells.toList = cs0.toList from by rw [e0]; rfl] at hf0
  obtain ⟨z0, A0, c0, hcs0, w0, s0⟩ := flow_arg hf0
  obtain rfl : cs0 = #[.string (sb z0.name), .int .i64 z0.deadline, .int .i64 z0.priority, .slice A0 z0.tasks.length c0] := by rw [← Array.toArray_toList (xs := cs0), hcs0]
  subst e0
  have s0 := s0 (weights_at hsz (j := 0) (t := 24) rfl rfl)
  clear hf0 hcs0
  clear hA0 hval0
  rw [MakeChecks.laidMetH_plain _ _ _ (by kernel_rfl)] at hL
  refine (walk_RankStands W (tabs_of hL) z0 A0 c0 w0 s0).mono fun e W' ⟨he, bel⟩ => ?_
  subst he
  exact ⟨_, rfl, _, _, _, [], _, [], hW', trodAll_mk1 (shut_bool Tryd.underlying4 _), (trodAll_cons_mk (Below.trod laidOut (by kernel_rfl) (of_decide_eq_true (by kernel_rfl)) k0 bel lt0) trodAll_mk0), rfl, bel.frame _, fun h => by cases h⟩
theorem said : Rows.RankStandsSaid :=
  OpenClaim.holds_of_wide 3 Tryd.f3 rfl rfl rfl rfl rfl rfl rfl ⟨rfl, rfl, rfl, rfl, rfl⟩ rfl rfl rfl rfl rfl (by kernel_rfl) Tryd.func3 (by kernel_rfl)
    (of_decide_eq_true (by kernel_rfl)) (by unfold Func.isWrapper; first | (rw [if_pos (by decide +kernel)]; kernel_rfl) | (rw [if_neg (by decide +kernel)]; exact ⟨rfl, rfl⟩))
    (fun os started H enc _ => lifted os started H enc)
theorem plain (f : FuncId) (fn : Func) (hf : Tryd.pinned.checked.prog.funcNamed "timekeeper/timekeeperlaw07.RankStands" = some f) (hfn : Tryd.pinned.checked.prog.funcs[f]? = some fn) :
    false = Tryd.pinned.checked.prog.looks [] ∧ ∀ (j : Nat) t, fn.params[j]? = some t → Tryd.pinned.checked.prog.wantsStandIn t = false := by
  obtain rfl : f = 3 := Option.some.inj ((show Tryd.prog.funcNamed "timekeeper/timekeeperlaw07.RankStands" = some 3 by kernel_rfl).symm.trans hf) |>.symm
  obtain rfl : fn = Tryd.f3 := (Option.some.inj (Tryd.func3.symm.trans hfn)).symm
  refine ⟨by kernel_rfl, fun j t ht => ?_⟩
  rw [Tryd.params3] at ht
  have hm : t ∈ [24] := by simpa using Array.mem_of_getElem? ht
  have hall : ([24].all fun u => !Tryd.prog.wantsStandIn u) = true := by kernel_rfl
  exact (show Tryd.prog.wantsStandIn t = false by simpa using List.all_eq_true.1 hall t hm)
theorem proved : Rows.RankStandsCardSaid :=
  Claim7.holds_tied_plain_at .later [] _ _ _ _ said (fun _ h => by cases h) (by kernel_rfl) (fun _ h => by cases h) rankStands_row_tie rfl ⟨rfl, rfl⟩ (by kernel_rfl) rfl plain (by kernel_rfl)
#print axioms proved
end rankStands
end Go.Proofs.YtaiolhanbjndcaaDoor

