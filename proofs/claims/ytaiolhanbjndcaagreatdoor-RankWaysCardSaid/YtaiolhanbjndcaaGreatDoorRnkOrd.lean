/- Layer 7: the document's Order. -/
import Derived.Test.YtaiolhanbjndcaaGreatDoorMBst
import Derived.Test.YtaiolhanbjndcaaGreatDoorDagO
import Derived.Test.YtaiolhanbjndcaaGreatDoorMTab
import Derived.Test.YtaiolhanbjndcaaGreatDoorRnkOrP
import Derived.Test.YtaiolhanbjndcaaGreatDoorMSeq
namespace Go.Proofs.YtaiolhanbjndcaaGreatDoor
open Go.RowKit
open Dag (Ints Own1 Sl num num_len order slN)
open Srt (bestO bestO_mem fallN fallL fall_next fall_inv)
set_option linter.unusedVariables false
set_option maxRecDepth 100000

set_option maxHeartbeats 3200000 in
theorem rrorder_any (f : FlowD) (A : Option Addr) (c : Nat) (w : World) (h : Tasks w A c f.tasks) (hT : Txt.Tabs w) (hl : f.name.length ≤ 1100000) (hn : ∀ t ∈ f.tasks, t.name.length ≤ 1100000) (hlen : f.tasks.length ≤ 30) :
    Calls Tryz.prog 18 #[.agg #[.string (sb f.name), .int .i64 f.deadline, .int .i64 f.priority, .slice A f.tasks.length c]] w fun e w' => ∃ B d, e = .returned (.tuple #[.slice B (orderV f).length d, .int .i64 (rankE f (upD f.tasks))]) ∧ Ints w' B d (orderV f) ∧ Below w.heap.size w w' := by
  have HR := Lib.hid fun W (hW : Below w.heap.size w W) => rranks_any true f A c W (h.below hW) (hT.below hW) hl hn hlen
  have H := Lib.hid h
  obtain ⟨xs, hxs⟩ : ∃ xs, rankV f (upD f.tasks) = xs := ⟨_, rfl⟩
  obtain ⟨e0, he0⟩ : ∃ e0, rankE f (upD f.tasks) = e0 := ⟨_, rfl⟩
  obtain ⟨P, hP⟩ : ∃ P, orderV f = P := ⟨_, rfl⟩
  unfold RetU at HR
  rw [show selD true f.tasks = upD f.tasks from rfl, hxs, he0] at HR
  rw [he0, hP]
  clear h hT hl hn
  by_cases h0 : e0 = 0
  case neg =>
    have hxn : (e0 != 0) = true := by simp [h0]
    have HPE : Hid (P = []) := Lib.hid (by rw [← hP]; unfold orderV; rw [he0, if_neg h0])
    clear h0 hP hxs he0
    go_enter Tryz.func18, Tryz.ntmps18
    go_wp2_with fail
    refine (HR.out _ (al _ _)).mono ?_
    rintro e w1 ⟨B, d, rfl, hi1, hb1⟩
    have HB1 := Lib.hid (blw (al w (flowO f A c)) hb1)
    clear hb1 hi1
    go_wp2
    go_ret2
    exact ⟨none, 0, by rw [HPE.out]; rfl, by rw [HPE.out]; exact Sl.empty _, HB1.out⟩
  subst h0
  have hxl : xs.length = f.tasks.length := by rw [← hxs]; exact rankV_len he0
  obtain ⟨hf, hV, hW⟩ := chk_facts (rankE_chk he0)
  have HAF := Lib.hid fun W (hW : Below w.heap.size w W) => rafter_any f A c W (H.out.below hW) (by omega)
  have HORD := Lib.hid fun W A' c' (hr : Dag.IRows W A' c' (afterL f.tasks)) => Dag.rorder_any (afterL f.tasks) (by rw [afterL_len]; exact hf) W A' c' hr (by rw [afterL_len]; exact hlen) hV
  have hLt : ∀ v ∈ order (afterL f.tasks), v < f.tasks.length := fun v hv => (ord_all hf v).1 hv
  have hnd := (Dag.order_ord (afterL f.tasks)).nodup
  obtain ⟨L, hL⟩ : ∃ L, order (afterL f.tasks) = L := ⟨_, rfl⟩
  obtain ⟨n, hnn⟩ : ∃ n, f.tasks.length = n := ⟨_, rfl⟩
  have HP : Hid (P = num (fallN (atL xs) L n)) := Lib.hid (by rw [← hP]; unfold orderV fallL; rw [he0, if_pos rfl, hxs, hf, hL, hnn])
  unfold Dag.RetL at HORD
  rw [hL] at hf hLt hnd
  simp only [hL, num_len, hf, afterL_len] at HORD
  have HLL : Hid (L.length = n) := Lib.hid (by rw [hf, hnn])
  have HLT : Hid (∀ v ∈ L, v < n) := Lib.hid (by rw [← hnn]; exact hLt)
  have HXL : Hid (xs.length = n) := Lib.hid (by rw [hxl, hnn])
  have HN30 : n ≤ 30 := by omega
  have HND := Lib.hid hnd
  have HNE := Lib.hid hnn
  clear hf hV hW hP hxs he0 hL hLt hnn hnd
  go_enter Tryz.func18, Tryz.ntmps18
  go_wp2_with fail
  refine (HR.out _ (al _ _)).mono ?_
  rintro e w1 ⟨B, d, rfl, hi1, hb1⟩
  have HB1 := Lib.hid (blw (al w (flowO f A c)) hb1)
  have HO1 : Hid (w1.heap[w.heap.size]? = some (flowO f A c)) := Lib.hid ((hb1.block _ (by simp)).trans (heap_alloc_new w _))
  have HI1 := Lib.hid hi1
  clear hb1 hi1
  rw [hxl]
  obtain ⟨p0, p1, p2, p3, hp⟩ := flowO_cells HO1.out
  go_wp2_with fail
  refine (HAF.out _ HB1.out).mono ?_
  rintro e w2 ⟨A2, c2, rfl, hr2, hb2⟩
  have HB2 := Lib.hid (blw HB1.out hb2)
  have HI2 := Lib.hid (HI1.out.below hb2)
  have HR2 := Lib.hid hr2
  clear hb2 hr2 p0 p1 p2 p3 hp
  go_wp2_with fail
  refine (HORD.out _ _ _ HR2.out).mono ?_
  rintro e w3 ⟨A3, c3, rfl, hi3, hb3, _⟩
  have HB3 := Lib.hid (blw HB2.out hb3)
  have HX3 := Lib.hid (HI2.out.below hb3)
  have HL3 := Lib.hid hi3
  clear hb3 hi3
  rw [HNE.out]
  clear hxl
  go_wp2
  go_loopw [7] (fun out wr => ∃ (k : Nat) (Ao : Option Addr) (co : Nat), k ≤ n ∧ out = .slice Ao k co ∧ Hid (Own1 wr w3.heap.size 3 (.slice Ao k co) (Dag.ints (num (fallN (atL xs) L k)))) ∧ Hid (Below w3.heap.size w3 wr)) (fun out _ => n - slN out)
  case atStart => exact ⟨0, none, 0, Nat.zero_le _, rfl, Lib.hid (Own1.nil _ _ _), Lib.hid (Below.refl _ _)⟩
  case round =>
    obtain ⟨k, Ao, co, hk, rfl, HO, HB⟩ := hrel
    by_cases hlt : k < n
    · obtain ⟨wA, rfl⟩ : ∃ x, x = wr := ⟨wr, rfl⟩
      obtain ⟨bx0, hb0, hFn⟩ := fall_next (atL xs) L HND.out (k := k) (by rw [HLL.out]; exact hlt)
      obtain ⟨hFl, _⟩ := fall_inv (atL xs) L HND.out k (by rw [HLL.out]; exact hk)
      obtain ⟨F, hF⟩ : ∃ F, fallN (atL xs) L k = F := ⟨_, rfl⟩
      rw [hF] at HO hFl hFn hb0
      rw [HLL.out] at hb0
      have HFL : Hid ((num F).length = k) := Lib.hid (by rw [num_len]; exact hFl)
      have HFI := Lib.hid (Dag.OwnI.ints' HO.out).2
      have HFN := Lib.hid hFn; have HB0 := Lib.hid hb0
      clear hFl hb0
      clear hF hFn
      go_wp2
      go_loopw [8, 9] (fun bb i wr => ∃ (j : Nat) (o : Option Nat), j ≤ n ∧ i = .int .i64 j ∧ bb = .int .i64 (optI o) ∧ Hid (bestO (atL xs) L (num F) j = o) ∧ Hid (Below wA.heap.size wA wr)) (fun _ i _ => n - (intOf i).toNat)
      case atStart => exact ⟨0, none, Nat.zero_le _, rfl, rfl, Lib.hid rfl, Lib.hid (Below.refl _ _)⟩
      case round =>
        obtain ⟨j, o, hj, rfl, rfl, HBO, HBJ⟩ := hrel
        obtain ⟨wB, rfl⟩ : ∃ x, x = wr := ⟨wr, rfl⟩
        by_cases hjl : j < n
        · obtain ⟨x, hx⟩ : ∃ x, L[j]? = some x := ⟨_, List.getElem?_eq_getElem (by rw [HLL.out]; exact hjl)⟩
          have hxn := HLT.out x (List.mem_of_getElem? hx)
          obtain ⟨bl, ol, rfl, cx⟩ := (HL3.out.below (blw HB.out HBJ.out)).cells j (.int .i64 (x : Int)) (by unfold Dag.ints num; rw [List.getElem?_map, List.getElem?_map, hx]; rfl)
          obtain ⟨r, hr⟩ : ∃ r, decide ((x : Int) ∈ num F) = r := ⟨_, rfl⟩
          have HH := Lib.hid fun W (hW : Below wB.heap.size wB W) => Dag.hasI_any (num F) k HFL.out (x : Int) W Ao co ((HFI.out.below HBJ.out).below hW) r hr
          cases r with
          | true =>
            have HS : Hid (bestO (atL xs) L (num F) (j + 1) = o) := Lib.hid (by simp only [bestO, hx]; rw [if_pos (of_decide_eq_true hr)]; exact HBO.out)
            clear hx hr
            have s0 : wB.drew.cell? ⟨bl, ol + j, none⟩ = some (.int .i64 (x : Int)) ∧ Below wB.heap.size wB wB.drew := ⟨cx, Sri.dr wB⟩
            clear cx
            go_wp2_with fail
            refine Ft.wp_region_R (fun (W : World) => W.cell? ⟨bl, ol + j, none⟩ = some (.int .i64 (x : Int)) ∧ Below wB.heap.size wB W) 25 (by kernel_rfl) ?_
            refine Ft.wpAnyR_leadI (by kernel_rfl) ?hQ ?hS0 [0, 1, 2, 3, 4] 20 _ _ (by kernel_rfl) ?_
            case hQ => intro c a d v w h; cases d <;> exact h
            case hS0 => exact s0
            iterate 5 (refine Ft.wpLeadI_read (v := ?_) _ rfl rfl (by rfl) ?_ ?_; rotate_left; (intro W hW; (try dsimp only at hW); go_simp; (try with_reducible rfl)); try simp only [Act.put, List.setIfInBounds_toArray, List.set_cons_succ, List.set_cons_zero])
            simp only [Ft.wpLeadI]
            refine Ft.wpAnyR_one (i := 5) rfl (by kernel_rfl) ?_
            intro K1 hK1
            go_simp
            refine (HH.out _ s0.2).mono ?_
            rintro e x1 ⟨rfl, rfl⟩
            refine hK1.out _ _ s0 ?_
            clear hK1 K1
            refine Ft.wpAnyR_leadI (by kernel_rfl) ?hQ ?hS0 [6, 7, 8, 9, 10, 11, 12, 13, 14, 15, 16, 17, 18, 19, 20, 21, 22, 23, 24] 0 _ _ (by kernel_rfl) ?_
            case hQ => intro c a d v w h; cases d <;> exact h
            case hS0 => exact s0
            iterate 2 (refine Ft.wpLeadI_read (v := ?_) _ rfl rfl (by rfl) ?_ ?_; rotate_left; (intro W hW; (try dsimp only at hW); go_simp; (try with_reducible rfl)); try simp only [Act.put, List.setIfInBounds_toArray, List.set_cons_succ, List.set_cons_zero])
            iterate 16 (refine Ft.wpLeadI_skip _ rfl rfl (by kernel_rfl) ?_; try simp only [Act.put, List.setIfInBounds_toArray, List.set_cons_succ, List.set_cons_zero])
            iterate 1 (refine Ft.wpLeadI_read (v := ?_) _ rfl rfl (by rfl) ?_ ?_; rotate_left; (intro W hW; (try dsimp only at hW); go_simp; (try with_reducible rfl)); try simp only [Act.put, List.setIfInBounds_toArray, List.set_cons_succ, List.set_cons_zero])
            simp only [Ft.wpLeadI]
            refine ⟨by kernel_rfl, ?_⟩
            have HBN := Lib.hid (blw HBJ.out s0.2)
            have cxn := s0.1
            clear s0
            go_wp2
            go_roundw
            case rel => exact ⟨j + 1, o, by omega, by go_num, rfl, HS, HBN⟩
            case measure => simp [intOf]; omega
          | false =>
            have HSB : Hid (bestO (atL xs) L (num F) (j + 1) = match o with | none => some x | some b => if atL xs b < atL xs x then some x else some b) := Lib.hid (by
              have hb := HBO.out
              simp only [bestO, hx]
              rw [if_neg (of_decide_eq_false hr)]
              cases o <;> simp only [hb])
            clear hx hr
            cases o with
            | none =>
              have HS := Lib.hid (show bestO (atL xs) L (num F) (j + 1) = some x from HSB.out)
              clear HSB
              rw [show optI none = -1 from rfl]
              have s0 : wB.drew.cell? ⟨bl, ol + j, none⟩ = some (.int .i64 (x : Int)) ∧ Below wB.heap.size wB wB.drew := ⟨cx, Sri.dr wB⟩
              clear cx
              go_wp2_with fail
              refine Ft.wp_region_R (fun (W : World) => W.cell? ⟨bl, ol + j, none⟩ = some (.int .i64 (x : Int)) ∧ Below wB.heap.size wB W) 25 (by kernel_rfl) ?_
              refine Ft.wpAnyR_leadI (by kernel_rfl) ?hQ ?hS0 [0, 1, 2, 3, 4] 20 _ _ (by kernel_rfl) ?_
              case hQ => intro c a d v w h; cases d <;> exact h
              case hS0 => exact s0
              iterate 5 (refine Ft.wpLeadI_read (v := ?_) _ rfl rfl (by rfl) ?_ ?_; rotate_left; (intro W hW; (try dsimp only at hW); go_simp; (try with_reducible rfl)); try simp only [Act.put, List.setIfInBounds_toArray, List.set_cons_succ, List.set_cons_zero])
              simp only [Ft.wpLeadI]
              refine Ft.wpAnyR_one (i := 5) rfl (by kernel_rfl) ?_
              intro K1 hK1
              go_simp
              refine (HH.out _ s0.2).mono ?_
              rintro e x1 ⟨rfl, rfl⟩
              refine hK1.out _ _ s0 ?_
              clear hK1 K1
              refine Ft.wpAnyR_leadI (by kernel_rfl) ?hQ ?hS0 [6, 7, 8, 9, 10, 11, 12, 13, 14, 15, 16, 17, 18, 19, 20, 21, 22, 23, 24] 0 _ _ (by kernel_rfl) ?_
              case hQ => intro c a d v w h; cases d <;> exact h
              case hS0 => exact s0
              iterate 5 (refine Ft.wpLeadI_read (v := ?_) _ rfl rfl (by rfl) ?_ ?_; rotate_left; (intro W hW; (try dsimp only at hW); go_simp; (try with_reducible rfl)); try simp only [Act.put, List.setIfInBounds_toArray, List.set_cons_succ, List.set_cons_zero])
              iterate 12 (refine Ft.wpLeadI_skip _ rfl rfl (by kernel_rfl) ?_; try simp only [Act.put, List.setIfInBounds_toArray, List.set_cons_succ, List.set_cons_zero])
              iterate 2 (refine Ft.wpLeadI_read (v := ?_) _ rfl rfl (by rfl) ?_ ?_; rotate_left; (intro W hW; (try dsimp only at hW); go_simp; (try with_reducible rfl)); try simp only [Act.put, List.setIfInBounds_toArray, List.set_cons_succ, List.set_cons_zero])
              simp only [Ft.wpLeadI]
              refine ⟨by kernel_rfl, ?_⟩
              have HBN := Lib.hid (blw HBJ.out s0.2)
              have cxn := s0.1
              clear s0
              go_wp2
              go_roundw
              case rel => exact ⟨j + 1, some x, by omega, by go_num, rfl, HS, HBN⟩
              case measure => simp [intOf]; omega
            | some b' =>
              have hbl : b' < n := HLT.out b' (bestO_mem _ _ _ _ _ HBO.out)
              have hbz : decide ((b' : Int) < 0) = false := decide_eq_false (by omega)
              rw [show optI (some b') = (b' : Int) from rfl]
              obtain ⟨xk, hxk⟩ : ∃ z, xs[x]? = some z := ⟨_, List.getElem?_eq_getElem (by rw [HXL.out]; exact hxn)⟩
              obtain ⟨xb, hxb⟩ : ∃ z, xs[b']? = some z := ⟨_, List.getElem?_eq_getElem (by rw [HXL.out]; exact hbl)⟩
              have HXB := Lib.hid (HX3.out.below (blw HB.out HBJ.out))
              obtain ⟨bx, ox, ex, ck⟩ := HXB.out.cells x (.int .i64 xk) (by unfold Dag.ints; rw [List.getElem?_map, hxk]; rfl)
              obtain ⟨bx2, ox2, ex2, cb⟩ := HXB.out.cells b' (.int .i64 xb) (by unfold Dag.ints; rw [List.getElem?_map, hxb]; rfl)
              subst ex
              injection ex2 with ex2; injection ex2 with e1 e2; subst e1 e2
              have hbn : bestO (atL xs) L (num F) (j + 1) = if xb < xk then some x else some b' := by
                rw [HSB.out]; show (if atL xs b' < atL xs x then some x else some b') = _; rw [atL_some hxk, atL_some hxb]
              clear hxk hxb HSB
              by_cases hgt : xb < xk
              · rw [if_pos hgt] at hbn
                have HS := Lib.hid hbn
                have hgd : decide (xb < xk) = true := decide_eq_true hgt
                clear hbn
                have s0 : wB.drew.cell? ⟨bl, ol + j, none⟩ = some (.int .i64 (x : Int)) ∧ wB.drew.cell? ⟨bx, ox + x, none⟩ = some (.int .i64 xk) ∧ wB.drew.cell? ⟨bx, ox + b', none⟩ = some (.int .i64 xb) ∧ Below wB.heap.size wB wB.drew := ⟨cx, ck, cb, Sri.dr wB⟩
                clear cx ck cb
                go_wp2_with fail
                refine Ft.wp_region_R (fun (W : World) => W.cell? ⟨bl, ol + j, none⟩ = some (.int .i64 (x : Int)) ∧ W.cell? ⟨bx, ox + x, none⟩ = some (.int .i64 xk) ∧ W.cell? ⟨bx, ox + b', none⟩ = some (.int .i64 xb) ∧ Below wB.heap.size wB W) 25 (by kernel_rfl) ?_
                refine Ft.wpAnyR_leadI (by kernel_rfl) ?hQ ?hS0 [0, 1, 2, 3, 4] 20 _ _ (by kernel_rfl) ?_
                case hQ => intro c a d v w h; cases d <;> exact h
                case hS0 => exact s0
                iterate 5 (refine Ft.wpLeadI_read (v := ?_) _ rfl rfl (by rfl) ?_ ?_; rotate_left; (intro W hW; (try dsimp only at hW); go_simp; (try with_reducible rfl)); try simp only [Act.put, List.setIfInBounds_toArray, List.set_cons_succ, List.set_cons_zero])
                simp only [Ft.wpLeadI]
                refine Ft.wpAnyR_one (i := 5) rfl (by kernel_rfl) ?_
                intro K1 hK1
                go_simp
                refine (HH.out _ s0.2.2.2).mono ?_
                rintro e x1 ⟨rfl, rfl⟩
                refine hK1.out _ _ s0 ?_
                clear hK1 K1
                refine Ft.wpAnyR_leadI (by kernel_rfl) ?hQ ?hS0 [6, 7, 8, 9, 10, 11, 12, 13, 14, 15, 16, 17, 18, 19, 20, 21, 22, 23, 24] 0 _ _ (by kernel_rfl) ?_
                case hQ => intro c a d v w h; cases d <;> exact h
                case hS0 => exact s0
                iterate 19 (refine Ft.wpLeadI_read (v := ?_) _ rfl rfl (by rfl) ?_ ?_; rotate_left; (intro W hW; (try dsimp only at hW); go_simp; (try with_reducible rfl)); try simp only [Act.put, List.setIfInBounds_toArray, List.set_cons_succ, List.set_cons_zero])
                simp only [Ft.wpLeadI]
                refine ⟨by kernel_rfl, ?_⟩
                have HBN := Lib.hid (blw HBJ.out s0.2.2.2)
                have cxn := s0.1
                clear s0
                go_wp2
                go_roundw
                case rel => exact ⟨j + 1, some x, by omega, by go_num, rfl, HS, HBN⟩
                case measure => simp [intOf]; omega
              · rw [if_neg hgt] at hbn
                have HS := Lib.hid hbn
                have hgd : decide (xb < xk) = false := decide_eq_false hgt
                clear hbn
                have s0 : wB.drew.cell? ⟨bl, ol + j, none⟩ = some (.int .i64 (x : Int)) ∧ wB.drew.cell? ⟨bx, ox + x, none⟩ = some (.int .i64 xk) ∧ wB.drew.cell? ⟨bx, ox + b', none⟩ = some (.int .i64 xb) ∧ Below wB.heap.size wB wB.drew := ⟨cx, ck, cb, Sri.dr wB⟩
                clear cx ck cb
                go_wp2_with fail
                refine Ft.wp_region_R (fun (W : World) => W.cell? ⟨bl, ol + j, none⟩ = some (.int .i64 (x : Int)) ∧ W.cell? ⟨bx, ox + x, none⟩ = some (.int .i64 xk) ∧ W.cell? ⟨bx, ox + b', none⟩ = some (.int .i64 xb) ∧ Below wB.heap.size wB W) 25 (by kernel_rfl) ?_
                refine Ft.wpAnyR_leadI (by kernel_rfl) ?hQ ?hS0 [0, 1, 2, 3, 4] 20 _ _ (by kernel_rfl) ?_
                case hQ => intro c a d v w h; cases d <;> exact h
                case hS0 => exact s0
                iterate 5 (refine Ft.wpLeadI_read (v := ?_) _ rfl rfl (by rfl) ?_ ?_; rotate_left; (intro W hW; (try dsimp only at hW); go_simp; (try with_reducible rfl)); try simp only [Act.put, List.setIfInBounds_toArray, List.set_cons_succ, List.set_cons_zero])
                simp only [Ft.wpLeadI]
                refine Ft.wpAnyR_one (i := 5) rfl (by kernel_rfl) ?_
                intro K1 hK1
                go_simp
                refine (HH.out _ s0.2.2.2).mono ?_
                rintro e x1 ⟨rfl, rfl⟩
                refine hK1.out _ _ s0 ?_
                clear hK1 K1
                refine Ft.wpAnyR_leadI (by kernel_rfl) ?hQ ?hS0 [6, 7, 8, 9, 10, 11, 12, 13, 14, 15, 16, 17, 18, 19, 20, 21, 22, 23, 24] 0 _ _ (by kernel_rfl) ?_
                case hQ => intro c a d v w h; cases d <;> exact h
                case hS0 => exact s0
                iterate 19 (refine Ft.wpLeadI_read (v := ?_) _ rfl rfl (by rfl) ?_ ?_; rotate_left; (intro W hW; (try dsimp only at hW); go_simp; (try with_reducible rfl)); try simp only [Act.put, List.setIfInBounds_toArray, List.set_cons_succ, List.set_cons_zero])
                simp only [Ft.wpLeadI]
                refine ⟨by kernel_rfl, ?_⟩
                have HBN := Lib.hid (blw HBJ.out s0.2.2.2)
                have cxn := s0.1
                clear s0
                go_wp2
                go_roundw
                case rel => exact ⟨j + 1, some b', by omega, by go_num, rfl, HS, HBN⟩
                case measure => simp [intOf]; omega
        · have hjn : j = n := by omega
          subst j
          have ho : o = some bx0 := by rw [← HBO.out, HB0.out]
          subst ho
          rw [show optI (some bx0) = (bx0 : Int) from rfl]
          have hsz := HB.out.size
          have HBW := Lib.hid (HB.out.trans (HBJ.out.mono hsz))
          have hsz2 := HBW.out.size
          go_wp2_with (at_builtin; refine Dag.wpList_appg rfl _ _ 27 3 (.int .i64 0) 8 Tryz.underlying27 Dag.info_int rfl (by decide) rfl w3.heap.size (.slice Ao k co) (Dag.ints (num F)) rfl (Own1.below (HO.out.below HBJ.out) ((Below.refl _ _).alloc (Nat.le_refl _) _)) (some ⟨wB.heap.size, 0, none⟩) 1 1 [.int .i64 bx0] rfl rfl (Sl.one rfl) (by simp [Value.oneCell']) (by rw [Dag.ints_len, HFL.out]; simp; omega) (by simp; omega) ?_; intro l9 A9 c9 w9 el ho9 _ _ hbl9; have HO9 := Lib.hid ho9; have HBL := Lib.hid ((HBW.out.alloc hsz2 _).trans hbl9); have EL := Lib.hid el; clear ho9 hbl9 el)
          have HNW : Hid (l9 = Dag.ints (num (fallN (atL xs) L (k + 1)))) := Lib.hid (by rw [EL.out, HFN.out]; simp [Dag.ints, num])
          have HNN : Hid (l9.length = k + 1) := Lib.hid (by rw [EL.out, List.length_append, Dag.ints_len, HFL.out]; rfl)
          go_roundw
          case rel => exact ⟨k + 1, A9, c9, by omega, by rw [HNN.out], Lib.hid (by have := HO9.out; rw [HNN.out, HNW.out] at this; exact this), HBL⟩
          case measure => show n - l9.length < n - k; rw [HNN.out]; omega
    · obtain rfl : k = n := by omega
      have HPL : Hid (P.length = k) := Lib.hid (by rw [HP.out, num_len]; exact (fall_inv (atL xs) L HND.out k (by rw [HLL.out]; exact Nat.le_refl _)).1)
      go_wp2
      go_ret2
      exact ⟨Ao, co, by rw [HPL.out]; rfl, by rw [HP.out]; exact (Dag.OwnI.ints' HO.out).2, blw HB3.out HB.out⟩
end Go.Proofs.YtaiolhanbjndcaaGreatDoor

