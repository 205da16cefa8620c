/- Layer 7: the document's up and down: rounds in place. -/
import Derived.Test.YtkicanegjkemoaaDoorRnkDown
namespace Go.Proofs.YtkicanegjkemoaaDoor
open Go.RowKit
open Dag (Ints Own1 Sl num num_len num_get Gr newE order befL behL bef_mem beh_mem order_ord)
set_option linter.unusedVariables false
set_option maxRecDepth 100000

theorem chk_facts {f : FlowD} (hc : checkE f = 0) : (order (afterL f.tasks)).length = f.tasks.length ∧ Dag.Valid (afterL f.tasks) ∧ Wts f.tasks := by
  have h := chk_new hc
  unfold newE at h
  cases hok : Dag.okAll (afterL f.tasks) with
  | false => rw [hok] at h; simp at h
  | true =>
    rw [hok] at h
    simp only [if_true] at h
    have hle := (order_ord (afterL f.tasks)).len
    rw [afterL_len] at hle h
    refine ⟨?_, Dag.okAll_iff.1 hok, fun v => ?_⟩
    · split at h
      · cases h
      · omega
    · unfold wtAt
      split
      · rename_i t ht
        have := nums_wgt hc (List.mem_of_getElem? ht) false
        exact ⟨this.1, this.2.1⟩
      · exact ⟨Int.le_refl _, by decide⟩
def partUp (ts : List TaskD) (xs : List Int) (v k : Nat) : Int := maxL (((List.range k).filter fun w => Dag.arc (afterL ts) w v).map (atL xs))
theorem partUp_succ (ts : List TaskD) (xs : List Int) (v k : Nat) : partUp ts xs v (k + 1) = if Dag.arc (afterL ts) k v = true then max (partUp ts xs v k) (atL xs k) else partUp ts xs v k := by
  unfold partUp
  rw [List.range_succ, List.filter_append]
  split
  · rename_i h
    rw [List.filter_cons_of_pos (by simpa using h), List.filter_nil, List.map_append, List.map_cons, List.map_nil, maxL_snoc]
  · rename_i h
    rw [List.filter_cons_of_neg (by simpa using h), List.filter_nil, List.append_nil]
theorem partUp_all (ts : List TaskD) (xs : List Int) (v : Nat) : partUp ts xs v ts.length + wtAt ts v = upS ts (atL xs) v := by
  unfold partUp upS behL
  rw [afterL_len]
theorem arc_at {ts : List TaskD} {k v : Nat} {t : TaskD} (h : ts[k]? = some t) : Dag.arc (afterL ts) k v = decide ((v : Int) ∈ t.after) := by
  unfold Dag.arc
  rw [Dag.row_some (by unfold afterL; rw [List.getElem?_map, h]; rfl)]

set_option maxHeartbeats 3200000 in
theorem rup_any (f : FlowD) (A : Option Addr) (c : Nat) (w : World) (h : Tasks w A c f.tasks) (hc : checkE f = 0) (hlen : f.tasks.length ≤ 30) :
    Calls Tryd.prog 48 #[.agg #[.string (sb f.name), .int .i64 f.deadline, .int .i64 f.priority, .slice A f.tasks.length c]] w fun e w' => ∃ A' c', e = .returned (.slice A' f.tasks.length c') ∧ Ints w' A' c' (numsU f.tasks.length (upD f.tasks)) ∧ Below w.heap.size w w' := by
  obtain ⟨hf, hV, hW⟩ := chk_facts hc
  have H := Lib.hid h; have HF := Lib.hid hf; have HV := Lib.hid hV; have HW := Lib.hid hW
  have hmk := fun W : World => Dag.run_mk W 41 3 _ 8 Tryd.underlying41 Dag.info_int rfl (by decide) f.tasks.length (by omega) _ _ rfl rfl
  clear h hf hV hW hc
  go_enter Tryd.func48, Tryd.ntmps48
  have hB0 := blw (al w (flowO f A c)) (al (w.alloc (flowO f A c)) (.cells (Array.replicate f.tasks.length (.int .i64 0)) 3))
  have hO0 := keep_obj (al (w.alloc (flowO f A c)) (.cells (Array.replicate f.tasks.length (.int .i64 0)) 3)) (heap_alloc_new w (flowO f A c))
  have hR0 : Own1 ((w.alloc (flowO f A c)).alloc (.cells (Array.replicate f.tasks.length (.int .i64 0)) 3)) (w.heap.size + 1) 3 (.slice (some ⟨w.heap.size + 1, 0, none⟩) f.tasks.length f.tasks.length) (Dag.ints (List.replicate f.tasks.length 0)) := by
    rw [show Dag.ints (List.replicate f.tasks.length 0) = List.replicate f.tasks.length (.int .i64 0) from by simp [Dag.ints]]
    have := Own1.make (w.alloc (flowO f A c)) (w.heap.size + 1) 3 (by simp) f.tasks.length (by omega) (.int .i64 0) rfl
    rwa [show (w.alloc (flowO f A c)).heap.size = w.heap.size + 1 from by simp] at this
  have HBD := Lib.hid fun i (hi : i < f.tasks.length) => upD_bd HF.out HV.out HW.out f.tasks.length i hi (by unfold upM; omega)
  go_wp2
  unfold flowO at hB0 hO0 hR0
  generalize (w.alloc (.cells #[.string (sb f.name), .int .i64 f.deadline, .int .i64 f.priority, .slice A f.tasks.length c] 24)).alloc (.cells (Array.replicate f.tasks.length (.int .i64 0)) 3) = W0 at hB0 hO0 hR0 ⊢
  have HB0 := Lib.hid hB0; have HR0 := Lib.hid hR0
  have HO0 : Hid (W0.heap[w.heap.size]? = some (flowO f A c)) := Lib.hid hO0
  clear hB0 hO0 hR0 hmk
  obtain ⟨dl, hdl⟩ : ∃ dl, w.heap.size + 1 = dl := ⟨_, rfl⟩
  rw [hdl] at HR0 ⊢
  have HDL := Lib.hid hdl
  clear hdl
  go_loopw [4] (fun i wr => ∃ (r : Nat) (xs : List Int), r ≤ f.tasks.length ∧ i = .int .i64 r ∧ Hid (Rnd (upD f.tasks) (upM f.tasks) f.tasks.length r 0 xs) ∧ Hid (Own1 wr dl 3 (.slice (some ⟨dl, 0, none⟩) f.tasks.length f.tasks.length) (Dag.ints xs)) ∧ Hid (Below w.heap.size w wr) ∧ Hid (wr.heap[w.heap.size]? = some (flowO f A c))) (fun i _ => f.tasks.length - (intOf i).toNat)
  case atStart => exact ⟨0, _, Nat.zero_le _, rfl, Lib.hid (Rnd.start fun i hi => (HBD.out i hi).1), HR0, HB0, HO0⟩
  case round =>
    clear HR0 HB0 HO0
    obtain ⟨r, xs, hr, rfl, HD, HR, HB, HO⟩ := hrel
    obtain ⟨wA, rfl⟩ : ∃ x, x = wr := ⟨wr, rfl⟩
    by_cases hlr : r < f.tasks.length
    · go_wp2
      go_loopw [5] (fun i wr => ∃ (v : Nat) (xs : List Int), v ≤ f.tasks.length ∧ i = .int .i64 v ∧ Hid (Rnd (upD f.tasks) (upM f.tasks) f.tasks.length r v xs) ∧ Hid (Own1 wr dl 3 (.slice (some ⟨dl, 0, none⟩) f.tasks.length f.tasks.length) (Dag.ints xs)) ∧ Hid (Below w.heap.size w wr) ∧ Hid (wr.heap[w.heap.size]? = some (flowO f A c))) (fun i _ => f.tasks.length - (intOf i).toNat)
      case atStart => exact ⟨0, xs, Nat.zero_le _, rfl, HD, HR, HB, HO⟩
      case round =>
        clear HD HR HB HO
        obtain ⟨v, xs, hv, rfl, HD, HR, HB, HO⟩ := hrel
        obtain ⟨wB, rfl⟩ : ∃ x, x = wr := ⟨wr, rfl⟩
        by_cases hlv : v < f.tasks.length
        · obtain ⟨p0, p1, p2, p3, hp⟩ := flowO_cells HO.out
          go_wp2
          go_loop [6, 7] (fun mm i => ∃ (k : Nat) (y : Int), k ≤ f.tasks.length ∧ i = .int .i64 k ∧ mm = .int .i64 y ∧ Hid (y = partUp f.tasks xs v k)) (fun _ i => f.tasks.length - (intOf i).toNat)
          case atStart => exact ⟨0, 0, Nat.zero_le _, rfl, rfl, Lib.hid rfl⟩
          case round =>
            obtain ⟨k, y, hk, rfl, rfl, HY⟩ := hrel
            by_cases hlk : k < f.tasks.length
            · obtain ⟨t, ht⟩ : ∃ t, f.tasks[k]? = some t := ⟨_, List.getElem?_eq_getElem hlk⟩
              obtain ⟨b, off, A2, c2, eA, h0, h1, h2, h3, h4, h5, hI⟩ := (H.out.below HB.out).cells k t ht
              subst eA
              obtain ⟨x, hx⟩ : ∃ x, xs[k]? = some x := ⟨_, List.getElem?_eq_getElem (by rw [HD.out.len]; exact hlk)⟩
              obtain ⟨_, e1, _, _, cx, _⟩ := Own1.at_ HR.out (Dag.ints_get hx)
              injection e1 with e1; injection e1 with e1; subst e1
              have hS := partUp_succ f.tasks xs v k
              rw [arc_at ht, ← HY.out, atL_some hx] at hS
              obtain ⟨bb, hbb⟩ : ∃ bb, decide ((v : Int) ∈ t.after) = bb := ⟨_, rfl⟩
              rw [hbb] at hS
              have HHS := Lib.hid (Dag.hasI_any t.after _ rfl (v : Int) wB A2 c2 hI bb hbb)
              clear hx ht hI hbb
              cases bb with
              | true =>
                have HS := Lib.hid hS
                clear hS
                go_wp2_with (go_at_call 24; refine HHS.out.mono ?_; rintro e w' ⟨rfl, rfl⟩)
                go_round
                case rel => exact ⟨k + 1, max y x, by omega, by go_num, rfl, Lib.hid (by rw [HS.out]; rfl)⟩
                case measure => simp [intOf]; omega
              | false =>
                have HS := Lib.hid hS
                clear hS
                go_wp2_with (go_at_call 24; refine HHS.out.mono ?_; rintro e w' ⟨rfl, rfl⟩)
                go_round
                case rel => exact ⟨k + 1, y, by omega, by go_num, rfl, Lib.hid (by rw [HS.out]; rfl)⟩
                case measure => simp [intOf]; omega
            · obtain rfl : k = f.tasks.length := by omega
              obtain ⟨t, ht⟩ : ∃ t, f.tasks[v]? = some t := ⟨_, List.getElem?_eq_getElem hlv⟩
              obtain ⟨b, off, A2, c2, eA, h0, h1, h2, h3, h4, h5, hI⟩ := (H.out.below HB.out).cells v t ht
              subst eA
              obtain ⟨xv, hxv⟩ : ∃ x, xs[v]? = some x := ⟨_, List.getElem?_eq_getElem (by rw [HD.out.len]; exact hlv)⟩
              have hy0 : 0 ≤ y := by rw [HY.out]; exact maxL_nonneg _
              have hy1 : y ≤ (f.tasks.length : Int) * maxT := by
                rw [HY.out]
                refine maxL_le (Int.mul_nonneg (by omega) (by decide)) fun x hx => ?_
                obtain ⟨u, hu, rfl⟩ := List.mem_map.1 hx
                have hul := List.mem_range.1 (List.mem_filter.1 hu).1
                obtain ⟨xu, hxu⟩ : ∃ x, xs[u]? = some x := ⟨_, List.getElem?_eq_getElem (by rw [HD.out.len]; exact hul)⟩
                rw [atL_some hxu]
                have h1 := (HD.out.lo u xu hxu).2
                have h2 := (HBD.out u hul).2
                omega
              have hy2 : y ≤ 30 * 1099511627775 := by
                have : (f.tasks.length : Int) * maxT ≤ 30 * maxT := Int.mul_le_mul_of_nonneg_right (by omega) (by decide)
                unfold maxT at this hy1; omega
              obtain ⟨hw0, hw1⟩ := HW.out v
              have hwt := fun (W : World) => rweight_any t A2 c2 W
              have hup := partUp_all f.tasks xs v
              rw [← HY.out] at hup
              rw [wtAt_some ht] at hw0 hw1 hup
              obtain ⟨av, hav⟩ : ∃ av, wgt t = av := ⟨_, rfl⟩
              rw [hav] at hwt hw0 hw1 hup
              unfold maxT at hw1
              have hnx := HD.out.next (R := behL (afterL f.tasks)) hlv (upD_step HF.out HV.out hlv) (upS_loc f.tasks) (upS_mono f.tasks) (fun w hw => ⟨(up_arc HF.out HV.out hw).2.1, (up_arc HF.out HV.out hw).2.2⟩) (by rw [← hup]; omega)
              rw [← hup] at hnx
              have HNX := Lib.hid hnx
              have HWT := Lib.hid hwt; have HXV := Lib.hid hxv
              have hlb := World.block_lt_of_cell? wB _ h0
              clear ht hI hxv hy1 hwt hup hav hnx
              go_wp2_with (go_at_call 27; refine (HWT.out _).mono ?_; rintro e x1 ⟨rfl, hb1⟩; have hr1 := HR.out.below hb1; obtain ⟨_, e1, _, _, cv, fv, _, hset⟩ := Own1.at_ hr1 (Dag.ints_get HXV.out); injection e1 with e1; injection e1 with e1; subst e1; have HSET := Lib.hid hset; have HB1 := Lib.hid (blw HB.out hb1); have HO1 := Lib.hid (keep_obj hb1 HO.out); clear hr1 hset hb1)
              have HRN : Hid (Own1 (x1.setCell ⟨dl, v, none⟩ (.int .i64 (y + av))) dl 3 (.slice (some ⟨dl, 0, none⟩) f.tasks.length f.tasks.length) (Dag.ints (xs.set v (y + av)))) := Lib.hid (by
                have := HSET.out (.int .i64 (y + av))
                rwa [show (Dag.ints xs).set v (.int .i64 (y + av)) = Dag.ints (xs.set v (y + av)) from by unfold Dag.ints; rw [List.map_set]] at this)
              have HBN : Hid (Below w.heap.size w (x1.setCell ⟨dl, v, none⟩ (.int .i64 (y + av)))) := Lib.hid (HB1.out.setCell (p := ⟨dl, v, none⟩) (by have := HDL.out; show w.heap.size ≤ dl; omega) _)
              have HON : Hid ((x1.setCell ⟨dl, v, none⟩ (.int .i64 (y + av))).heap[w.heap.size]? = some (flowO f (some ⟨b, off, none⟩) c)) := Lib.hid ((Dag.blk_other (by have := HDL.out; omega)).trans HO1.out)
              go_roundw
              case rel => exact ⟨v + 1, xs.set v (y + av), by omega, by go_num, HNX, HRN, HBN, HON⟩
              case measure => simp [intOf]; omega
        · obtain rfl : v = f.tasks.length := by omega
          have HD2 := Lib.hid HD.out.round
          go_wp2
          go_roundw
          case rel => exact ⟨r + 1, xs, by omega, by go_num, HD2, HR, HB, HO⟩
          case measure => simp [intOf]; omega
    · obtain rfl : r = f.tasks.length := by omega
      have HX := Lib.hid (HD.out.done fun i hi => by unfold upM; omega)
      go_wp2
      go_ret
      refine ⟨_, _, rfl, ?_, HB.out⟩
      have := (Own1.sl HR.out).2
      rwa [HX.out] at this
end Go.Proofs.YtkicanegjkemoaaDoor

