/- Layer 7: the document's up and down: rounds in place.
   Layer 7: the document's down: rounds in place.
   Layer 7: the document's Ranks.
   Layer 7: the document's Length. -/
import Derived.Test.YtaiolhanbjndcaaGreatDoorMGra
namespace Go.Proofs.YtaiolhanbjndcaaGreatDoor
open Go.RowKit
open Dag (Ints Own1 Sl num num_len num_get Gr newE order befL behL bef_mem beh_mem order_ord)
set_option linter.unusedVariables false
set_option maxRecDepth 100000

theorem chk_facts {f : FlowD} (hc : checkE f = 0) : (order (afterL f.tasks)).length = f.tasks.length ∧ Dag.Valid (afterL f.tasks) ∧ Wts f.tasks := by
  have h := chk_new hc
  unfold newE at h
  cases hok : Dag.okAll (afterL f.tasks) with
  | false => rw [hok] at h; simp at h
  | true =>
    rw [hok] at h
    simp only [if_true] at h
    have hle := (order_ord (afterL f.tasks)).len
    rw [afterL_len] at hle h
    refine ⟨?_, Dag.okAll_iff.1 hok, fun v => ?_⟩
    · split at h
      · cases h
      · omega
    · unfold wtAt
      split
      · rename_i t ht
        have := nums_wgt hc (List.mem_of_getElem? ht) false
        exact ⟨this.1, this.2.1⟩
      · exact ⟨Int.le_refl _, by decide⟩
def partUp (ts : List TaskD) (xs : List Int) (v k : Nat) : Int := maxL (((List.range k).filter fun w => Dag.arc (afterL ts) w v).map (atL xs))
theorem partUp_succ (ts : List TaskD) (xs : List Int) (v k : Nat) : partUp ts xs v (k + 1) = if Dag.arc (afterL ts) k v = true then max (partUp ts xs v k) (atL xs k) else partUp ts xs v k := by
  unfold partUp
  rw [List.range_succ, List.filter_append]
  split
  · rename_i h
    rw [List.filter_cons_of_pos (by simpa using h), List.filter_nil, List.map_append, List.map_cons, List.map_nil, maxL_snoc]
  · rename_i h
    rw [List.filter_cons_of_neg (by simpa using h), List.filter_nil, List.append_nil]
theorem partUp_all (ts : List TaskD) (xs : List Int) (v : Nat) : partUp ts xs v ts.length + wtAt ts v = upS ts (atL xs) v := by
  unfold partUp upS behL
  rw [afterL_len]
theorem arc_at {ts : List TaskD} {k v : Nat} {t : TaskD} (h : ts[k]? = some t) : Dag.arc (afterL ts) k v = decide ((v : Int) ∈ t.after) := by
  unfold Dag.arc
  rw [Dag.row_some (by unfold afterL; rw [List.getElem?_map, h]; rfl)]

set_option maxHeartbeats 3200000 in
theorem rup_any (f : FlowD) (A : Option Addr) (c : Nat) (w : World) (h : Tasks w A c f.tasks) (hc : checkE f = 0) (hlen : f.tasks.length ≤ 30) :
    Calls Tryz.prog 30 #[.agg #[.string (sb f.name), .int .i64 f.deadline, .int .i64 f.priority, .slice A f.tasks.length c]] w fun e w' => ∃ A' c', e = .returned (.slice A' f.tasks.length c') ∧ Ints w' A' c' (numsU f.tasks.length (upD f.tasks)) ∧ Below w.heap.size w w' := by
  obtain ⟨hf, hV, hW⟩ := chk_facts hc
  have H := Lib.hid h; have HF := Lib.hid hf; have HV := Lib.hid hV; have HW := Lib.hid hW
  have hmk := fun W : World => Dag.run_mk W 27 3 _ 8 Tryz.underlying27 Dag.info_int rfl (by decide) f.tasks.length (by omega) _ _ rfl rfl
  clear h hf hV hW hc
  go_enter Tryz.func30, Tryz.ntmps30
  have hB0 := blw (al w (flowO f A c)) (al (w.alloc (flowO f A c)) (.cells (Array.replicate f.tasks.length (.int .i64 0)) 3))
  have hO0 := keep_obj (al (w.alloc (flowO f A c)) (.cells (Array.replicate f.tasks.length (.int .i64 0)) 3)) (heap_alloc_new w (flowO f A c))
  have hR0 : Own1 ((w.alloc (flowO f A c)).alloc (.cells (Array.replicate f.tasks.length (.int .i64 0)) 3)) (w.heap.size + 1) 3 (.slice (some ⟨w.heap.size + 1, 0, none⟩) f.tasks.length f.tasks.length) (Dag.ints (List.replicate f.tasks.length 0)) := by
    rw [show Dag.ints (List.replicate f.tasks.length 0) = List.replicate f.tasks.length (.int .i64 0) from by simp [Dag.ints]]
    have := Own1.make (w.alloc (flowO f A c)) (w.heap.size + 1) 3 (by simp) f.tasks.length (by omega) (.int .i64 0) rfl
    rwa [show (w.alloc (flowO f A c)).heap.size = w.heap.size + 1 from by simp] at this
  have HBD := Lib.hid fun i (hi : i < f.tasks.length) => upD_bd HF.out HV.out HW.out f.tasks.length i hi (by unfold upM; omega)
  go_wp2
  unfold flowO at hB0 hO0 hR0
  generalize (w.alloc (.cells #[.string (sb f.name), .int .i64 f.deadline, .int .i64 f.priority, .slice A f.tasks.length c] 24)).alloc (.cells (Array.replicate f.tasks.length (.int .i64 0)) 3) = W0 at hB0 hO0 hR0 ⊢
  have HB0 := Lib.hid hB0; have HR0 := Lib.hid hR0
  have HO0 : Hid (W0.heap[w.heap.size]? = some (flowO f A c)) := Lib.hid hO0
  clear hB0 hO0 hR0 hmk
  obtain ⟨dl, hdl⟩ : ∃ dl, w.heap.size + 1 = dl := ⟨_, rfl⟩
  rw [hdl] at HR0 ⊢
  have HDL := Lib.hid hdl
  clear hdl
  go_loopw [4] (fun i wr => ∃ (r : Nat) (xs : List Int), r ≤ f.tasks.length ∧ i = .int .i64 r ∧ Hid (Rnd (upD f.tasks) (upM f.tasks) f.tasks.length r 0 xs) ∧ Hid (Own1 wr dl 3 (.slice (some ⟨dl, 0, none⟩) f.tasks.length f.tasks.length) (Dag.ints xs)) ∧ Hid (Below w.heap.size w wr) ∧ Hid (wr.heap[w.heap.size]? = some (flowO f A c))) (fun i _ => f.tasks.length - (intOf i).toNat)
  case atStart => exact ⟨0, _, Nat.zero_le _, rfl, Lib.hid (Rnd.start fun i hi => (HBD.out i hi).1), HR0, HB0, HO0⟩
  case round =>
    clear HR0 HB0 HO0
    obtain ⟨r, xs, hr, rfl, HD, HR, HB, HO⟩ := hrel
    obtain ⟨wA, rfl⟩ : ∃ x, x = wr := ⟨wr, rfl⟩
    by_cases hlr : r < f.tasks.length
    · go_wp2
      go_loopw [5] (fun i wr => ∃ (v : Nat) (xs : List Int), v ≤ f.tasks.length ∧ i = .int .i64 v ∧ Hid (Rnd (upD f.tasks) (upM f.tasks) f.tasks.length r v xs) ∧ Hid (Own1 wr dl 3 (.slice (some ⟨dl, 0, none⟩) f.tasks.length f.tasks.length) (Dag.ints xs)) ∧ Hid (Below w.heap.size w wr) ∧ Hid (wr.heap[w.heap.size]? = some (flowO f A c))) (fun i _ => f.tasks.length - (intOf i).toNat)
      case atStart => exact ⟨0, xs, Nat.zero_le _, rfl, HD, HR, HB, HO⟩
      case round =>
        clear HD HR HB HO
        obtain ⟨v, xs, hv, rfl, HD, HR, HB, HO⟩ := hrel
        obtain ⟨wB, rfl⟩ : ∃ x, x = wr := ⟨wr, rfl⟩
        by_cases hlv : v < f.tasks.length
        · obtain ⟨p0, p1, p2, p3, hp⟩ := flowO_cells HO.out
          go_wp2
          go_loop [6, 7] (fun mm i => ∃ (k : Nat) (y : Int), k ≤ f.tasks.length ∧ i = .int .i64 k ∧ mm = .int .i64 y ∧ Hid (y = partUp f.tasks xs v k)) (fun _ i => f.tasks.length - (intOf i).toNat)
          case atStart => exact ⟨0, 0, Nat.zero_le _, rfl, rfl, Lib.hid rfl⟩
          case round =>
            obtain ⟨k, y, hk, rfl, rfl, HY⟩ := hrel
            by_cases hlk : k < f.tasks.length
            · obtain ⟨t, ht⟩ : ∃ t, f.tasks[k]? = some t := ⟨_, List.getElem?_eq_getElem hlk⟩
              obtain ⟨b, off, A2, c2, eA, h0, h1, h2, h3, h4, h5, hI⟩ := (H.out.below HB.out).cells k t ht
              subst eA
              obtain ⟨x, hx⟩ : ∃ x, xs[k]? = some x := ⟨_, List.getElem?_eq_getElem (by rw [HD.out.len]; exact hlk)⟩
              obtain ⟨_, e1, _, _, cx, _⟩ := Own1.at_ HR.out (Dag.ints_get hx)
              injection e1 with e1; injection e1 with e1; subst e1
              have hS := partUp_succ f.tasks xs v k
              rw [arc_at ht, ← HY.out, atL_some hx] at hS
              obtain ⟨bb, hbb⟩ : ∃ bb, decide ((v : Int) ∈ t.after) = bb := ⟨_, rfl⟩
              rw [hbb] at hS
              have HHS := Lib.hid (Dag.hasI_any t.after _ rfl (v : Int) wB A2 c2 hI bb hbb)
              clear hx ht hI hbb
              cases bb with
              | true =>
                have HS := Lib.hid hS
                clear hS
                go_wp2_with (go_at_call 24; refine HHS.out.mono ?_; rintro e w' ⟨rfl, rfl⟩)
                go_round
                case rel => exact ⟨k + 1, max y x, by omega, by go_num, rfl, Lib.hid (by rw [HS.out]; rfl)⟩
                case measure => simp [intOf]; omega
              | false =>
                have HS := Lib.hid hS
                clear hS
                go_wp2_with (go_at_call 24; refine HHS.out.mono ?_; rintro e w' ⟨rfl, rfl⟩)
                go_round
                case rel => exact ⟨k + 1, y, by omega, by go_num, rfl, Lib.hid (by rw [HS.out]; rfl)⟩
                case measure => simp [intOf]; omega
            · obtain rfl : k = f.tasks.length := by omega
              obtain ⟨t, ht⟩ : ∃ t, f.tasks[v]? = some t := ⟨_, List.getElem?_eq_getElem hlv⟩
              obtain ⟨b, off, A2, c2, eA, h0, h1, h2, h3, h4, h5, hI⟩ := (H.out.below HB.out).cells v t ht
              subst eA
              obtain ⟨xv, hxv⟩ : ∃ x, xs[v]? = some x := ⟨_, List.getElem?_eq_getElem (by rw [HD.out.len]; exact hlv)⟩
              have hy0 : 0 ≤ y := by rw [HY.out]; exact maxL_nonneg _
              have hy1 : y ≤ (f.tasks.length : Int) * maxT := by
                rw [HY.out]
                refine maxL_le (Int.mul_nonneg (by omega) (by decide)) fun x hx => ?_
                obtain ⟨u, hu, rfl⟩ := List.mem_map.1 hx
                have hul := List.mem_range.1 (List.mem_filter.1 hu).1
                obtain ⟨xu, hxu⟩ : ∃ x, xs[u]? = some x := ⟨_, List.getElem?_eq_getElem (by rw [HD.out.len]; exact hul)⟩
                rw [atL_some hxu]
                have h1 := (HD.out.lo u xu hxu).2
                have h2 := (HBD.out u hul).2
                omega
              have hy2 : y ≤ 30 * 1099511627775 := by
                have : (f.tasks.length : Int) * maxT ≤ 30 * maxT := Int.mul_le_mul_of_nonneg_right (by omega) (by decide)
                unfold maxT at this hy1; omega
              obtain ⟨hw0, hw1⟩ := HW.out v
              have hwt := fun (W : World) => rweight_any t A2 c2 W
              have hup := partUp_all f.tasks xs v
              rw [← HY.out] at hup
              rw [wtAt_some ht] at hw0 hw1 hup
              obtain ⟨av, hav⟩ : ∃ av, wgt t = av := ⟨_, rfl⟩
              rw [hav] at hwt hw0 hw1 hup
              unfold maxT at hw1
              have hnx := HD.out.next (R := behL (afterL f.tasks)) hlv (upD_step HF.out HV.out hlv) (upS_loc f.tasks) (upS_mono f.tasks) (fun w hw => ⟨(up_arc HF.out HV.out hw).2.1, (up_arc HF.out HV.out hw).2.2⟩) (by rw [← hup]; omega)
              rw [← hup] at hnx
              have HNX := Lib.hid hnx
              have HWT := Lib.hid hwt; have HXV := Lib.hid hxv
              have hlb := World.block_lt_of_cell? wB _ h0
              clear ht hI hxv hy1 hwt hup hav hnx
              go_wp2_with (go_at_call 52; refine (HWT.out _).mono ?_; rintro e x1 ⟨rfl, hb1⟩; have hr1 := HR.out.below hb1; obtain ⟨_, e1, _, _, cv, fv, _, hset⟩ := Own1.at_ hr1 (Dag.ints_get HXV.out); injection e1 with e1; injection e1 with e1; subst e1; have HSET := Lib.hid hset; have HB1 := Lib.hid (blw HB.out hb1); have HO1 := Lib.hid (keep_obj hb1 HO.out); clear hr1 hset hb1)
              have HRN : Hid (Own1 (x1.setCell ⟨dl, v, none⟩ (.int .i64 (y + av))) dl 3 (.slice (some ⟨dl, 0, none⟩) f.tasks.length f.tasks.length) (Dag.ints (xs.set v (y + av)))) := Lib.hid (by
                have := HSET.out (.int .i64 (y + av))
                rwa [show (Dag.ints xs).set v (.int .i64 (y + av)) = Dag.ints (xs.set v (y + av)) from by unfold Dag.ints; rw [List.map_set]] at this)
              have HBN : Hid (Below w.heap.size w (x1.setCell ⟨dl, v, none⟩ (.int .i64 (y + av)))) := Lib.hid (HB1.out.setCell (p := ⟨dl, v, none⟩) (by have := HDL.out; show w.heap.size ≤ dl; omega) _)
              have HON : Hid ((x1.setCell ⟨dl, v, none⟩ (.int .i64 (y + av))).heap[w.heap.size]? = some (flowO f (some ⟨b, off, none⟩) c)) := Lib.hid ((Dag.blk_other (by have := HDL.out; omega)).trans HO1.out)
              go_roundw
              case rel => exact ⟨v + 1, xs.set v (y + av), by omega, by go_num, HNX, HRN, HBN, HON⟩
              case measure => simp [intOf]; omega
        · obtain rfl : v = f.tasks.length := by omega
          have HD2 := Lib.hid HD.out.round
          go_wp2
          go_roundw
          case rel => exact ⟨r + 1, xs, by omega, by go_num, HD2, HR, HB, HO⟩
          case measure => simp [intOf]; omega
    · obtain rfl : r = f.tasks.length := by omega
      have HX := Lib.hid (HD.out.done fun i hi => by unfold upM; omega)
      go_wp2
      go_ret
      refine ⟨_, _, rfl, ?_, HB.out⟩
      have := (Own1.sl HR.out).2
      rwa [HX.out] at this
end Go.Proofs.YtaiolhanbjndcaaGreatDoor
namespace Go.Proofs.YtaiolhanbjndcaaGreatDoor
open Go.RowKit
open Dag (Ints Own1 Sl num num_len num_get Gr newE order befL behL bef_mem beh_mem order_ord)
set_option linter.unusedVariables false
set_option maxRecDepth 100000

def partDn (ts : List TaskD) (xs l : List Int) (k : Nat) : Int := maxL ((l.take k).map fun z => atL xs z.toNat + wtAt ts z.toNat)
theorem partDn_succ (ts : List TaskD) (xs l : List Int) (k u : Nat) (h : l[k]? = some (u : Int)) : partDn ts xs l (k + 1) = max (partDn ts xs l k) (atL xs u + wtAt ts u) := by
  unfold partDn
  rw [List.take_add_one, h, Option.toList_some, List.map_append, List.map_cons, List.map_nil, maxL_snoc, Int.toNat_natCast]
theorem partDn_all {ts : List TaskD} (hV : Dag.Valid (afterL ts)) (xs : List Int) {l : List Int} {v : Nat} (hl : Dag.row (afterL ts) v = l) : partDn ts xs l l.length = dnS ts (atL xs) v := by
  unfold partDn dnS
  rw [List.take_length]
  refine maxL_eq fun x => ?_
  rw [List.mem_map, List.mem_map]
  constructor
  · rintro ⟨z, hz, rfl⟩
    obtain ⟨u, hzu, hul, _⟩ := hV.at_ (v := v) (x := z) (by rw [hl]; exact hz)
    subst hzu
    exact ⟨u, bef_mem.2 ⟨hul, Dag.arc_iff.2 (by rw [hl]; exact hz)⟩, by rw [Int.toNat_natCast]⟩
  · rintro ⟨u, hu, rfl⟩
    have := Dag.arc_iff.1 (bef_mem.1 hu).2
    rw [hl] at this
    exact ⟨(u : Int), this, by rw [Int.toNat_natCast]⟩

set_option maxHeartbeats 3200000 in
theorem rdown_any (f : FlowD) (A : Option Addr) (c : Nat) (w : World) (h : Tasks w A c f.tasks) (hc : checkE f = 0) (hlen : f.tasks.length ≤ 30) :
    Calls Tryz.prog 29 #[.agg #[.string (sb f.name), .int .i64 f.deadline, .int .i64 f.priority, .slice A f.tasks.length c]] w fun e w' => ∃ A' c', e = .returned (.slice A' f.tasks.length c') ∧ Ints w' A' c' (numsU f.tasks.length (dnD f.tasks)) ∧ Below w.heap.size w w' := by
  obtain ⟨hf, hV, hW⟩ := chk_facts hc
  have H := Lib.hid h; have HF := Lib.hid hf; have HV := Lib.hid hV; have HW := Lib.hid hW
  have hmk := fun W : World => Dag.run_mk W 27 3 _ 8 Tryz.underlying27 Dag.info_int rfl (by decide) f.tasks.length (by omega) _ _ rfl rfl
  clear h hf hV hW hc
  go_enter Tryz.func29, Tryz.ntmps29
  have hB0 := blw (al w (flowO f A c)) (al (w.alloc (flowO f A c)) (.cells (Array.replicate f.tasks.length (.int .i64 0)) 3))
  have hO0 := keep_obj (al (w.alloc (flowO f A c)) (.cells (Array.replicate f.tasks.length (.int .i64 0)) 3)) (heap_alloc_new w (flowO f A c))
  have hR0 : Own1 ((w.alloc (flowO f A c)).alloc (.cells (Array.replicate f.tasks.length (.int .i64 0)) 3)) (w.heap.size + 1) 3 (.slice (some ⟨w.heap.size + 1, 0, none⟩) f.tasks.length f.tasks.length) (Dag.ints (List.replicate f.tasks.length 0)) := by
    rw [show Dag.ints (List.replicate f.tasks.length 0) = List.replicate f.tasks.length (.int .i64 0) from by simp [Dag.ints]]
    have := Own1.make (w.alloc (flowO f A c)) (w.heap.size + 1) 3 (by simp) f.tasks.length (by omega) (.int .i64 0) rfl
    rwa [show (w.alloc (flowO f A c)).heap.size = w.heap.size + 1 from by simp] at this
  have HBD := Lib.hid fun i (hi : i < f.tasks.length) => dnD_bd HF.out HW.out f.tasks.length i hi (pos_lt HF.out hi)
  go_wp2
  unfold flowO at hB0 hO0 hR0
  generalize (w.alloc (.cells #[.string (sb f.name), .int .i64 f.deadline, .int .i64 f.priority, .slice A f.tasks.length c] 24)).alloc (.cells (Array.replicate f.tasks.length (.int .i64 0)) 3) = W0 at hB0 hO0 hR0 ⊢
  have HB0 := Lib.hid hB0; have HR0 := Lib.hid hR0
  have HO0 : Hid (W0.heap[w.heap.size]? = some (flowO f A c)) := Lib.hid hO0
  clear hB0 hO0 hR0 hmk
  obtain ⟨dl, hdl⟩ : ∃ dl, w.heap.size + 1 = dl := ⟨_, rfl⟩
  rw [hdl] at HR0 ⊢
  have HDL := Lib.hid hdl
  clear hdl
  go_loopw [4] (fun i wr => ∃ (r : Nat) (xs : List Int), r ≤ f.tasks.length ∧ i = .int .i64 r ∧ Hid (Rnd (dnD f.tasks) (posD f.tasks) f.tasks.length r 0 xs) ∧ Hid (Own1 wr dl 3 (.slice (some ⟨dl, 0, none⟩) f.tasks.length f.tasks.length) (Dag.ints xs)) ∧ Hid (Below w.heap.size w wr) ∧ Hid (wr.heap[w.heap.size]? = some (flowO f A c))) (fun i _ => f.tasks.length - (intOf i).toNat)
  case atStart => exact ⟨0, _, Nat.zero_le _, rfl, Lib.hid (Rnd.start fun i hi => (HBD.out i hi).1), HR0, HB0, HO0⟩
  case round =>
    clear HR0 HB0 HO0
    obtain ⟨r, xs, hr, rfl, HD, HR, HB, HO⟩ := hrel
    obtain ⟨wA, rfl⟩ : ∃ x, x = wr := ⟨wr, rfl⟩
    by_cases hlr : r < f.tasks.length
    · go_wp2
      go_loopw [5] (fun i wr => ∃ (v : Nat) (xs : List Int), v ≤ f.tasks.length ∧ i = .int .i64 v ∧ Hid (Rnd (dnD f.tasks) (posD f.tasks) f.tasks.length r v xs) ∧ Hid (Own1 wr dl 3 (.slice (some ⟨dl, 0, none⟩) f.tasks.length f.tasks.length) (Dag.ints xs)) ∧ Hid (Below w.heap.size w wr) ∧ Hid (wr.heap[w.heap.size]? = some (flowO f A c))) (fun i _ => f.tasks.length - (intOf i).toNat)
      case atStart => exact ⟨0, xs, Nat.zero_le _, rfl, HD, HR, HB, HO⟩
      case round =>
        clear HD HR HB HO
        obtain ⟨v, xs, hv, rfl, HD, HR, HB, HO⟩ := hrel
        obtain ⟨wB, rfl⟩ : ∃ x, x = wr := ⟨wr, rfl⟩
        by_cases hlv : v < f.tasks.length
        · obtain ⟨p0, p1, p2, p3, hp⟩ := flowO_cells HO.out
          obtain ⟨t, ht⟩ : ∃ t, f.tasks[v]? = some t := ⟨_, List.getElem?_eq_getElem hlv⟩
          obtain ⟨b, off, A2, c2, eA, h0, h1, h2, h3, h4, h5, hI⟩ := (H.out.below HB.out).cells v t ht
          subst eA
          obtain ⟨l, hl⟩ : ∃ l, t.after = l := ⟨_, rfl⟩
          have hrow : Dag.row (afterL f.tasks) v = l := by rw [Dag.row_some (by unfold afterL; rw [List.getElem?_map, ht]; rfl), hl]
          rw [hl] at h5 hI
          have HI := Lib.hid hI; have HRW := Lib.hid hrow
          obtain ⟨xv, hxv⟩ : ∃ x, xs[v]? = some x := ⟨_, List.getElem?_eq_getElem (by rw [HD.out.len]; exact hlv)⟩
          have HXV := Lib.hid hxv
          have hlm := hI.len
          have hlt8 : l.length ≤ 9223372036854775807 := Nat.le_trans hlm (by have := Sl.top hI; simpa [maxLen] using this)
          have hlb := World.block_lt_of_cell? wB _ h0
          clear ht hl hI hrow hxv hlm
          go_wp2
          go_loopw [6, 8] (fun mm i wr => ∃ (k : Nat) (y : Int), k ≤ l.length ∧ i = .int .i64 k ∧ mm = .int .i64 y ∧ Hid (y = partDn f.tasks xs l k) ∧ Hid (Below wB.heap.size wB wr)) (fun _ i _ => l.length - (intOf i).toNat)
          case atStart => exact ⟨0, 0, Nat.zero_le _, rfl, rfl, Lib.hid rfl, Lib.hid (Below.refl _ _)⟩
          case round =>
            clear h0 h1 h2 h3 h4 h5 p0 p1 p2 p3 hp hlb
            obtain ⟨k, y, hk, rfl, rfl, HY, HBK⟩ := hrel
            obtain ⟨wC, rfl⟩ : ∃ x, x = wr := ⟨wr, rfl⟩
            by_cases hlk : k < l.length
            · obtain ⟨z, hz⟩ : ∃ z, l[k]? = some z := ⟨_, List.getElem?_eq_getElem hlk⟩
              obtain ⟨u, hzu, hul, _⟩ := HV.out.at_ (v := v) (x := z) (by rw [HRW.out]; exact List.mem_of_getElem? hz)
              subst hzu
              rw [afterL_len] at hul
              obtain ⟨bz, oz, ez, cz⟩ := (HI.out.below HBK.out).cells k (.int .i64 (u : Int)) (by unfold Dag.ints; rw [List.getElem?_map, hz]; rfl)
              subst ez
              obtain ⟨tu, htu⟩ : ∃ t, f.tasks[u]? = some t := ⟨_, List.getElem?_eq_getElem hul⟩
              have HBC := Lib.hid (blw HB.out HBK.out)
              obtain ⟨b9, off9, A3, c3, eA, h0, h1, h2, h3, h4, h5, hI9⟩ := (H.out.below HBC.out).cells u tu htu
              injection eA with eA; injection eA with e1 e2; subst e1 e2
              obtain ⟨p0, p1, p2, p3, hp⟩ := flowO_cells (keep_obj HBK.out HO.out)
              obtain ⟨x, hx⟩ : ∃ x, xs[u]? = some x := ⟨_, List.getElem?_eq_getElem (by rw [HD.out.len]; exact hul)⟩
              have hx0 := (HD.out.lo u x hx).1
              have hx1 : x ≤ 30 * 1099511627775 := by
                have h1 := (HD.out.lo u x hx).2
                have h2 := (HBD.out u hul).2
                have : (f.tasks.length : Int) * maxT ≤ 30 * maxT := Int.mul_le_mul_of_nonneg_right (by omega) (by decide)
                unfold maxT at this h2; omega
              have hr1 := HR.out.below HBK.out
              obtain ⟨_, e1, _, _, cx, _⟩ := Own1.at_ hr1 (Dag.ints_get hx)
              injection e1 with e1; injection e1 with e1; subst e1
              obtain ⟨hw0, hw1⟩ := HW.out u
              have hwt := fun (W : World) => rweight_any tu A3 c3 W
              have hS := partDn_succ f.tasks xs l k u hz
              rw [← HY.out, atL_some hx] at hS
              rw [wtAt_some htu] at hw0 hw1 hS
              obtain ⟨av, hav⟩ : ∃ av, wgt tu = av := ⟨_, rfl⟩
              rw [hav] at hwt hw0 hw1 hS
              unfold maxT at hw1
              have HS := Lib.hid hS; have HWT := Lib.hid hwt
              have hlb2 := World.block_lt_of_cell? wC _ h0
              have hlb3 := World.block_lt_of_cell? wC _ cz
              clear hz hx htu hI9 hr1 hwt hav hS
              have hxw : IntKind.i64.wrap (x + av) = x + av := by rw [IntKind.wrap_i64]; omega
              have s0 : wC.drew.cell? ⟨dl, u, none⟩ = some (.int .i64 x) ∧ wC.drew.cell? ⟨w.heap.size, 3, none⟩ = some (.slice (some ⟨b, off, none⟩) f.tasks.length c) ∧ wC.drew.cell? ⟨bz, oz + k, none⟩ = some (.int .i64 (u : Int)) ∧ wC.drew.cell? ⟨b, off + u * 6, none⟩ = some (.string (sb tu.name)) ∧ wC.drew.cell? ⟨b, off + u * 6 + 1, none⟩ = some (.int .i64 tu.nodes) ∧ wC.drew.cell? ⟨b, off + u * 6 + 2, none⟩ = some (.int .i64 tu.wall) ∧ wC.drew.cell? ⟨b, off + u * 6 + 3, none⟩ = some (.int .i64 tu.retry) ∧ wC.drew.cell? ⟨b, off + u * 6 + 4, none⟩ = some (.bool tu.done) ∧ wC.drew.cell? ⟨b, off + u * 6 + 5, none⟩ = some (.slice A3 tu.after.length c3) := ⟨cx, p3, cz, h0, h1, h2, h3, h4, h5⟩
              go_wp2_with fail
              go_region_held3 (fun (W : World) => W.cell? ⟨dl, u, none⟩ = some (.int .i64 x) ∧ W.cell? ⟨w.heap.size, 3, none⟩ = some (.slice (some ⟨b, off, none⟩) f.tasks.length c) ∧ W.cell? ⟨bz, oz + k, none⟩ = some (.int .i64 (u : Int)) ∧ W.cell? ⟨b, off + u * 6, none⟩ = some (.string (sb tu.name)) ∧ W.cell? ⟨b, off + u * 6 + 1, none⟩ = some (.int .i64 tu.nodes) ∧ W.cell? ⟨b, off + u * 6 + 2, none⟩ = some (.int .i64 tu.wall) ∧ W.cell? ⟨b, off + u * 6 + 3, none⟩ = some (.int .i64 tu.retry) ∧ W.cell? ⟨b, off + u * 6 + 4, none⟩ = some (.bool tu.done) ∧ W.cell? ⟨b, off + u * 6 + 5, none⟩ = some (.slice A3 tu.after.length c3)) (first | exact s1 | exact s0) (first
                | (go_at_call 52; refine (HWT.out _).mono ?_; rintro e x1 ⟨rfl, hb1⟩; have s1 : x1.cell? ⟨dl, u, none⟩ = some (.int .i64 x) ∧ x1.cell? ⟨w.heap.size, 3, none⟩ = some (.slice (some ⟨b, off, none⟩) f.tasks.length c) ∧ x1.cell? ⟨bz, oz + k, none⟩ = some (.int .i64 (u : Int)) ∧ x1.cell? ⟨b, off + u * 6, none⟩ = some (.string (sb tu.name)) ∧ x1.cell? ⟨b, off + u * 6 + 1, none⟩ = some (.int .i64 tu.nodes) ∧ x1.cell? ⟨b, off + u * 6 + 2, none⟩ = some (.int .i64 tu.wall) ∧ x1.cell? ⟨b, off + u * 6 + 3, none⟩ = some (.int .i64 tu.retry) ∧ x1.cell? ⟨b, off + u * 6 + 4, none⟩ = some (.bool tu.done) ∧ x1.cell? ⟨b, off + u * 6 + 5, none⟩ = some (.slice A3 tu.after.length c3) := ⟨keep_cell hb1 s0.1, keep_cell hb1 s0.2.1, keep_cell hb1 s0.2.2.1, keep_cell hb1 s0.2.2.2.1, keep_cell hb1 s0.2.2.2.2.1, keep_cell hb1 s0.2.2.2.2.2.1, keep_cell hb1 s0.2.2.2.2.2.2.1, keep_cell hb1 s0.2.2.2.2.2.2.2.1, keep_cell hb1 s0.2.2.2.2.2.2.2.2⟩; have HB1 := Lib.hid (blw HBK.out (blw (drew_below wC) hb1)); clear hb1))
              all_goals go_wp2
              all_goals go_roundw
              case rel => exact ⟨k + 1, max y (x + av), by omega, by go_num, by first | rfl | rw [hxw], Lib.hid HS.out.symm, HB1⟩
              case measure => simp [intOf]; omega
            · obtain rfl : k = l.length := by omega
              have hall := partDn_all HV.out xs HRW.out (ts := f.tasks)
              rw [← HY.out] at hall
              have hy0 : 0 ≤ y := by rw [HY.out]; exact maxL_nonneg _
              have hnx := HD.out.next (R := befL (afterL f.tasks)) hlv (dnD_step HF.out hlv) (dnS_loc f.tasks) (dnS_mono f.tasks) (fun w hw => ⟨(dn_arc HF.out hw).2.1, (dn_arc HF.out hw).2.2⟩) (by rw [← hall]; exact hy0)
              rw [← hall] at hnx
              have HNX := Lib.hid hnx
              have hr1 := HR.out.below HBK.out
              obtain ⟨_, e1, _, _, cv, fv, _, hset⟩ := Own1.at_ hr1 (Dag.ints_get HXV.out)
              injection e1 with e1; injection e1 with e1; subst e1
              have HRN : Hid (Own1 (wC.setCell ⟨dl, v, none⟩ (.int .i64 y)) dl 3 (.slice (some ⟨dl, 0, none⟩) f.tasks.length f.tasks.length) (Dag.ints (xs.set v y))) := Lib.hid (by
                have := hset (.int .i64 y)
                rwa [show (Dag.ints xs).set v (.int .i64 y) = Dag.ints (xs.set v y) from by unfold Dag.ints; rw [List.map_set]] at this)
              have HBN : Hid (Below w.heap.size w (wC.setCell ⟨dl, v, none⟩ (.int .i64 y))) := Lib.hid ((blw HB.out HBK.out).setCell (p := ⟨dl, v, none⟩) (by have := HDL.out; show w.heap.size ≤ dl; omega) _)
              have HON : Hid ((wC.setCell ⟨dl, v, none⟩ (.int .i64 y)).heap[w.heap.size]? = some (flowO f (some ⟨b, off, none⟩) c)) := Lib.hid ((Dag.blk_other (by have := HDL.out; omega)).trans (keep_obj HBK.out HO.out))
              clear hall hnx hr1 hset hy0
              go_wp2
              go_roundw
              case rel => exact ⟨v + 1, xs.set v y, by omega, by go_num, HNX, HRN, HBN, HON⟩
              case measure => simp [intOf]; omega
        · obtain rfl : v = f.tasks.length := by omega
          have HD2 := Lib.hid HD.out.round
          go_wp2
          go_roundw
          case rel => exact ⟨r + 1, xs, by omega, by go_num, HD2, HR, HB, HO⟩
          case measure => simp [intOf]; omega
    · obtain rfl : r = f.tasks.length := by omega
      have HX := Lib.hid (HD.out.done fun i hi => pos_lt HF.out hi)
      go_wp2
      go_ret
      refine ⟨_, _, rfl, ?_, HB.out⟩
      have := (Own1.sl HR.out).2
      rwa [HX.out] at this
end Go.Proofs.YtaiolhanbjndcaaGreatDoor
namespace Go.Proofs.YtaiolhanbjndcaaGreatDoor
open Go.RowKit
open Dag (Ints Own1 Sl num num_len num_get Gr newE order befL behL bef_mem beh_mem order_ord)
set_option linter.unusedVariables false
set_option maxRecDepth 100000

def selD (isUp : Bool) (ts : List TaskD) : Nat → Int := if isUp = true then upD ts else dnD ts
theorem sel_lo {f : FlowD} (hc : checkE f = 0) (isUp : Bool) (i : Nat) (hi : i < f.tasks.length) : 0 ≤ selD isUp f.tasks i := by
  obtain ⟨hf, hV, hW⟩ := chk_facts hc
  unfold selD
  split
  · exact (upD_bd hf hV hW f.tasks.length i hi (by unfold upM; omega)).1
  · exact (dnD_bd hf hW f.tasks.length i hi (pos_lt hf hi)).1
theorem okU_bad {n : Nat} {U : Nat → Int} {i : Nat} (hi : i < n) (h : maxT < U i) : okU n U = false := by
  cases e : okU n U with
  | false => rfl
  | true => have := okU_iff.1 e i hi; omega

set_option maxHeartbeats 3200000 in
theorem rranks_any (isUp : Bool) (f : FlowD) (A : Option Addr) (c : Nat) (w : World) (h : Tasks w A c f.tasks) (hT : Txt.Tabs w) (hl : f.name.length ≤ 1100000) (hn : ∀ t ∈ f.tasks, t.name.length ≤ 1100000) (hlen : f.tasks.length ≤ 30) :
    Calls Tryz.prog 10 #[.agg #[.string (sb f.name), .int .i64 f.deadline, .int .i64 f.priority, .slice A f.tasks.length c], .bool isUp] w (RetU f (selD isUp f.tasks) w) := by
  have HC := Lib.hid fun W (hW : Below w.heap.size w W) => rcheck_any f A c W (h.below hW) (hT.below hW) hl hn hlen
  have H := Lib.hid h
  clear h hT hl hn
  obtain ⟨x, hx⟩ : ∃ x, checkE f = x := ⟨_, rfl⟩
  have HX := Lib.hid hx
  rw [hx] at HC
  clear hx
  by_cases h0 : x = 0
  case neg =>
    have hxn : (x != 0) = true := by simp [h0]
    have HE : Hid (rankE f (selD isUp f.tasks) = x) := Lib.hid (by unfold rankE; rw [HX.out, if_pos h0])
    have H0 := Lib.hid h0
    clear h0
    go_enter Tryz.func10, Tryz.ntmps10
    go_wp2_with fail
    refine (HC.out _ (al _ _)).mono ?_
    rintro e w1 ⟨rfl, hb1⟩
    have HB1 := Lib.hid (blw (al w (flowO f A c)) hb1)
    clear hb1
    go_wp2
    go_ret2
    exact retU_err HE.out H0.out HB1.out
  subst h0
  have HUP := Lib.hid fun W (hW : Below w.heap.size w W) => rup_any f A c W (H.out.below hW) HX.out hlen
  have HDN := Lib.hid fun W (hW : Below w.heap.size w W) => rdown_any f A c W (H.out.below hW) HX.out hlen
  have HLO := Lib.hid (sel_lo HX.out isUp)
  go_enter Tryz.func10, Tryz.ntmps10
  go_wp2_with fail
  refine (HC.out _ (al _ _)).mono ?_
  rintro e w1 ⟨rfl, hb1⟩
  have HB1 := Lib.hid (blw (al w (flowO f A c)) hb1)
  have HO1 : Hid (w1.heap[w.heap.size]? = some (flowO f A c)) := Lib.hid ((hb1.block _ (by simp)).trans (heap_alloc_new w _))
  clear hb1
  obtain ⟨p0, p1, p2, p3, hp⟩ := flowO_cells HO1.out
  go_wp2_with fail
  refine (HDN.out _ HB1.out).mono ?_
  rintro e w2 ⟨Ad, cd, rfl, hid2, hb2⟩
  have HB2 := Lib.hid (blw HB1.out hb2)
  have HO2 := Lib.hid (keep_obj hb2 HO1.out)
  have HI2 := Lib.hid hid2
  clear hb2 hid2 p0 p1 p2 p3 hp
  obtain ⟨p0, p1, p2, p3, hp⟩ := flowO_cells HO2.out
  cases isUp with
  | false =>
    go_wp2
    have hnl : f.tasks.length ≤ 9223372036854775807 := by omega
    go_loop [8] (fun i => ∃ (k : Nat), k ≤ f.tasks.length ∧ i = .int .i64 k ∧ Hid (∀ j, j < k → dnD f.tasks j ≤ maxT)) (fun i => f.tasks.length - (intOf i).toNat)
    case atStart => exact ⟨0, Nat.zero_le _, rfl, Lib.hid fun j hj => by omega⟩
    case round =>
      obtain ⟨k, hk, rfl, HK⟩ := hrel
      by_cases hlt : k < f.tasks.length
      · obtain ⟨b, off, eb, cb⟩ := HI2.out.cells k (.int .i64 (dnD f.tasks k)) (by unfold Dag.ints numsU; rw [List.getElem?_map, List.getElem?_map, List.getElem?_range hlt]; rfl)
        subst eb
        have hlo := HLO.out k hlt
        rw [show selD false f.tasks = dnD f.tasks from rfl] at hlo
        obtain ⟨y, hy⟩ : ∃ y, dnD f.tasks k = y := ⟨_, rfl⟩
        rw [hy] at cb hlo
        have HYY := Lib.hid hy
        clear hy
        by_cases hov : y ≤ 1099511627775
        · have hit := Clk.isT_yes hlo hov
          have HIS := Lib.hid (Clk.ris_any y)
          rw [hit] at HIS
          clear hit
          go_wp2_with (go_at_call 31; refine (HIS.out _).mono ?_; rintro e w' ⟨rfl, rfl⟩)
          go_round
          case rel => exact ⟨k + 1, by omega, by go_num, Lib.hid fun j hj => by
            rcases Nat.lt_or_ge j k with h | h
            · exact HK.out j h
            · have : j = k := by omega
              subst this; rw [HYY.out]; unfold maxT; omega⟩
          case measure => simp [intOf]; omega
        · have hit := Clk.isT_high (t := y) (by omega)
          have HIS := Lib.hid (Clk.ris_any y)
          rw [hit] at HIS
          have HE : Hid (rankE f (selD false f.tasks) = 6) := Lib.hid (by
            unfold rankE
            rw [if_neg (fun e => e HX.out), if_neg]
            rw [okU_bad hlt (U := selD false f.tasks) (by rw [show selD false f.tasks k = y from HYY.out]; unfold maxT; omega)]
            decide)
          clear hit
          go_wp2_with (go_at_call 31; refine (HIS.out _).mono ?_; rintro e w' ⟨rfl, rfl⟩)
          go_ret2
          exact retU_err HE.out (by decide) HB2.out
      · obtain rfl : k = f.tasks.length := by omega
        go_wp2
        go_ret2
        exact retU_ok (U := selD false f.tasks) HX.out (okU_iff.2 HK.out) rfl rfl HI2.out HB2.out
  | true =>
    go_wp2_with fail
    refine (HUP.out _ HB2.out).mono ?_
    rintro e w3 ⟨Au, cu, rfl, hi3, hb3⟩
    have HB3 := Lib.hid (blw HB2.out hb3)
    have HI3 := Lib.hid hi3
    clear hb3 hi3 p0 p1 p2 p3 hp
    go_wp2
    have hnl : f.tasks.length ≤ 9223372036854775807 := by omega
    go_loop [8] (fun i => ∃ (k : Nat), k ≤ f.tasks.length ∧ i = .int .i64 k ∧ Hid (∀ j, j < k → upD f.tasks j ≤ maxT)) (fun i => f.tasks.length - (intOf i).toNat)
    case atStart => exact ⟨0, Nat.zero_le _, rfl, Lib.hid fun j hj => by omega⟩
    case round =>
      obtain ⟨k, hk, rfl, HK⟩ := hrel
      by_cases hlt : k < f.tasks.length
      · obtain ⟨b, off, eb, cb⟩ := HI3.out.cells k (.int .i64 (upD f.tasks k)) (by unfold Dag.ints numsU; rw [List.getElem?_map, List.getElem?_map, List.getElem?_range hlt]; rfl)
        subst eb
        have hlo := HLO.out k hlt
        rw [show selD true f.tasks = upD f.tasks from rfl] at hlo
        obtain ⟨y, hy⟩ : ∃ y, upD f.tasks k = y := ⟨_, rfl⟩
        rw [hy] at cb hlo
        have HYY := Lib.hid hy
        clear hy
        by_cases hov : y ≤ 1099511627775
        · have hit := Clk.isT_yes hlo hov
          have HIS := Lib.hid (Clk.ris_any y)
          rw [hit] at HIS
          clear hit
          go_wp2_with (go_at_call 31; refine (HIS.out _).mono ?_; rintro e w' ⟨rfl, rfl⟩)
          go_round
          case rel => exact ⟨k + 1, by omega, by go_num, Lib.hid fun j hj => by
            rcases Nat.lt_or_ge j k with h | h
            · exact HK.out j h
            · have : j = k := by omega
              subst this; rw [HYY.out]; unfold maxT; omega⟩
          case measure => simp [intOf]; omega
        · have hit := Clk.isT_high (t := y) (by omega)
          have HIS := Lib.hid (Clk.ris_any y)
          rw [hit] at HIS
          have HE : Hid (rankE f (selD true f.tasks) = 6) := Lib.hid (by
            unfold rankE
            rw [if_neg (fun e => e HX.out), if_neg]
            rw [okU_bad hlt (U := selD true f.tasks) (by rw [show selD true f.tasks k = y from HYY.out]; unfold maxT; omega)]
            decide)
          clear hit
          go_wp2_with (go_at_call 31; refine (HIS.out _).mono ?_; rintro e w' ⟨rfl, rfl⟩)
          go_ret2
          exact retU_err HE.out (by decide) HB3.out
      · obtain rfl : k = f.tasks.length := by omega
        go_wp2
        go_ret2
        exact retU_ok (U := selD true f.tasks) HX.out (okU_iff.2 HK.out) rfl rfl HI3.out HB3.out
end Go.Proofs.YtaiolhanbjndcaaGreatDoor
namespace Go.Proofs.YtaiolhanbjndcaaGreatDoor
open Go.RowKit
open Dag (Ints Own1 Sl num num_len num_get Gr newE order befL behL bef_mem beh_mem order_ord)
set_option linter.unusedVariables false
set_option maxRecDepth 100000

theorem rlength_any (f : FlowD) (A : Option Addr) (c : Nat) (w : World) (h : Tasks w A c f.tasks) (hT : Txt.Tabs w) (hl : f.name.length ≤ 1100000) (hn : ∀ t ∈ f.tasks, t.name.length ≤ 1100000) (hlen : f.tasks.length ≤ 30) :
    Calls Tryz.prog 14 #[.agg #[.string (sb f.name), .int .i64 f.deadline, .int .i64 f.priority, .slice A f.tasks.length c]] w fun e w' => e = .returned (.tuple #[.int .i64 (lengthV f), .int .i64 (rankE f (upD f.tasks))]) ∧ Below w.heap.size w w' := by
  have HR := Lib.hid fun W (hW : Below w.heap.size w W) => rranks_any true f A c W (h.below hW) (hT.below hW) hl hn hlen
  obtain ⟨xs, hxs⟩ : ∃ xs, rankV f (upD f.tasks) = xs := ⟨_, rfl⟩
  obtain ⟨e0, he0⟩ : ∃ e0, rankE f (upD f.tasks) = e0 := ⟨_, rfl⟩
  have HLV : Hid (lengthV f = maxL xs) := Lib.hid (by unfold lengthV; rw [hxs])
  unfold RetU at HR
  rw [show selD true f.tasks = upD f.tasks from rfl, hxs, he0] at HR
  rw [he0]
  clear h hT hl hn hxs he0
  go_enter Tryz.func14, Tryz.ntmps14
  go_wp2_with fail
  refine (HR.out _ (al _ _)).mono ?_
  rintro e w1 ⟨B, d, rfl, hi1, hb1⟩
  have HB1 := Lib.hid (blw (al w (flowO f A c)) hb1)
  have HI1 := Lib.hid hi1
  have hnl : xs.length ≤ 9223372036854775807 := Nat.le_trans hi1.len (by have := Sl.top hi1; simpa [maxLen] using this)
  clear hb1 hi1
  obtain ⟨n, hn⟩ : ∃ n, xs.length = n := ⟨_, rfl⟩
  rw [hn] at hnl ⊢
  have HN := Lib.hid hn
  clear hn
  go_wp2
  go_loop [6, 7] (fun nn i => ∃ (k : Nat) (y : Int), k ≤ n ∧ i = .int .i64 k ∧ nn = .int .i64 y ∧ Hid (y = maxL (xs.take k))) (fun _ i => n - (intOf i).toNat)
  case atStart => exact ⟨0, 0, Nat.zero_le _, rfl, rfl, Lib.hid rfl⟩
  case round =>
    obtain ⟨k, y, hk, rfl, rfl, HY⟩ := hrel
    by_cases hlt : k < n
    · obtain ⟨x, hx⟩ : ∃ x, xs[k]? = some x := ⟨_, List.getElem?_eq_getElem (by rw [HN.out]; exact hlt)⟩
      obtain ⟨b, off, eb, cb⟩ := HI1.out.cells k (.int .i64 x) (by unfold Dag.ints; rw [List.getElem?_map, hx]; rfl)
      subst eb
      have HS := Lib.hid (show max y x = maxL (xs.take (k + 1)) from by rw [List.take_add_one, hx, Option.toList_some, maxL_snoc, ← HY.out])
      clear hx
      go_wp2
      go_round
      case rel => exact ⟨k + 1, max y x, by omega, by go_num, rfl, HS⟩
      case measure => simp [intOf]; omega
    · obtain rfl : k = n := by omega
      have HF := Lib.hid (show lengthV f = y from by rw [HLV.out, HY.out, List.take_of_length_le (by rw [HN.out]; exact Nat.le_refl _)])
      go_wp2
      go_ret2
      exact ⟨by rw [HF.out]; rfl, HB1.out⟩
end Go.Proofs.YtaiolhanbjndcaaGreatDoor

