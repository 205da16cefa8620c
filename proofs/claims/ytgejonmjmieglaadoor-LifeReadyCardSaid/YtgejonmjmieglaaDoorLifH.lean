/- Layer 13: Begin. -/
import Derived.Test.YtgejonmjmieglaaDoorLifG
import Derived.Deep.RegionHeld3
namespace Go.Proofs.YtgejonmjmieglaaDoor.Lf
open Go.RowKit
open Dag (Ints IRows Own1 OwnI Sl ints num info_int info_is arc Plus)
set_option linter.unusedVariables false
set_option maxRecDepth 100000

def begT (t : TaskD) : Int := if t.done = true then 2 else 0
def begS (f : FlowD) : List Int := if checkE f = 0 then f.tasks.map begT else []
def begF (f : FlowD) : List Int := if checkE f = 0 then List.replicate f.tasks.length 0 else []
def begK (ts : List TaskD) (k : Nat) : List Int := (ts.take k).map begT ++ List.replicate (ts.length - k) 0
theorem begK_len (ts : List TaskD) {k : Nat} (hk : k ≤ ts.length) : (begK ts k).length = ts.length := by simp [begK]; omega
theorem begK_zero (ts : List TaskD) : begK ts 0 = List.replicate ts.length 0 := by simp [begK]
theorem begK_all (ts : List TaskD) : begK ts ts.length = ts.map begT := by simp [begK]
theorem begK_next {ts : List TaskD} {k : Nat} {t : TaskD} (h : ts[k]? = some t) : (begK ts k).set k (begT t) = begK ts (k + 1) := by
  have hlt := (List.getElem?_eq_some_iff.1 h).1
  have hl : ((ts.take k).map begT).length = k := by simp; omega
  unfold begK
  rw [List.set_append_right _ _ (by omega), hl, Nat.sub_self, show ts.length - k = (ts.length - (k + 1)) + 1 from by omega, List.replicate_succ, List.set_cons_zero, List.take_add_one, h, Option.toList_some, List.map_append]
  simp
theorem two_boxesR (v0 v1 v2 v3 z0 z1 : Value) (w : World) : (((w.alloc (.cells #[v0, v1, v2, v3] 24)).alloc (.cells #[z0, z1] 27)).cell? ⟨w.heap.size, 0, none⟩ = some v0 ∧ ((w.alloc (.cells #[v0, v1, v2, v3] 24)).alloc (.cells #[z0, z1] 27)).cell? ⟨w.heap.size, 1, none⟩ = some v1 ∧ ((w.alloc (.cells #[v0, v1, v2, v3] 24)).alloc (.cells #[z0, z1] 27)).cell? ⟨w.heap.size, 2, none⟩ = some v2 ∧ ((w.alloc (.cells #[v0, v1, v2, v3] 24)).alloc (.cells #[z0, z1] 27)).cell? ⟨w.heap.size, 3, none⟩ = some v3 ∧ ((w.alloc (.cells #[v0, v1, v2, v3] 24)).alloc (.cells #[z0, z1] 27)).cell? ⟨w.heap.size + 1, 0, none⟩ = some z0 ∧ ((w.alloc (.cells #[v0, v1, v2, v3] 24)).alloc (.cells #[z0, z1] 27)).cell? ⟨w.heap.size + 1, 1, none⟩ = some z1) ∧ ((w.alloc (.cells #[v0, v1, v2, v3] 24)).alloc (.cells #[z0, z1] 27)).heap[w.heap.size + 1]? = some (.cells #[z0, z1] 27 (0, 0)) := by
  refine ⟨two_boxesG v0 v1 v2 v3 z0 z1 w, ?_⟩
  have h := heap_alloc_new (w.alloc (.cells #[v0, v1, v2, v3] 24)) (.cells #[z0, z1] 27)
  simp only [World.size_alloc] at h
  exact h
set_option maxHeartbeats 3200000 in
theorem begin_any (f : FlowD) (A : Option Addr) (c : Nat) (w : World) (h : Tasks w A c f.tasks) (hT : Tb3 w) (hl : f.name.length ≤ 9000000000000000000) (hn : ∀ t ∈ f.tasks, t.name.length ≤ 9000000000000000000) :
    Calls Tryd.prog 16 #[.agg #[.string (sb f.name), .int .i64 f.deadline, .int .i64 f.priority, .slice A f.tasks.length c]] w (RetLS w (begS f) (begF f) (checkE f)) := by
  have HC := Lib.hid fun W (hW : Below w.heap.size w W) => check_all f A c W (h.below hW) (hT.below hW) hl hn
  have hlm := h.lenI
  obtain ⟨z, hz⟩ : ∃ z, checkE f = z := ⟨_, rfl⟩
  unfold begS begF
  rw [hz] at HC ⊢
  by_cases h0 : z = 0
  case neg =>
    rw [if_neg h0, if_neg h0]
    have hxn : (z != 0) = true := by simp [h0]
    clear h0 h hz hT hl hn
    go_enter Tryd.func16, Tryd.ntmps16
    go_wp2_with fail
    refine (HC.out _ (ba2 (b := 0) (Below.refl _ _))).mono ?_
    rintro e w1 ⟨rfl, hb1⟩
    have HB1 := Lib.hid (show Below w.heap.size w w1 from blw (ba2 (b := 0) (Below.refl _ _)) hb1)
    obtain ⟨s1, hr1⟩ := keep7 hb1 (two_boxesR _ _ _ _ _ _ w)
    obtain ⟨p0, p1, p2, p3, p4, p5⟩ := s1
    have rf0 := Dag.blk_frozen hr1 0
    have rf1 := Dag.blk_frozen hr1 1
    have HR1 := Lib.hid hr1
    clear hb1 hr1
    go_wp2
    refine bodyPost_ret (results_cell2 rfl _ rfl (store2 HR1.out _ _)) rfl ?_
    exact ⟨_, _, _, _, _, _, rfl, lif_nil _, (onl2 w1 (w.heap.size + 1) _ _).below HB1.out (by omega)⟩
  subst h0
  rw [if_pos rfl, if_pos rfl]
  have hln := (flw_ok hz).len
  have H := Lib.hid h
  have hmk := fun (W : World) (x y : Int) (n : Nat) (hn : n ≤ 1000000) (hx : x = (n : Int)) (hy : y = (n : Int)) => Dag.run_mk W 25 3 _ 8 Tryd.underlying25 info_int rfl (by decide) n hn x y hx hy
  have hmk1 := fun (W : World) => hmk W _ _ f.tasks.length (by omega) rfl rfl
  clear hmk h hz hT hl hn
  go_enter Tryd.func16, Tryd.ntmps16
  go_wp2_with fail
  refine (HC.out _ (ba2 (b := 0) (Below.refl _ _))).mono ?_
  rintro e w1 ⟨rfl, hb1⟩
  have HB1 := Lib.hid (show Below w.heap.size w w1 from blw (ba2 (b := 0) (Below.refl _ _)) hb1)
  have hsz : w.heap.size + 1 < w1.heap.size := Nat.lt_of_lt_of_le (by simp) hb1.size
  obtain ⟨s1, hr1⟩ := keep7 hb1 (two_boxesR _ _ _ _ _ _ w)
  obtain ⟨p0, p1, p2, p3, p4, p5⟩ := s1
  have HR1 := Lib.hid hr1
  clear hb1 hr1
  go_wp2_with fail
  rename_i K hK
  have c0 := p3
  have REST : ∀ (W : World) (gS gF gy : Nat), W.heap[gS]? = some (.cells (Array.replicate f.tasks.length (.int .i64 0)) 3 (0, 0)) → W.heap[gF]? = some (.cells (Array.replicate f.tasks.length (.int .i64 0)) 3 (0, 0)) → W.heap[gy]? = some (.cells #[.slice (some ⟨gS, 0, none⟩) f.tasks.length f.tasks.length, .slice (some ⟨gF, 0, none⟩) f.tasks.length f.tasks.length] 27 (0, 0)) → Below w1.heap.size w1 W → (gS ≠ gF ∧ gS ≠ gy ∧ gF ≠ gy ∧ w.heap.size + 1 < gS ∧ w.heap.size + 1 < gF ∧ w.heap.size + 1 < gy) →
      K { tmps := #[Value.agg #[Value.string (sb f.name), Value.int IntKind.i64 f.deadline, Value.int IntKind.i64 f.priority, Value.slice A f.tasks.length c],
          Value.pointer (some { block := w.heap.size, off := 0 }), Value.pointer (some { block := w.heap.size + 1, off := 0 }), Value.int IntKind.i64 0, Value.int IntKind.i64 0,
          Value.pointer (some { block := gy, off := 0 }), undef, undef,
          Value.agg #[Value.string (sb f.name), Value.int IntKind.i64 f.deadline, Value.int IntKind.i64 f.priority, Value.slice A f.tasks.length c],
          Value.int IntKind.i64 0, Value.int IntKind.i64 0, Value.bool false, undef, undef,
          Value.pointer (some { block := w.heap.size, off := 3 }), Value.slice A f.tasks.length c, Value.int IntKind.i64 f.tasks.length, Value.slice (some { block := gS, off := 0 }) f.tasks.length f.tasks.length,
          Value.pointer (some { block := w.heap.size, off := 3 }), Value.slice A f.tasks.length c, Value.int IntKind.i64 f.tasks.length, Value.slice (some { block := gF, off := 0 }) f.tasks.length f.tasks.length,
          Value.agg #[Value.slice (some { block := gS, off := 0 }) f.tasks.length f.tasks.length, Value.slice (some { block := gF, off := 0 }) f.tasks.length f.tasks.length],
          undef, undef, undef, undef, undef, undef, undef, undef, undef, undef, undef, undef, undef, undef, undef, undef, undef, undef, undef, undef], defers := [] } W := by
    intro W gS gF gy hs hf hy hb hd
    refine hK _ _ ?_
    have HS := Lib.hid (show W.heap[gS]? = some (rowO (begK f.tasks 0)) from by rw [hs, begK_zero]; unfold rowO; congr 2; simp [ints])
    have HF := Lib.hid (show W.heap[gF]? = some (rowO (List.replicate f.tasks.length 0)) from by rw [hf]; unfold rowO; congr 2; simp [ints])
    have HY := Lib.hid hy
    have HB := Lib.hid (blw HB1.out hb)
    have HR := Lib.hid (keep_obj hb HR1.out)
    have HD := Lib.hid hd
    replace p3 := keep_cell hb p3
    clear hs hf hy hb hd hK p0 p1 p2 p4 p5 c0 hmk1 hsz HR1
    go_wp2_with fail
    go_loopw [26] (fun i wr => ∃ k : Nat, k ≤ f.tasks.length ∧ i = .int .i64 k ∧ Hid (Below w.heap.size w wr) ∧ Hid (wr.heap[gS]? = some (rowO (begK f.tasks k))) ∧ Hid (wr.heap[gF]? = some (rowO (List.replicate f.tasks.length 0))) ∧ Hid (wr.heap[gy]? = some (.cells #[.slice (some ⟨gS, 0, none⟩) f.tasks.length f.tasks.length, .slice (some ⟨gF, 0, none⟩) f.tasks.length f.tasks.length] 27 (0, 0))) ∧ Hid (wr.heap[w.heap.size + 1]? = some (.cells #[.slice none 0 0, .slice none 0 0] 27 (0, 0)))) (fun i _ => f.tasks.length - (intOf i).toNat)
    case atStart => exact ⟨0, Nat.zero_le _, rfl, HB, HS, HF, HY, HR⟩
    case round =>
      clear HB HS HF HY HR
      obtain ⟨k, hk, rfl, HB, HS, HF, HY, HR⟩ := hrel
      by_cases hlt : k < f.tasks.length
      · obtain ⟨t, ht⟩ : ∃ t, f.tasks[k]? = some t := ⟨_, List.getElem?_eq_getElem hlt⟩
        obtain ⟨b, off, A', c', rfl, h0, h1, h2, h3, h4, h5, hI⟩ := (H.out.below HB.out).cells k _ ht
        cases hd : t.done
        · skip
          have HN := Lib.hid (begK_next ht)
          rw [show begT t = 0 from by unfold begT; rw [hd]; rfl] at HN
          rw [hd] at h4
          have hgl := Dag.blk_lt HS.out; have hyl := Dag.blk_lt HY.out
          have hs2 := keep_obj (al wr (.cells #[.string (sb t.name), .int .i64 t.nodes, .int .i64 t.wall, .int .i64 t.retry, .bool false, .slice A' t.after.length c'] 64)) HS.out
          have hy2 := keep_obj (al wr (.cells #[.string (sb t.name), .int .i64 t.nodes, .int .i64 t.wall, .int .i64 t.retry, .bool false, .slice A' t.after.length c'] 64)) HY.out
          have y0 := (Dag.blk_cell hy2 0).trans rfl
          have cS := rowO_cell hs2 (k := k) (atI_lt (by rw [begK_len _ hk]; exact hlt))
          have fS := Dag.blk_frozen hs2 k
          have o4 := Onl.set gS k (wr.alloc (.cells #[.string (sb t.name), .int .i64 t.nodes, .int .i64 t.wall, .int .i64 t.retry, .bool false, .slice A' t.after.length c'] 64)) (.int .i64 0)
          have t4 : ((wr.alloc (.cells #[.string (sb t.name), .int .i64 t.nodes, .int .i64 t.wall, .int .i64 t.retry, .bool false, .slice A' t.after.length c'] 64)).setCell ⟨gS, k, none⟩ (.int .i64 0)).cell? ⟨wr.heap.size, 4, none⟩ = some (.bool false) := (cell_keep (p := ⟨wr.heap.size, 4, none⟩) (o4.block wr.heap.size (by omega))).trans ((Dag.blk_cell (heap_alloc_new wr _) 4).trans rfl)
          have HS4 := Lib.hid (show ((wr.alloc (.cells #[.string (sb t.name), .int .i64 t.nodes, .int .i64 t.wall, .int .i64 t.retry, .bool false, .slice A' t.after.length c'] 64)).setCell ⟨gS, k, none⟩ (.int .i64 0)).heap[gS]? = some (rowO (begK f.tasks (k + 1))) from by rw [rowO_set hs2, HN.out])
          have HB4 := Lib.hid (o4.below (ba1 (b := 0) HB.out) (by have := HD.out; omega))
          have HF4 := Lib.hid ((o4.block gF (fun e => HD.out.1 e.symm)).trans (keep_obj (al wr _) HF.out))
          have HY4 := Lib.hid ((o4.block gy (fun e => HD.out.2.1 e.symm)).trans hy2)
          have HR4 := Lib.hid ((o4.block (w.heap.size + 1) (by have := HD.out; omega)).trans (keep_obj (al wr _) HR.out))
          clear hI ht hd hs2 hy2 o4 hgl hyl 
          go_wp2
          go_roundw
          case rel => exact ⟨k + 1, by omega, by go_num, HB4, HS4, HF4, HY4, HR4⟩
          case measure => simp [intOf]; omega
        · skip
          have HN := Lib.hid (begK_next ht)
          rw [show begT t = 2 from by unfold begT; rw [hd]; rfl] at HN
          rw [hd] at h4
          have hgl := Dag.blk_lt HS.out; have hyl := Dag.blk_lt HY.out
          have hs2 := keep_obj (al wr (.cells #[.string (sb t.name), .int .i64 t.nodes, .int .i64 t.wall, .int .i64 t.retry, .bool true, .slice A' t.after.length c'] 64)) HS.out
          have hy2 := keep_obj (al wr (.cells #[.string (sb t.name), .int .i64 t.nodes, .int .i64 t.wall, .int .i64 t.retry, .bool true, .slice A' t.after.length c'] 64)) HY.out
          have y0 := (Dag.blk_cell hy2 0).trans rfl
          have cS := rowO_cell hs2 (k := k) (atI_lt (by rw [begK_len _ hk]; exact hlt))
          have fS := Dag.blk_frozen hs2 k
          have o3 := Onl.set gS k (wr.alloc (.cells #[.string (sb t.name), .int .i64 t.nodes, .int .i64 t.wall, .int .i64 t.retry, .bool true, .slice A' t.after.length c'] 64)) (.int .i64 0)
          have hs3 := rowO_set (k := k) (x := 0) hs2
          have y3 := (Dag.blk_cell ((o3.block gy (fun e => HD.out.2.1 e.symm)).trans hy2) 0).trans rfl
          have cS3 := rowO_cell hs3 (k := k) (x := 0) (by rw [List.getElem?_set, if_pos rfl, if_pos (by rw [begK_len _ hk]; exact hlt)])
          have fS3 := Dag.blk_frozen hs3 k
          have t4 : ((wr.alloc (.cells #[.string (sb t.name), .int .i64 t.nodes, .int .i64 t.wall, .int .i64 t.retry, .bool true, .slice A' t.after.length c'] 64)).setCell ⟨gS, k, none⟩ (.int .i64 0)).cell? ⟨wr.heap.size, 4, none⟩ = some (.bool true) := (cell_keep (p := ⟨wr.heap.size, 4, none⟩) (o3.block wr.heap.size (by omega))).trans ((Dag.blk_cell (heap_alloc_new wr _) 4).trans rfl)
          have HS4 := Lib.hid (show (((wr.alloc (.cells #[.string (sb t.name), .int .i64 t.nodes, .int .i64 t.wall, .int .i64 t.retry, .bool true, .slice A' t.after.length c'] 64)).setCell ⟨gS, k, none⟩ (.int .i64 0)).setCell ⟨gS, k, none⟩ (.int .i64 2)).heap[gS]? = some (rowO (begK f.tasks (k + 1))) from by rw [rowO_set hs3, List.set_set, HN.out])
          have o4 := o3.trans (Onl.set gS k _ (.int .i64 2))
          have HB4 := Lib.hid (o4.below (ba1 (b := 0) HB.out) (by have := HD.out; omega))
          have HF4 := Lib.hid ((o4.block gF (fun e => HD.out.1 e.symm)).trans (keep_obj (al wr _) HF.out))
          have HY4 := Lib.hid ((o4.block gy (fun e => HD.out.2.1 e.symm)).trans hy2)
          have HR4 := Lib.hid ((o4.block (w.heap.size + 1) (by have := HD.out; omega)).trans (keep_obj (al wr _) HR.out))
          clear hI ht hd hs2 hy2 o4 hgl hyl hs3 o3
          go_wp2
          go_roundw
          case rel => exact ⟨k + 1, by omega, by go_num, HB4, HS4, HF4, HY4, HR4⟩
          case measure => simp [intOf]; omega
      · obtain rfl : k = f.tasks.length := by omega
        have y0 := (Dag.blk_cell HY.out 0).trans rfl
        have y1 := (Dag.blk_cell HY.out 1).trans rfl
        have r0 := (Dag.blk_cell HR.out 0).trans rfl
        have r1 := (Dag.blk_cell HR.out 1).trans rfl
        have rf0 := Dag.blk_frozen HR.out 0
        have rf1 := Dag.blk_frozen HR.out 1
        go_wp2
        refine bodyPost_ret (results_cell2 rfl _ rfl (store2 HR.out _ _)) rfl ?_
        have hd := HD.out
        have o2 := onl2 wr (w.heap.size + 1) (.slice (some ⟨gS, 0, none⟩) f.tasks.length f.tasks.length) (.slice (some ⟨gF, 0, none⟩) f.tasks.length f.tasks.length)
        refine ⟨_, _, _, _, _, _, rfl, lif_row ((o2.block gS (by omega)).trans (by rw [HS.out, begK_all])) ((o2.block gF (by omega)).trans HF.out) (by simp) (by simp) (by omega) (by omega), o2.below HB.out (by omega)⟩
  clear hK p0 p1 p2 p3 p4 p5
  go_region_held3 (fun W => W.cell? ⟨w.heap.size, 3, none⟩ = some (.slice A f.tasks.length c)) (first | exact c0 | exact keep_cell (al _ _) c0 | exact keep_cell (al _ _) (keep_cell (al _ _) c0) | exact keep_cell (al _ _) (keep_cell (al _ _) (keep_cell (al _ _) c0))) (fail)
  all_goals show K _ _
  all_goals first
    | exact REST _ _ _ _ (nest3 _ _ _ rfl).1 (nest3 _ _ _ rfl).2.1 (nest3 _ _ _ rfl).2.2.1 (nest3 _ _ _ rfl).2.2.2 (by omega)
    | exact REST _ _ _ _ (nest3 _ _ _ rfl).1 (nest3 _ _ _ rfl).2.2.1 (nest3 _ _ _ rfl).2.1 (nest3 _ _ _ rfl).2.2.2 (by omega)
    | exact REST _ _ _ _ (nest3 _ _ _ rfl).2.1 (nest3 _ _ _ rfl).1 (nest3 _ _ _ rfl).2.2.1 (nest3 _ _ _ rfl).2.2.2 (by omega)
    | exact REST _ _ _ _ (nest3 _ _ _ rfl).2.1 (nest3 _ _ _ rfl).2.2.1 (nest3 _ _ _ rfl).1 (nest3 _ _ _ rfl).2.2.2 (by omega)
    | exact REST _ _ _ _ (nest3 _ _ _ rfl).2.2.1 (nest3 _ _ _ rfl).1 (nest3 _ _ _ rfl).2.1 (nest3 _ _ _ rfl).2.2.2 (by omega)
    | exact REST _ _ _ _ (nest3 _ _ _ rfl).2.2.1 (nest3 _ _ _ rfl).2.1 (nest3 _ _ _ rfl).1 (nest3 _ _ _ rfl).2.2.2 (by omega)
end Go.Proofs.YtgejonmjmieglaaDoor.Lf

