/- Layer 13: Start, Succeed, Again, Open, Cancel, Same. -/
import Derived.Test.YtgejonmjmieglaaDoorLifF
import Derived.Laws.ResultCell
import Derived.StillTailTactics
import Derived.Deep.RegionHeld3
namespace Go.Proofs.YtgejonmjmieglaaDoor.Lf
open Go.RowKit
open Dag (Ints IRows Own1 OwnI Sl ints num info_int info_is arc Plus)
set_option linter.unusedVariables false
set_option maxRecDepth 100000

theorem tsk_zero {f : FlowD} {b : Bool} {S : List Int} {v st : Int} (h : tskE f b S v st = 0) : lifeE f b = 0 ∧ ∃ u : Nat, v = (u : Int) ∧ u < f.tasks.length ∧ atI S u = st := by
  unfold tskE at h
  by_cases h0 : lifeE f b = 0
  · rw [if_pos h0] at h
    by_cases h1 : v < 0 ∨ (f.tasks.length : Int) ≤ v
    · rw [if_pos h1] at h; cases h
    · rw [if_neg h1] at h
      by_cases h2 : atI S v.toNat = st
      · exact ⟨h0, v.toNat, by omega, by omega, h2⟩
      · rw [if_neg h2] at h; cases h
  · rw [if_neg h0] at h; exact absurd h h0
theorem ba3 {b : Nat} {w W : World} {o p q : Obj} (h : Below w.heap.size w W) : Below w.heap.size w (((W.alloc o).alloc p).alloc q) := blw (ba2 (b := 0) h) (al _ _)
theorem three_boxes (v0 v1 v2 v3 u0 u1 z0 z1 : Value) (w : World) : ((((w.alloc (.cells #[v0, v1, v2, v3] 24)).alloc (.cells #[u0, u1] 27)).alloc (.cells #[z0, z1] 27)).cell? ⟨w.heap.size, 0, none⟩ = some v0 ∧ (((w.alloc (.cells #[v0, v1, v2, v3] 24)).alloc (.cells #[u0, u1] 27)).alloc (.cells #[z0, z1] 27)).cell? ⟨w.heap.size, 1, none⟩ = some v1 ∧ (((w.alloc (.cells #[v0, v1, v2, v3] 24)).alloc (.cells #[u0, u1] 27)).alloc (.cells #[z0, z1] 27)).cell? ⟨w.heap.size, 2, none⟩ = some v2 ∧ (((w.alloc (.cells #[v0, v1, v2, v3] 24)).alloc (.cells #[u0, u1] 27)).alloc (.cells #[z0, z1] 27)).cell? ⟨w.heap.size, 3, none⟩ = some v3 ∧ (((w.alloc (.cells #[v0, v1, v2, v3] 24)).alloc (.cells #[u0, u1] 27)).alloc (.cells #[z0, z1] 27)).cell? ⟨w.heap.size + 1, 0, none⟩ = some u0 ∧ (((w.alloc (.cells #[v0, v1, v2, v3] 24)).alloc (.cells #[u0, u1] 27)).alloc (.cells #[z0, z1] 27)).cell? ⟨w.heap.size + 1, 1, none⟩ = some u1) ∧ (((w.alloc (.cells #[v0, v1, v2, v3] 24)).alloc (.cells #[u0, u1] 27)).alloc (.cells #[z0, z1] 27)).heap[w.heap.size + 1 + 1]? = some (.cells #[z0, z1] 27 (0, 0)) := by
  refine ⟨keep6 (al _ _) (two_boxesG v0 v1 v2 v3 u0 u1 w), ?_⟩
  have h := heap_alloc_new ((w.alloc (.cells #[v0, v1, v2, v3] 24)).alloc (.cells #[u0, u1] 27)) (.cells #[z0, z1] 27)
  simp only [World.size_alloc] at h
  exact h
theorem keep7 {W W' : World} (hb : Below W.heap.size W W') {p0 p1 p2 p3 p4 p5 : Addr} {v0 v1 v2 v3 v4 v5 : Value} {g : Nat} {o : Obj} (h : (W.cell? p0 = some v0 ∧ W.cell? p1 = some v1 ∧ W.cell? p2 = some v2 ∧ W.cell? p3 = some v3 ∧ W.cell? p4 = some v4 ∧ W.cell? p5 = some v5) ∧ W.heap[g]? = some o) : (W'.cell? p0 = some v0 ∧ W'.cell? p1 = some v1 ∧ W'.cell? p2 = some v2 ∧ W'.cell? p3 = some v3 ∧ W'.cell? p4 = some v4 ∧ W'.cell? p5 = some v5) ∧ W'.heap[g]? = some o := ⟨keep6 hb h.1, keep_obj hb h.2⟩
theorem info_life : (Tryd.prog.info? 27).map (fun i => (i.zero, i.size, i.bytes)) = some (some (.agg #[.slice none 0 0, .slice none 0 0]), 2, 48) := by kernel_rfl
theorem results_cell2 {fn : Func} {t u : Tmp} (h : fn.results = #[.cell t 27, .tmp u]) (tmps : Array Value) {w : World} {b : Nat} {a0 a1 : Value} (ht : tmps.getD t undef = .pointer (some ⟨b, 0, none⟩)) (hb : w.heap[b]? = some (.cells #[a0, a1] 27 (0, 0))) :
    (results fn tmps).run Tryd.prog w = .ok (.tuple #[.agg #[a0, a1], tmps.getD u undef]) w := by
  obtain ⟨i0, hi0, hz0, hz1, hz2⟩ := info_parts info_life
  rw [results_cell_tmp h]
  have ht2 : tmps[t]?.getD undef = .pointer (some ⟨b, 0, none⟩) := by simpa using ht
  simp [ht2, asAddr, run_loadVar_row w b 27 27 #[a0, a1] (0, 0) _ hb Tryd.underlying27 rfl (by rw [hi0, Option.map_some, hz1]; rfl), Result.andThen]
theorem frv_some {ts : List TaskD} {S : List Int} {v : Nat} {t : TaskD} (h : ts[v]? = some t) : frv ts S v = freeD S t.after := by simp [frv, h]
theorem keep2 {W W' : World} (hb : Below W.heap.size W W') {p0 p1 : Addr} {v0 v1 : Value} (h : W.cell? p0 = some v0 ∧ W.cell? p1 = some v1) : W'.cell? p0 = some v0 ∧ W'.cell? p1 = some v1 := ⟨keep_cell hb h.1, keep_cell hb h.2⟩
theorem store2 {w : World} {r : Nat} {x0 x1 : Value} {T : TypeId} (h : w.heap[r]? = some (.cells #[x0, x1] T (0, 0))) (a b : Value) : ((w.setCell ⟨r, 0, none⟩ a).setCell ⟨r, 1, none⟩ b).heap[r]? = some (.cells #[a, b] T (0, 0)) := by
  have := Dag.blk_set (Dag.blk_set h 0 a) 1 b
  simpa using this
theorem onl2 (w : World) (r : Nat) (a b : Value) : Onl r w ((w.setCell ⟨r, 0, none⟩ a).setCell ⟨r, 1, none⟩ b) := (Onl.set r 0 w a).trans (Onl.set r 1 _ b)
theorem set2_keep {W : World} {g r i j : Nat} {v u a b : Value} (h : W.cell? ⟨g, i, none⟩ = some v ∧ W.cell? ⟨g, j, none⟩ = some u) (hne : g ≠ r) : ((W.setCell ⟨r, 0, none⟩ a).setCell ⟨r, 1, none⟩ b).cell? ⟨g, i, none⟩ = some v ∧ ((W.setCell ⟨r, 0, none⟩ a).setCell ⟨r, 1, none⟩ b).cell? ⟨g, j, none⟩ = some u := ⟨(cell_keep (p := ⟨g, i, none⟩) ((onl2 W r a b).block g hne)).trans h.1, (cell_keep (p := ⟨g, j, none⟩) ((onl2 W r a b).block g hne)).trans h.2⟩
def oneS (e : Int) (S : List Int) (v s : Int) : List Int := if e = 0 then S.set v.toNat s else []
def oneF (e : Int) (F : List Int) : List Int := if e = 0 then F else []
def startE (f : FlowD) (b : Bool) (S : List Int) (v : Int) : Int := if tskE f b S v 0 = 0 then (if frv f.tasks S v.toNat = true then 0 else 80) else tskE f b S v 0
theorem LfA.sizes {w : World} {f : FlowD} {A : Option Addr} {c : Nat} {SA : Option Addr} {n sc : Nat} {FA : Option Addr} {m fc : Nat} {S F : List Int} {b : Bool} (h : LfA w f A c SA n sc FA m fc S F b) (h0 : lifeE f b = 0) : checkE f = 0 ∧ LifeOK f.tasks S F ∧ n = f.tasks.length ∧ m = f.tasks.length ∧ n ≤ 4096 := by
  obtain ⟨hc, hb⟩ := lifeE_zero.1 h0
  have hok := h.ok.1 hb
  have h1 : n = f.tasks.length := h.lif.n.symm.trans hok.sl
  exact ⟨hc, hok, h1, h.lif.m.symm.trans hok.fl, by rw [h1]; exact (flw_ok hc).len⟩
theorem LfA.after {w : World} {f : FlowD} {A : Option Addr} {c : Nat} {SA : Option Addr} {n sc : Nat} {FA : Option Addr} {m fc : Nat} {S F : List Int} {b : Bool} (h : LfA w f A c SA n sc FA m fc S F b) (h0 : lifeE f b = 0) {t : TaskD} (ht : t ∈ f.tasks) : ∀ x ∈ t.after, 0 ≤ x ∧ x < (n : Int) := fun x hx => by
  obtain ⟨hc, _, h1, _⟩ := h.sizes h0
  have := (flw_ok hc).valid t.after (List.mem_map.2 ⟨t, ht, rfl⟩) x hx
  rw [after_len] at this
  rw [h1]; exact this
set_option maxHeartbeats 1600000 in
theorem start_any (f : FlowD) (A : Option Addr) (c : Nat) (w : World) (S F : List Int) (SA FA : Option Addr) (n sc m fc : Nat) (b : Bool) (h : LfA w f A c SA n sc FA m fc S F b) (v : Int) :
    Calls Tryd.prog 30 #[.agg #[.string (sb f.name), .int .i64 f.deadline, .int .i64 f.priority, .slice A f.tasks.length c], .agg #[.slice SA n sc, .slice FA m fc], .int .i64 v] w (RetLS w (oneS (startE f b S v) S v 1) (oneF (startE f b S v) F) (startE f b S v)) := by
  obtain ⟨z, hz⟩ : ∃ z, tskE f b S v 0 = z := ⟨_, rfl⟩
  have HC := Lib.hid fun W (hW : Below w.heap.size w W) => checkTask_any f A c W S F SA FA n sc m fc b (h.below hW) v 0 z hz
  by_cases h0 : z = 0
  case neg =>
    have hE : startE f b S v = z := by unfold startE; rw [hz, if_neg h0]
    rw [hE]
    have HZ := Lib.hid (show oneS z S v 1 = [] ∧ oneF z F = [] by unfold oneS oneF; rw [if_neg h0, if_neg h0]; exact ⟨rfl, rfl⟩)
    have hxn : (z != 0) = true := by simp [h0]
    clear h0 h hz hE
    go_enter Tryd.func30, Tryd.ntmps30
    go_wp2_with fail
    refine (HC.out _ (ba3 (b := 0) (Below.refl _ _))).mono ?_
    rintro e w1 ⟨rfl, hb1⟩
    have HB1 := Lib.hid (show Below w.heap.size w w1 from blw (ba3 (b := 0) (Below.refl _ _)) hb1)
    obtain ⟨s1, hr1⟩ := keep7 hb1 (three_boxes _ _ _ _ _ _ _ _ w)
    obtain ⟨p0, p1, p2, p3, p4, p5⟩ := s1
    have r0 := (Dag.blk_cell hr1 0).trans rfl
    have r1 := (Dag.blk_cell hr1 1).trans rfl
    have rf0 := Dag.blk_frozen hr1 0
    have rf1 := Dag.blk_frozen hr1 1
    have HR1 := Lib.hid hr1
    clear hb1 hr1
    go_wp2
    refine bodyPost_ret (results_cell2 rfl _ rfl (store2 HR1.out _ _)) rfl ?_
    rw [HZ.out.1, HZ.out.2]
    exact ⟨_, _, _, _, _, _, rfl, lif_nil _, (onl2 w1 (w.heap.size + 1 + 1) _ _).below HB1.out (by omega)⟩
  subst h0
  obtain ⟨hl0, u, rfl, hu, hst⟩ := tsk_zero hz
  obtain ⟨hc0, hok, hnn, hmm, hn4⟩ := h.sizes hl0
  obtain ⟨t, ht⟩ : ∃ t, f.tasks[u]? = some t := ⟨_, List.getElem?_eq_getElem hu⟩
  obtain ⟨fr, hfr⟩ : ∃ fr, freeD S t.after = fr := ⟨_, rfl⟩
  have HF := Lib.hid fun W (hW : Below w.heap.size w W) => isFree_any f A c W (h.h.below hW) S F SA FA n sc m fc (h.lif.below hW) u t ht (h.after hl0 (List.mem_of_getElem? ht)) fr hfr
  have hE : startE f b S (u : Int) = if fr = true then 0 else 80 := by
    unfold startE
    rw [hz, if_pos rfl, Int.toNat_natCast]
    rw [frv_some ht, hfr]
  rw [hE]
  have CW := Lib.hid fun W (hW : Below w.heap.size w W) B d (hB : Ints W B d [(u : Int)]) => with_any S F n m h.lif.n h.lif.m 1 [u] 1 rfl (fun v hv => by simp at hv; subst hv; rw [hnn]; exact hu) W SA FA sc fc (h.lif.s.below hW) (h.lif.f.below hW) B d hB (by omega) (by omega)
  have HSZ := Lib.hid (show (S.set u 1).length = n ∧ F.length = m ∧ n ≤ 1000000 ∧ m ≤ 1000000 from ⟨by rw [List.length_set]; exact h.lif.n, h.lif.m, by omega, by omega⟩)
  have hun : (u : Int) < 9223372036854775807 := by omega
  clear h hz hl0 hc0 hok hnn hmm hn4 ht hfr hE hst hu
  obtain ⟨zz, hzz⟩ : ∃ x : Int, (if fr = true then 0 else 80) = x := ⟨_, rfl⟩
  have HZZ := Lib.hid hzz
  rw [hzz]
  clear hzz
  go_enter Tryd.func30, Tryd.ntmps30
  go_wp2_with fail
  refine (HC.out _ (ba3 (b := 0) (Below.refl _ _))).mono ?_
  rintro e w1 ⟨rfl, hb1⟩
  have HB1 := Lib.hid (show Below w.heap.size w w1 from blw (ba3 (b := 0) (Below.refl _ _)) hb1)
  obtain ⟨s1, hr1⟩ := keep7 hb1 (three_boxes _ _ _ _ _ _ _ _ w)
  obtain ⟨p0, p1, p2, p3, p4, p5⟩ := s1
  have r0 := (Dag.blk_cell hr1 0).trans rfl
  have r1 := (Dag.blk_cell hr1 1).trans rfl
  have rf0 := Dag.blk_frozen hr1 0
  have rf1 := Dag.blk_frozen hr1 1
  have HR1 := Lib.hid hr1
  clear hb1 hr1
  go_wp2_with fail
  refine (HF.out _ HB1.out).mono ?_
  rintro e w2 ⟨rfl, hb2⟩
  have HB2 := Lib.hid (blw HB1.out hb2)
  have HR2 := Lib.hid (keep_obj hb2 HR1.out)
  have s2 := keep6 hb2 ⟨p0, p1, p2, p3, p4, p5⟩
  clear hb2 p0 p1 p2 p3 p4 p5 r0 r1 rf0 rf1
  obtain ⟨p0, p1, p2, p3, p4, p5⟩ := s2
  have r0 := (Dag.blk_cell HR2.out 0).trans rfl
  have r1 := (Dag.blk_cell HR2.out 1).trans rfl
  have rf0 := Dag.blk_frozen HR2.out 0
  have rf1 := Dag.blk_frozen HR2.out 1
  cases fr
  · obtain rfl : zz = 80 := by simpa using HZZ.out.symm
    clear HZZ
    go_wp2
    refine bodyPost_ret (results_cell2 rfl _ rfl (store2 HR2.out _ _)) rfl ?_
    exact ⟨_, _, _, _, _, _, rfl, lif_nil _, (onl2 w2 (w.heap.size + 1 + 1) _ _).below HB2.out (by omega)⟩
  obtain rfl : zz = 0 := by simpa using HZZ.out.symm
  clear HZZ
  go_wp2_with fail
  refine (CW.out _ (by first | exact ba1d (b := 0) HB2.out | exact ba1 (b := 0) HB2.out) _ _ (by first | exact ia1 (by simp) | exact id_ (ia1 (by simp)) | exact ia1 rfl)).mono ?_
  rintro e w3 ⟨gS, gF, rfl, hne, hg1, hg2, hs, hf, hb3⟩
  have HB3 := Lib.hid (show Below w.heap.size w w3 from blw (by first | exact ba1d (b := 0) HB2.out | exact ba1 (b := 0) HB2.out) hb3)
  have hr3 := keep_obj hb3 (by first | exact keep_obj (ba1d (b := 0) (Below.refl _ _)) HR2.out | exact keep_obj (ba1 (b := 0) (Below.refl _ _)) HR2.out)
  clear p0 p1 p2 p3 p4 p5 r0 r1 rf0 rf1
  have r0 := (Dag.blk_cell hr3 0).trans rfl
  have r1 := (Dag.blk_cell hr3 1).trans rfl
  have rf0 := Dag.blk_frozen hr3 0
  have rf1 := Dag.blk_frozen hr3 1
  have HR3 := Lib.hid hr3
  have HSS := Lib.hid hs
  have HFF := Lib.hid hf
  have HGG := Lib.hid (show w.heap.size + 1 + 1 < gS ∧ w.heap.size + 1 + 1 < gF from ⟨Nat.lt_of_lt_of_le (Nat.lt_of_lt_of_le (Dag.blk_lt HR2.out) (by first | exact (ba1d (b := 0) (Below.refl _ _)).size | exact (ba1 (b := 0) (Below.refl _ _)).size)) hg1, Nat.lt_of_lt_of_le (Nat.lt_of_lt_of_le (Dag.blk_lt HR2.out) (by first | exact (ba1d (b := 0) (Below.refl _ _)).size | exact (ba1 (b := 0) (Below.refl _ _)).size)) hg2⟩)
  clear hne hg1 hg2 hs hf hb3 hr3
  go_wp2
  refine bodyPost_ret (results_cell2 rfl _ rfl (store2 HR3.out _ _)) rfl ?_
  have hgg := HGG.out
  have o2 := onl2 w3 (w.heap.size + 1 + 1) (.slice (some ⟨gS, 0, none⟩) n n) (.slice (some ⟨gF, 0, none⟩) m m)
  exact ⟨_, _, _, _, _, _, rfl, lif_row ((o2.block gS (by omega)).trans HSS.out) ((o2.block gF (by omega)).trans HFF.out) HSZ.out.1 HSZ.out.2.1 HSZ.out.2.2.1 HSZ.out.2.2.2, o2.below HB3.out (by omega)⟩
set_option maxHeartbeats 1600000 in
theorem succeed_any (f : FlowD) (A : Option Addr) (c : Nat) (w : World) (S F : List Int) (SA FA : Option Addr) (n sc m fc : Nat) (b : Bool) (h : LfA w f A c SA n sc FA m fc S F b) (v : Int) :
    Calls Tryd.prog 35 #[.agg #[.string (sb f.name), .int .i64 f.deadline, .int .i64 f.priority, .slice A f.tasks.length c], .agg #[.slice SA n sc, .slice FA m fc], .int .i64 v] w (RetLS w (oneS (tskE f b S v 1) S v 2) (oneF (tskE f b S v 1) F) (tskE f b S v 1)) := by
  obtain ⟨z, hz⟩ : ∃ z, tskE f b S v 1 = z := ⟨_, rfl⟩
  have HC := Lib.hid fun W (hW : Below w.heap.size w W) => checkTask_any f A c W S F SA FA n sc m fc b (h.below hW) v 1 z hz
  by_cases h0 : z = 0
  case neg =>
    have hE : tskE f b S v 1 = z := by exact hz
    rw [hE]
    have HZ := Lib.hid (show oneS z S v 2 = [] ∧ oneF z F = [] by unfold oneS oneF; rw [if_neg h0, if_neg h0]; exact ⟨rfl, rfl⟩)
    have hxn : (z != 0) = true := by simp [h0]
    clear h0 h hz hE
    go_enter Tryd.func35, Tryd.ntmps35
    go_wp2_with fail
    refine (HC.out _ (ba3 (b := 0) (Below.refl _ _))).mono ?_
    rintro e w1 ⟨rfl, hb1⟩
    have HB1 := Lib.hid (show Below w.heap.size w w1 from blw (ba3 (b := 0) (Below.refl _ _)) hb1)
    obtain ⟨s1, hr1⟩ := keep7 hb1 (three_boxes _ _ _ _ _ _ _ _ w)
    obtain ⟨p0, p1, p2, p3, p4, p5⟩ := s1
    have r0 := (Dag.blk_cell hr1 0).trans rfl
    have r1 := (Dag.blk_cell hr1 1).trans rfl
    have rf0 := Dag.blk_frozen hr1 0
    have rf1 := Dag.blk_frozen hr1 1
    have HR1 := Lib.hid hr1
    clear hb1 hr1
    go_wp2
    refine bodyPost_ret (results_cell2 rfl _ rfl (store2 HR1.out _ _)) rfl ?_
    rw [HZ.out.1, HZ.out.2]
    exact ⟨_, _, _, _, _, _, rfl, lif_nil _, (onl2 w1 (w.heap.size + 1 + 1) _ _).below HB1.out (by omega)⟩
  subst h0
  obtain ⟨hl0, u, rfl, hu, hst⟩ := tsk_zero hz
  obtain ⟨hc0, hok, hnn, hmm, hn4⟩ := h.sizes hl0
  rw [hz]
  have CW := Lib.hid fun W (hW : Below w.heap.size w W) B d (hB : Ints W B d [(u : Int)]) => with_any S F n m h.lif.n h.lif.m 2 [u] 1 rfl (fun v hv => by simp at hv; subst hv; rw [hnn]; exact hu) W SA FA sc fc (h.lif.s.below hW) (h.lif.f.below hW) B d hB (by omega) (by omega)
  have HSZ := Lib.hid (show (S.set u 2).length = n ∧ F.length = m ∧ n ≤ 1000000 ∧ m ≤ 1000000 from ⟨by rw [List.length_set]; exact h.lif.n, h.lif.m, by omega, by omega⟩)
  have hun : (u : Int) < 9223372036854775807 := by omega
  clear h hz hl0 hc0 hok hnn hmm hn4 hst hu
  go_enter Tryd.func35, Tryd.ntmps35
  go_wp2_with fail
  refine (HC.out _ (ba3 (b := 0) (Below.refl _ _))).mono ?_
  rintro e w1 ⟨rfl, hb1⟩
  have HB1 := Lib.hid (show Below w.heap.size w w1 from blw (ba3 (b := 0) (Below.refl _ _)) hb1)
  obtain ⟨s1, hr1⟩ := keep7 hb1 (three_boxes _ _ _ _ _ _ _ _ w)
  obtain ⟨p0, p1, p2, p3, p4, p5⟩ := s1
  have r0 := (Dag.blk_cell hr1 0).trans rfl
  have r1 := (Dag.blk_cell hr1 1).trans rfl
  have rf0 := Dag.blk_frozen hr1 0
  have rf1 := Dag.blk_frozen hr1 1
  have HR1 := Lib.hid hr1
  clear hb1 hr1
  go_wp2_with fail
  refine (CW.out _ (by first | exact ba1d (b := 0) HB1.out | exact ba1 (b := 0) HB1.out) _ _ (by first | exact ia1 (by simp) | exact id_ (ia1 (by simp)) | exact ia1 rfl)).mono ?_
  rintro e w3 ⟨gS, gF, rfl, hne, hg1, hg2, hs, hf, hb3⟩
  have HB3 := Lib.hid (show Below w.heap.size w w3 from blw (by first | exact ba1d (b := 0) HB1.out | exact ba1 (b := 0) HB1.out) hb3)
  have hr3 := keep_obj hb3 (by first | exact keep_obj (ba1d (b := 0) (Below.refl _ _)) HR1.out | exact keep_obj (ba1 (b := 0) (Below.refl _ _)) HR1.out)
  clear p0 p1 p2 p3 p4 p5 r0 r1 rf0 rf1
  have r0 := (Dag.blk_cell hr3 0).trans rfl
  have r1 := (Dag.blk_cell hr3 1).trans rfl
  have rf0 := Dag.blk_frozen hr3 0
  have rf1 := Dag.blk_frozen hr3 1
  have HR3 := Lib.hid hr3
  have HSS := Lib.hid hs
  have HFF := Lib.hid hf
  have HGG := Lib.hid (show w.heap.size + 1 + 1 < gS ∧ w.heap.size + 1 + 1 < gF from ⟨Nat.lt_of_lt_of_le (Nat.lt_of_lt_of_le (Dag.blk_lt HR1.out) (by first | exact (ba1d (b := 0) (Below.refl _ _)).size | exact (ba1 (b := 0) (Below.refl _ _)).size)) hg1, Nat.lt_of_lt_of_le (Nat.lt_of_lt_of_le (Dag.blk_lt HR1.out) (by first | exact (ba1d (b := 0) (Below.refl _ _)).size | exact (ba1 (b := 0) (Below.refl _ _)).size)) hg2⟩)
  clear hne hg1 hg2 hs hf hb3 hr3
  go_wp2
  refine bodyPost_ret (results_cell2 rfl _ rfl (store2 HR3.out _ _)) rfl ?_
  have hgg := HGG.out
  have o2 := onl2 w3 (w.heap.size + 1 + 1) (.slice (some ⟨gS, 0, none⟩) n n) (.slice (some ⟨gF, 0, none⟩) m m)
  exact ⟨_, _, _, _, _, _, rfl, lif_row ((o2.block gS (by omega)).trans HSS.out) ((o2.block gF (by omega)).trans HFF.out) HSZ.out.1 HSZ.out.2.1 HSZ.out.2.2.1 HSZ.out.2.2.2, o2.below HB3.out (by omega)⟩
set_option maxHeartbeats 1600000 in
theorem again_any (f : FlowD) (A : Option Addr) (c : Nat) (w : World) (S F : List Int) (SA FA : Option Addr) (n sc m fc : Nat) (b : Bool) (h : LfA w f A c SA n sc FA m fc S F b) (v : Int) :
    Calls Tryd.prog 31 #[.agg #[.string (sb f.name), .int .i64 f.deadline, .int .i64 f.priority, .slice A f.tasks.length c], .agg #[.slice SA n sc, .slice FA m fc], .int .i64 v] w (RetLS w (oneS (tskE f b S v 1) S v 0) (oneF (tskE f b S v 1) F) (tskE f b S v 1)) := by
  obtain ⟨z, hz⟩ : ∃ z, tskE f b S v 1 = z := ⟨_, rfl⟩
  have HC := Lib.hid fun W (hW : Below w.heap.size w W) => checkTask_any f A c W S F SA FA n sc m fc b (h.below hW) v 1 z hz
  by_cases h0 : z = 0
  case neg =>
    have hE : tskE f b S v 1 = z := by exact hz
    rw [hE]
    have HZ := Lib.hid (show oneS z S v 0 = [] ∧ oneF z F = [] by unfold oneS oneF; rw [if_neg h0, if_neg h0]; exact ⟨rfl, rfl⟩)
    have hxn : (z != 0) = true := by simp [h0]
    clear h0 h hz hE
    go_enter Tryd.func31, Tryd.ntmps31
    go_wp2_with fail
    refine (HC.out _ (ba3 (b := 0) (Below.refl _ _))).mono ?_
    rintro e w1 ⟨rfl, hb1⟩
    have HB1 := Lib.hid (show Below w.heap.size w w1 from blw (ba3 (b := 0) (Below.refl _ _)) hb1)
    obtain ⟨s1, hr1⟩ := keep7 hb1 (three_boxes _ _ _ _ _ _ _ _ w)
    obtain ⟨p0, p1, p2, p3, p4, p5⟩ := s1
    have r0 := (Dag.blk_cell hr1 0).trans rfl
    have r1 := (Dag.blk_cell hr1 1).trans rfl
    have rf0 := Dag.blk_frozen hr1 0
    have rf1 := Dag.blk_frozen hr1 1
    have HR1 := Lib.hid hr1
    clear hb1 hr1
    go_wp2
    refine bodyPost_ret (results_cell2 rfl _ rfl (store2 HR1.out _ _)) rfl ?_
    rw [HZ.out.1, HZ.out.2]
    exact ⟨_, _, _, _, _, _, rfl, lif_nil _, (onl2 w1 (w.heap.size + 1 + 1) _ _).below HB1.out (by omega)⟩
  subst h0
  obtain ⟨hl0, u, rfl, hu, hst⟩ := tsk_zero hz
  obtain ⟨hc0, hok, hnn, hmm, hn4⟩ := h.sizes hl0
  rw [hz]
  have CW := Lib.hid fun W (hW : Below w.heap.size w W) B d (hB : Ints W B d [(u : Int)]) => with_any S F n m h.lif.n h.lif.m 0 [u] 1 rfl (fun v hv => by simp at hv; subst hv; rw [hnn]; exact hu) W SA FA sc fc (h.lif.s.below hW) (h.lif.f.below hW) B d hB (by omega) (by omega)
  have HSZ := Lib.hid (show (S.set u 0).length = n ∧ F.length = m ∧ n ≤ 1000000 ∧ m ≤ 1000000 from ⟨by rw [List.length_set]; exact h.lif.n, h.lif.m, by omega, by omega⟩)
  have hun : (u : Int) < 9223372036854775807 := by omega
  clear h hz hl0 hc0 hok hnn hmm hn4 hst hu
  go_enter Tryd.func31, Tryd.ntmps31
  go_wp2_with fail
  refine (HC.out _ (ba3 (b := 0) (Below.refl _ _))).mono ?_
  rintro e w1 ⟨rfl, hb1⟩
  have HB1 := Lib.hid (show Below w.heap.size w w1 from blw (ba3 (b := 0) (Below.refl _ _)) hb1)
  obtain ⟨s1, hr1⟩ := keep7 hb1 (three_boxes _ _ _ _ _ _ _ _ w)
  obtain ⟨p0, p1, p2, p3, p4, p5⟩ := s1
  have r0 := (Dag.blk_cell hr1 0).trans rfl
  have r1 := (Dag.blk_cell hr1 1).trans rfl
  have rf0 := Dag.blk_frozen hr1 0
  have rf1 := Dag.blk_frozen hr1 1
  have HR1 := Lib.hid hr1
  clear hb1 hr1
  go_wp2_with fail
  refine (CW.out _ (by first | exact ba1d (b := 0) HB1.out | exact ba1 (b := 0) HB1.out) _ _ (by first | exact ia1 (by simp) | exact id_ (ia1 (by simp)) | exact ia1 rfl)).mono ?_
  rintro e w3 ⟨gS, gF, rfl, hne, hg1, hg2, hs, hf, hb3⟩
  have HB3 := Lib.hid (show Below w.heap.size w w3 from blw (by first | exact ba1d (b := 0) HB1.out | exact ba1 (b := 0) HB1.out) hb3)
  have hr3 := keep_obj hb3 (by first | exact keep_obj (ba1d (b := 0) (Below.refl _ _)) HR1.out | exact keep_obj (ba1 (b := 0) (Below.refl _ _)) HR1.out)
  clear p0 p1 p2 p3 p4 p5 r0 r1 rf0 rf1
  have r0 := (Dag.blk_cell hr3 0).trans rfl
  have r1 := (Dag.blk_cell hr3 1).trans rfl
  have rf0 := Dag.blk_frozen hr3 0
  have rf1 := Dag.blk_frozen hr3 1
  have HR3 := Lib.hid hr3
  have HSS := Lib.hid hs
  have HFF := Lib.hid hf
  have HGG := Lib.hid (show w.heap.size + 1 + 1 < gS ∧ w.heap.size + 1 + 1 < gF from ⟨Nat.lt_of_lt_of_le (Nat.lt_of_lt_of_le (Dag.blk_lt HR1.out) (by first | exact (ba1d (b := 0) (Below.refl _ _)).size | exact (ba1 (b := 0) (Below.refl _ _)).size)) hg1, Nat.lt_of_lt_of_le (Nat.lt_of_lt_of_le (Dag.blk_lt HR1.out) (by first | exact (ba1d (b := 0) (Below.refl _ _)).size | exact (ba1 (b := 0) (Below.refl _ _)).size)) hg2⟩)
  clear hne hg1 hg2 hs hf hb3 hr3
  go_wp2
  refine bodyPost_ret (results_cell2 rfl _ rfl (store2 HR3.out _ _)) rfl ?_
  have hgg := HGG.out
  have o2 := onl2 w3 (w.heap.size + 1 + 1) (.slice (some ⟨gS, 0, none⟩) n n) (.slice (some ⟨gF, 0, none⟩) m m)
  exact ⟨_, _, _, _, _, _, rfl, lif_row ((o2.block gS (by omega)).trans HSS.out) ((o2.block gF (by omega)).trans HFF.out) HSZ.out.1 HSZ.out.2.1 HSZ.out.2.2.1 HSZ.out.2.2.2, o2.below HB3.out (by omega)⟩

def openN (f : FlowD) (b : Bool) (S : List Int) : Int := if lifeE f b = 0 then ((standL S [0, 1]).length : Int) else 0
set_option maxHeartbeats 1600000 in
theorem opn_any (f : FlowD) (A : Option Addr) (c : Nat) (w : World) (S F : List Int) (SA FA : Option Addr) (n sc m fc : Nat) (b : Bool) (h : LfA w f A c SA n sc FA m fc S F b) :
    Calls Tryd.prog 20 #[.agg #[.string (sb f.name), .int .i64 f.deadline, .int .i64 f.priority, .slice A f.tasks.length c], .agg #[.slice SA n sc, .slice FA m fc]] w fun e w' => e = .returned (.tuple #[.int .i64 (openN f b S), .int .i64 (lifeE f b)]) ∧ Below w.heap.size w w' := by
  have HC := Lib.hid fun W (hW : Below w.heap.size w W) => (h.below hW).check
  obtain ⟨z, hz⟩ : ∃ z, lifeE f b = z := ⟨_, rfl⟩
  unfold openN
  rw [hz] at HC ⊢
  by_cases h0 : z = 0
  case neg =>
    rw [if_neg h0]
    have hxn : (z != 0) = true := by simp [h0]
    clear h0 h hz
    go_enter Tryd.func20, Tryd.ntmps20
    go_wp2_with fail
    refine (HC.out _ (ba2 (b := 0) (Below.refl _ _))).mono ?_
    rintro e w1 ⟨rfl, hb1⟩
    have HB1 := Lib.hid (show Below w.heap.size w w1 from blw (ba2 (b := 0) (Below.refl _ _)) hb1)
    have s1 := keep6 hb1 (two_boxesG _ _ _ _ _ _ w)
    obtain ⟨p0, p1, p2, p3, p4, p5⟩ := s1
    clear hb1
    go_wp2
    go_ret2
    exact ⟨rfl, HB1.out⟩
  subst h0
  rw [if_pos rfl]
  obtain ⟨hc0, hok, hnn, hmm, hn4⟩ := h.sizes hz
  have CO := Lib.hid fun W (hW : Below w.heap.size w W) => open_any S F W SA FA n sc m fc (h.lif.below hW) (by omega)
  obtain ⟨l, hl⟩ : ∃ l, standL S [0, 1] = l := ⟨_, rfl⟩
  rw [hl] at CO ⊢
  clear h hz hc0 hok hnn hmm hn4 hl
  go_enter Tryd.func20, Tryd.ntmps20
  go_wp2_with fail
  refine (HC.out _ (ba2 (b := 0) (Below.refl _ _))).mono ?_
  rintro e w1 ⟨rfl, hb1⟩
  have HB1 := Lib.hid (show Below w.heap.size w w1 from blw (ba2 (b := 0) (Below.refl _ _)) hb1)
  have s1 := keep6 hb1 (two_boxesG _ _ _ _ _ _ w)
  obtain ⟨p0, p1, p2, p3, p4, p5⟩ := s1
  clear hb1
  go_wp2_with fail
  refine (CO.out _ HB1.out).mono ?_
  rintro e w2 ⟨A2, c2, rfl, ho, hb2⟩
  have HB2 := Lib.hid (blw HB1.out hb2)
  rw [Dag.num_len]
  clear ho hb2
  go_wp2
  go_ret2
  exact ⟨rfl, HB2.out⟩

def canS (f : FlowD) (b : Bool) (S : List Int) : List Int := if lifeE f b = 0 then putL S (standL S [0, 1]) 5 else []
set_option maxHeartbeats 1600000 in
theorem cancel_any (f : FlowD) (A : Option Addr) (c : Nat) (w : World) (S F : List Int) (SA FA : Option Addr) (n sc m fc : Nat) (b : Bool) (h : LfA w f A c SA n sc FA m fc S F b) :
    Calls Tryd.prog 22 #[.agg #[.string (sb f.name), .int .i64 f.deadline, .int .i64 f.priority, .slice A f.tasks.length c], .agg #[.slice SA n sc, .slice FA m fc]] w (RetLS w (canS f b S) (oneF (lifeE f b) F) (lifeE f b)) := by
  have HC := Lib.hid fun W (hW : Below w.heap.size w W) => (h.below hW).check
  obtain ⟨z, hz⟩ : ∃ z, lifeE f b = z := ⟨_, rfl⟩
  unfold canS oneF
  rw [hz] at HC ⊢
  by_cases h0 : z = 0
  case neg =>
    rw [if_neg h0, if_neg h0]
    have hxn : (z != 0) = true := by simp [h0]
    clear h0 h hz
    go_enter Tryd.func22, Tryd.ntmps22
    go_wp2_with fail
    refine (HC.out _ (ba3 (b := 0) (Below.refl _ _))).mono ?_
    rintro e w1 ⟨rfl, hb1⟩
    have HB1 := Lib.hid (show Below w.heap.size w w1 from blw (ba3 (b := 0) (Below.refl _ _)) hb1)
    obtain ⟨s1, hr1⟩ := keep7 hb1 (three_boxes _ _ _ _ _ _ _ _ w)
    obtain ⟨p0, p1, p2, p3, p4, p5⟩ := s1
    have r0 := (Dag.blk_cell hr1 0).trans rfl
    have r1 := (Dag.blk_cell hr1 1).trans rfl
    have rf0 := Dag.blk_frozen hr1 0
    have rf1 := Dag.blk_frozen hr1 1
    have HR1 := Lib.hid hr1
    clear hb1 hr1
    go_wp2
    refine bodyPost_ret (results_cell2 rfl _ rfl (store2 HR1.out _ _)) rfl ?_
    exact ⟨_, _, _, _, _, _, rfl, lif_nil _, (onl2 w1 (w.heap.size + 1 + 1) _ _).below HB1.out (by omega)⟩
  subst h0
  rw [if_pos rfl, if_pos rfl]
  obtain ⟨hc0, hok, hnn, hmm, hn4⟩ := h.sizes hz
  have CO := Lib.hid fun W (hW : Below w.heap.size w W) => open_any S F W SA FA n sc m fc (h.lif.below hW) (by omega)
  have hlm : ∀ v ∈ standL S [0, 1], v < n := fun v hv => by rw [← h.lif.n]; exact (stand_mem.1 hv).1
  obtain ⟨l, hl⟩ : ∃ l, standL S [0, 1] = l := ⟨_, rfl⟩
  rw [hl] at CO hlm ⊢
  have CW := Lib.hid fun W (hW : Below w.heap.size w W) k (hk : l.length = k) B d (hB : Ints W B d (num l)) => with_any S F n m h.lif.n h.lif.m 5 l k hk hlm W SA FA sc fc (h.lif.s.below hW) (h.lif.f.below hW) B d hB (by omega) (by omega)
  have HSZ := Lib.hid (show (putL S l 5).length = n ∧ F.length = m ∧ n ≤ 1000000 ∧ m ≤ 1000000 from ⟨by rw [putL_len]; exact h.lif.n, h.lif.m, by omega, by omega⟩)
  clear h hz hc0 hok hnn hmm hn4 hl hlm
  go_enter Tryd.func22, Tryd.ntmps22
  go_wp2_with fail
  refine (HC.out _ (ba3 (b := 0) (Below.refl _ _))).mono ?_
  rintro e w1 ⟨rfl, hb1⟩
  have HB1 := Lib.hid (show Below w.heap.size w w1 from blw (ba3 (b := 0) (Below.refl _ _)) hb1)
  obtain ⟨s1, hr1⟩ := keep7 hb1 (three_boxes _ _ _ _ _ _ _ _ w)
  obtain ⟨p0, p1, p2, p3, p4, p5⟩ := s1
  have r0 := (Dag.blk_cell hr1 0).trans rfl
  have r1 := (Dag.blk_cell hr1 1).trans rfl
  have rf0 := Dag.blk_frozen hr1 0
  have rf1 := Dag.blk_frozen hr1 1
  have HR1 := Lib.hid hr1
  clear hb1 hr1
  go_wp2_with fail
  have s1 : w1.cell? ⟨w.heap.size + 1, 0, none⟩ = some (.slice SA n sc) ∧ w1.cell? ⟨w.heap.size + 1, 1, none⟩ = some (.slice FA m fc) := ⟨p4, p5⟩
  clear p0 p1 p2 p3 p4 p5 r0 r1 rf0 rf1
  go_region_held3 (fun (W : World) => W.cell? ⟨w.heap.size + 1, 0, none⟩ = some (.slice SA n sc) ∧ W.cell? ⟨w.heap.size + 1, 1, none⟩ = some (.slice FA m fc))
    (first | exact s3 | exact s2 | exact s1 | exact set2_keep s3 (by omega))
    (first
      | (go_at_call 46; refine (CW.out _ HB2.out _ (Dag.num_len l).symm _ _ HI.out).mono ?_; rintro e w3 ⟨gS, gF, rfl, hne, hg1, hg2, hs, hf, hb3⟩; have s3 := keep2 hb3 s2; have HB3 := Lib.hid (blw HB2.out hb3); have hr3 := keep_obj hb3 HR2.out; have r0 := (Dag.blk_cell hr3 0).trans rfl; have r1 := (Dag.blk_cell hr3 1).trans rfl; have rf0 := Dag.blk_frozen hr3 0; have rf1 := Dag.blk_frozen hr3 1; have HR3 := Lib.hid hr3; have HSS := Lib.hid hs; have HFF := Lib.hid hf; have HGG := Lib.hid (show w.heap.size + 1 + 1 < gS ∧ w.heap.size + 1 + 1 < gF from ⟨Nat.lt_of_lt_of_le (Dag.blk_lt HR2.out) hg1, Nat.lt_of_lt_of_le (Dag.blk_lt HR2.out) hg2⟩); clear hne hg1 hg2 hs hf hb3 hr3)
      | (go_at_call 44; refine (CO.out _ (bd HB1.out)).mono ?_; rintro e w2 ⟨A2, c2, rfl, ho, hb2⟩; have s2 := keep2 hb2 (show w1.drew.cell? _ = _ ∧ w1.drew.cell? _ = _ from s1); have HB2 := Lib.hid (blw (bd HB1.out) hb2); have HR2 := Lib.hid (keep_obj (W := w1.drew) hb2 HR1.out); have HI := Lib.hid ho.ints'.2; clear ho hb2))
  go_wp2
  refine bodyPost_ret (results_cell2 rfl _ rfl (store2 HR3.out _ _)) rfl ?_
  have hgg := HGG.out
  have o2 := onl2 w3 (w.heap.size + 1 + 1) (.slice (some ⟨gS, 0, none⟩) n n) (.slice (some ⟨gF, 0, none⟩) m m)
  exact ⟨_, _, _, _, _, _, rfl, lif_row ((o2.block gS (by omega)).trans HSS.out) ((o2.block gF (by omega)).trans HFF.out) HSZ.out.1 HSZ.out.2.1 HSZ.out.2.2.1 HSZ.out.2.2.2, o2.below HB3.out (by omega)⟩

set_option maxHeartbeats 1600000 in
theorem same_any (S F S' F' : List Int) (w : World) (SA FA SB FB : Option Addr) (n sc m fc n' sc' m' fc' : Nat) (h : Lif w SA n sc FA m fc S F) (h' : Lif w SB n' sc' FB m' fc' S' F') (r1 r2 : Bool) (hr1 : decide (S = S') = r1) (hr2 : decide (F = F') = r2) :
    Calls Tryd.prog 26 #[.agg #[.slice SA n sc, .slice FA m fc], .agg #[.slice SB n' sc', .slice FB m' fc']] w fun e w' => e = .returned (.bool (r1 && r2)) ∧ Below w.heap.size w w' := by
  have C1 := Lib.hid fun W (hW : Below w.heap.size w W) => eq_any S S' SA SB n n' sc sc' h.n h'.n W (h.s.below hW) (h'.s.below hW) r1 hr1
  have C2 := Lib.hid fun W (hW : Below w.heap.size w W) => eq_any F F' FA FB m m' fc fc' h.m h'.m W (h.f.below hW) (h'.f.below hW) r2 hr2
  clear h h' hr1 hr2
  go_enter Tryd.func26, Tryd.ntmps26
  go_wp2_with fail
  refine (C1.out _ (by first | exact Below.refl _ _ | exact ba1 (b := 0) (Below.refl _ _) | exact ba2 (b := 0) (Below.refl _ _))).mono ?_
  rintro e w1 ⟨rfl, hb1⟩
  have HB1 := Lib.hid (show Below w.heap.size w w1 from blw (by first | exact Below.refl _ _ | exact ba1 (b := 0) (Below.refl _ _) | exact ba2 (b := 0) (Below.refl _ _)) hb1)
  have x0 := keep_cell hb1 (show ((w.alloc (lifO SA n sc FA m fc)).alloc (lifO SB n' sc' FB m' fc')).cell? ⟨w.heap.size, 1, none⟩ = some (.slice FA m fc) from by unfold lifO; simp)
  have x1 := keep_cell hb1 (show ((w.alloc (lifO SA n sc FA m fc)).alloc (lifO SB n' sc' FB m' fc')).cell? ⟨w.heap.size + 1, 1, none⟩ = some (.slice FB m' fc') from by unfold lifO; simp)
  clear hb1
  cases r1
  · go_wp2
    go_ret
    exact ⟨rfl, HB1.out⟩
  go_wp2_with fail
  refine (C2.out _ HB1.out).mono ?_
  rintro e w2 ⟨rfl, hb2⟩
  have HB2 := Lib.hid (blw HB1.out hb2)
  clear hb2
  go_wp2
  go_ret
  exact ⟨rfl, HB2.out⟩
end Go.Proofs.YtgejonmjmieglaaDoor.Lf

