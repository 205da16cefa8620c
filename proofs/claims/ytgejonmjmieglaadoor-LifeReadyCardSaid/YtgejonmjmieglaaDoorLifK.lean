/- Layer 13: Fail. -/
import Derived.Test.YtgejonmjmieglaaDoorLifJ
import Derived.Deep.RegionHeld3
namespace Go.Proofs.YtgejonmjmieglaaDoor.Lf
open Go.RowKit
open Dag (Ints IRows Own1 OwnI Sl ints num info_int info_is arc Plus)
set_option linter.unusedVariables false
set_option maxRecDepth 100000

/-! Fail -/
theorem flc_any (S : List Int) (n : Nat) (hn : S.length = n) (x : Int) (hx : 0 ≤ x ∧ x < (n : Int)) (w : World) (SA : Option Addr) (sc bx : Nat) (hS : Ints w SA sc S) (hb : w.cell? ⟨bx, 0, none⟩ = some (.slice SA n sc)) :
    Calls Tryd.prog 54 #[.int .i64 x, .pointer (some ⟨bx, 0, none⟩)] w fun e w' => e = .returned (.bool (atI S x.toNat == 4)) ∧ Below w.heap.size w w' := by
  have hnl : n ≤ 9223372036854775807 := by rw [← hn]; exact ints_top hS
  obtain ⟨u, rfl⟩ : ∃ u : Nat, x = (u : Int) := ⟨x.toNat, by omega⟩
  have hu : u < n := by omega
  obtain ⟨b, off, y, rfl, hy, hc⟩ := hS.at_ (k := u) (by rw [hn]; exact hu)
  have HY := Lib.hid (show (atI S ((u : Int)).toNat == 4) = (y == 4) by rw [Int.toNat_natCast, atI_some hy])
  clear hS hy hn hx
  go_enter Tryd.func54, Tryd.ntmps54
  go_wp2
  go_ret
  exact ⟨by rw [HY.out]; rfl, Below.refl _ _⟩
def rtv (ts : List TaskD) (v : Nat) : Int := match ts[v]? with
  | some t => t.retry
  | none => 0
theorem rtv_some {ts : List TaskD} {v : Nat} {t : TaskD} (h : ts[v]? = some t) : rtv ts v = t.retry := by simp [rtv, h]
def failS (f : FlowD) (b : Bool) (S F : List Int) (v : Int) (dl : List Nat) : List Int := if tskE f b S v 1 = 0 then (if atI F v.toNat < rtv f.tasks v.toNat then S.set v.toNat 0 else (putL S dl 4).set v.toNat 3) else []
def failF (f : FlowD) (b : Bool) (S F : List Int) (v : Int) : List Int := if tskE f b S v 1 = 0 then F.set v.toNat (atI F v.toNat + 1) else []
def failD (f : FlowD) (b : Bool) (S F : List Int) (v : Int) (dl : List Nat) : List Nat := if tskE f b S v 1 = 0 then (if atI F v.toNat < rtv f.tasks v.toNat then [] else dl) else []
def RetFl (w : World) (S F : List Int) (D : List Nat) (er : Int) (e : Ending) (w' : World) : Prop := ∃ SA n sc FA m fc A c, e = .returned (.tuple #[.agg #[.slice SA n sc, .slice FA m fc], .slice A D.length c, .int .i64 er]) ∧ Lif w' SA n sc FA m fc S F ∧ Ints w' A c (num D) ∧ Below w.heap.size w w'
theorem results_cell3L {fn : Func} {t u v : Tmp} (h : fn.results = #[.cell t 27, .tmp u, .tmp v]) (tmps : Array Value) {w : World} {b : Nat} {a0 a1 : Value} (ht : tmps.getD t undef = .pointer (some ⟨b, 0, none⟩)) (hb : w.heap[b]? = some (.cells #[a0, a1] 27 (0, 0))) :
    (results fn tmps).run Tryd.prog w = .ok (.tuple #[.agg #[a0, a1], tmps.getD u undef, tmps.getD v undef]) w := by
  obtain ⟨i0, hi0, hz0, hz1, hz2⟩ := info_parts info_life
  have ht2 : tmps[t]?.getD undef = .pointer (some ⟨b, 0, none⟩) := by simpa using ht
  simp [results, h, ht2, asAddr, run_loadVar_row w b 27 27 #[a0, a1] (0, 0) _ hb Tryd.underlying27 rfl (by rw [hi0, Option.map_some, hz1]; rfl), Result.andThen]
/-- the list of those that die -/
def DlP (f : FlowD) (S : List Int) (v : Int) (dl : List Nat) : Prop := ∃ q : Nat → Bool, dl = (List.range f.tasks.length).filter q ∧ ∀ w, w < f.tasks.length → (q w = true ↔ BehP f.tasks [v] w ∧ atI S w ≠ 4)
theorem dl_of {f : FlowD} {S : List Int} {v : Int} {dl : List Nat} (h : DlP f S v dl) {p : Nat → Bool} (hp : ∀ w, w < f.tasks.length → (p w = true ↔ BehP f.tasks [v] w)) :
    (num ((List.range f.tasks.length).filter p)).filter (fun x => !(atI S x.toNat == 4)) = num dl := by
  obtain ⟨q, rfl, hq⟩ := h
  unfold num
  rw [List.filter_map, List.filter_filter]
  congr 1
  apply List.filter_congr
  intro w hw
  have hw' : w < f.tasks.length := by simpa using hw
  rw [Bool.eq_iff_iff, hq w hw', ← hp w hw']
  simp [and_comm]
set_option maxHeartbeats 3200000 in
theorem fail_bad (f : FlowD) (A : Option Addr) (c : Nat) (w : World) (S F : List Int) (SA FA : Option Addr) (n sc m fc : Nat) (b : Bool) (h : LfA w f A c SA n sc FA m fc S F b) (v z : Int) (hz : tskE f b S v 1 = z) (h0 : z ≠ 0) :
    Calls Tryd.prog 34 #[.agg #[.string (sb f.name), .int .i64 f.deadline, .int .i64 f.priority, .slice A f.tasks.length c], .agg #[.slice SA n sc, .slice FA m fc], .int .i64 v] w (RetFl w [] [] [] z) := by
  have HC := Lib.hid fun W (hW : Below w.heap.size w W) => checkTask_any f A c W S F SA FA n sc m fc b (h.below hW) v 1 z hz
  have hxn : (z != 0) = true := by simp [h0]
  clear h hz h0
  go_enter Tryd.func34, Tryd.ntmps34
  go_wp2_with fail
  refine (HC.out _ (ba3 (b := 0) (Below.refl _ _))).mono ?_
  rintro e w1 ⟨rfl, hb1⟩
  have HB1 := Lib.hid (show Below w.heap.size w w1 from blw (ba3 (b := 0) (Below.refl _ _)) hb1)
  obtain ⟨s1, hr1⟩ := keep7 hb1 (three_boxes _ _ _ _ _ _ _ _ w)
  obtain ⟨p0, p1, p2, p3, p4, p5⟩ := s1
  have r0 := (Dag.blk_cell hr1 0).trans rfl
  have r1 := (Dag.blk_cell hr1 1).trans rfl
  have rf0 := Dag.blk_frozen hr1 0
  have rf1 := Dag.blk_frozen hr1 1
  have HR1 := Lib.hid hr1
  clear hb1 hr1
  go_wp2
  refine bodyPost_ret (results_cell3L rfl _ rfl (store2 HR1.out _ _)) rfl ?_
  exact ⟨_, _, _, _, _, _, none, 0, rfl, lif_nil _, Ints.empty _, (onl2 w1 (w.heap.size + 1 + 1) _ _).below HB1.out (by omega)⟩
theorem drewN_below {b : Nat} {w W : World} (h : Below b w W) (q : Nat) : Below b w (W.drewN q) := ⟨h.os, h.tape, h.output, h.size, h.block⟩
theorem three_x (v0 v1 v2 v3 u0 u1 z0 z1 : Value) (w : World) : (((w.alloc (.cells #[v0, v1, v2, v3] 24)).alloc (.cells #[u0, u1] 27)).alloc (.cells #[z0, z1] 27)).heap[w.heap.size + 1]? = some (.cells #[u0, u1] 27 (0, 0)) := by
  have h := heap_alloc_new (w.alloc (.cells #[v0, v1, v2, v3] 24)) (.cells #[u0, u1] 27)
  simp only [World.size_alloc] at h
  exact keep_obj (al _ _) h
set_option maxHeartbeats 6400000 in
theorem fail_wait (f : FlowD) (A : Option Addr) (c : Nat) (w : World) (S F : List Int) (SA FA : Option Addr) (n sc m fc : Nat) (b : Bool) (h : LfA w f A c SA n sc FA m fc S F b) (u : Nat) (t : TaskD) (ht : f.tasks[u]? = some t) (hz : tskE f b S (u : Int) 1 = 0) (k : Int) (hk : F[u]? = some k) (hlt : k < t.retry) :
    Calls Tryd.prog 34 #[.agg #[.string (sb f.name), .int .i64 f.deadline, .int .i64 f.priority, .slice A f.tasks.length c], .agg #[.slice SA n sc, .slice FA m fc], .int .i64 (u : Int)] w (RetFl w (S.set u 0) (F.set u (k + 1)) [] 0) := by
  have HC := Lib.hid fun W (hW : Below w.heap.size w W) => checkTask_any f A c W S F SA FA n sc m fc b (h.below hW) (u : Int) 1 0 hz
  have hl0 := (tsk_zero hz).1
  obtain ⟨hc0, hok, hnn, hmm, hn4⟩ := h.sizes hl0
  have hul := (List.getElem?_eq_some_iff.1 ht).1
  have hun : u < n := by omega
  have hum : u < m := by omega
  have hrt := (flw_ok hc0).retry t (List.mem_of_getElem? ht)
  have hkb : 0 ≤ k ∧ k ≤ 21 := by
    have := (hok.task u t ht).k0
    rw [atI_some hk] at this
    omega
  have hlm := h.h.lenI
  have HT := Lib.hid fun W (hW : Below w.heap.size w W) => (h.h.below hW).cells u _ ht
  have HFk := Lib.hid fun W (hW : Below w.heap.size w W) => (h.lif.f.below hW).cells u (.int .i64 k) (Dag.ints_get hk)
  have CW := Lib.hid fun W (hW : Below w.heap.size w W) B d (hB : Ints W B d [(u : Int)]) => with_any S F n m h.lif.n h.lif.m 0 [u] 1 rfl (fun v hv => by simp at hv; subst hv; exact hun) W SA FA sc fc (h.lif.s.below hW) (h.lif.f.below hW) B d hB (by omega) (by omega)
  have HSZ := Lib.hid (show (S.set u 0).length = n ∧ (F.set u (k + 1)).length = m ∧ n ≤ 1000000 ∧ m ≤ 1000000 from ⟨by rw [List.length_set]; exact h.lif.n, by rw [List.length_set]; exact h.lif.m, by omega, by omega⟩)
  have HFK := Lib.hid hk
  clear h hz hl0 hc0 hok hnn hmm hn4 ht hk hrt
  go_enter Tryd.func34, Tryd.ntmps34
  go_wp2_with fail
  refine (HC.out _ (ba3 (b := 0) (Below.refl _ _))).mono ?_
  rintro e w1 ⟨rfl, hb1⟩
  have HB1 := Lib.hid (show Below w.heap.size w w1 from blw (ba3 (b := 0) (Below.refl _ _)) hb1)
  obtain ⟨s1, hr1⟩ := keep7 hb1 (three_boxes _ _ _ _ _ _ _ _ w)
  have hx1 := keep_obj hb1 (three_x _ _ _ _ _ _ _ _ w)
  have HX1 := Lib.hid hx1
  obtain ⟨p0, p1, p2, p3, p4, p5⟩ := s1
  have HR1 := Lib.hid hr1
  clear hb1 hr1 hx1
  obtain ⟨tb, tof, A', c', rfl, h0, h1, h2, h3, h4, h5, _⟩ := HT.out w1 HB1.out
  obtain ⟨b2, o2, eFA, cF⟩ := HFk.out w1 HB1.out
  subst eFA
  clear h0 h1 h2 h4 h5
  go_wp2_with fail
  go_quiet (fail)
  go_wp2_with fail
  refine (CW.out _ (ba1 (b := 0) (drewN_below HB1.out _)) _ _ (ia1 (by simp))).mono ?_
  rintro e w3 ⟨gS, gF, rfl, hne, hg1, hg2, hs, hf, hb3⟩
  have HB3 := Lib.hid (show Below w.heap.size w w3 from blw (ba1 (b := 0) (drewN_below HB1.out _)) hb3)
  have hx3 := keep_obj hb3 (keep_obj (W := w1.drewN nq) (al _ _) HX1.out)
  have hr3 := keep_obj hb3 (keep_obj (W := w1.drewN nq) (al _ _) HR1.out)
  have hlt1 := Dag.blk_lt HR1.out
  have hg1 : w.heap.size + 1 + 1 < gS := Nat.lt_of_lt_of_le (Nat.lt_of_lt_of_le hlt1 (ba1 (b := 0) (w := w1.drewN nq) (Below.refl _ _)).size) hg1
  have hg2 : w.heap.size + 1 + 1 < gF := Nat.lt_of_lt_of_le (Nat.lt_of_lt_of_le hlt1 (ba1 (b := 0) (w := w1.drewN nq) (Below.refl _ _)).size) hg2
  clear p0 p1 p2 p3 p4 p5 h3 cF hlt1
  have HRR := Lib.hid (show w.heap.size + 1 + 1 < gS ∧ w.heap.size + 1 + 1 < gF ∧ gS ≠ gF from ⟨by omega, by omega, hne⟩)
  have hx4 := store2 hx3 (.slice (some ⟨gS, 0, none⟩) n n) (.slice (some ⟨gF, 0, none⟩) m m)
  have o4 := onl2 w3 (w.heap.size + 1) (.slice (some ⟨gS, 0, none⟩) n n) (.slice (some ⟨gF, 0, none⟩) m m)
  have hs4 := (o4.block gS (by omega)).trans hs
  have hf4 := (o4.block gF (by omega)).trans hf
  have hr4 := (o4.block (w.heap.size + 1 + 1) (by omega)).trans hr3
  have xf0 := Dag.blk_frozen hx3 0
  have xf1 := Dag.blk_frozen hx3 1
  have xc0 := (Dag.blk_cell hx3 0).trans rfl
  have xc1 := (Dag.blk_cell hx3 1).trans rfl
  have x40 := (Dag.blk_cell hx4 0).trans rfl
  have x41 := (Dag.blk_cell hx4 1).trans rfl
  have cF4 := rowO_cell hf4 (k := u) HFK.out
  have fF4 := Dag.blk_frozen hf4 u
  have o5 := Onl.set gF u ((w3.setCell ⟨w.heap.size + 1, 0, none⟩ (.slice (some ⟨gS, 0, none⟩) n n)).setCell ⟨w.heap.size + 1, 1, none⟩ (.slice (some ⟨gF, 0, none⟩) m m)) (.int .i64 (k + 1))
  have hf5 := rowO_set (k := u) (x := k + 1) hf4
  have hx5 := (o5.block (w.heap.size + 1) (by omega)).trans hx4
  have hs5 := (o5.block gS hne).trans hs4
  have hr5 := (o5.block (w.heap.size + 1 + 1) (by omega)).trans hr4
  have x50 := (Dag.blk_cell hx5 0).trans rfl
  have x51 := (Dag.blk_cell hx5 1).trans rfl
  have r50 := (Dag.blk_cell hr5 0).trans rfl
  have r51 := (Dag.blk_cell hr5 1).trans rfl
  have rf50 := Dag.blk_frozen hr5 0
  have rf51 := Dag.blk_frozen hr5 1
  have HR5 := Lib.hid hr5; have HF5 := Lib.hid hf5; have HS5 := Lib.hid hs5
  have HB5 := Lib.hid (o5.below (o4.below HB3.out (by omega)) (by omega))
  clear hx4 o4 hs4 hf4 hr4 o5 hf5 hx5 hs5 hr5 hx3 hr3 hs hf hne hg1 hg2 hb3
  go_wp2
  refine bodyPost_ret (results_cell3L rfl _ rfl (store2 HR5.out _ _)) rfl ?_
  have hh := HRR.out
  have o6 := onl2 (((w3.setCell ⟨w.heap.size + 1, 0, none⟩ (.slice (some ⟨gS, 0, none⟩) n n)).setCell ⟨w.heap.size + 1, 1, none⟩ (.slice (some ⟨gF, 0, none⟩) m m)).setCell ⟨gF, u, none⟩ (.int .i64 (k + 1))) (w.heap.size + 1 + 1) (.slice (some ⟨gS, 0, none⟩) n n) (.slice (some ⟨gF, 0, none⟩) m m)
  exact ⟨_, _, _, _, _, _, none, 0, rfl, lif_row ((o6.block gS (by omega)).trans HS5.out) ((o6.block gF (by omega)).trans HF5.out) HSZ.out.1 HSZ.out.2.1 HSZ.out.2.2.1 HSZ.out.2.2.2, Ints.empty _, o6.below HB5.out (by omega)⟩
theorem slices_no {W : World} {g : Nat} {a b : Option Addr} {n c m d : Nat} {T : TypeId} (h : W.heap[g]? = some (.cells #[.slice a n c, .slice b m d] T (0, 0))) : ∀ (i : Nat) (x : Int), W.cell? ⟨g, i, none⟩ ≠ some (.int .i64 x) := fun i x e => by
  rw [Dag.blk_cell h i] at e
  match i with
  | 0 => simp at e
  | 1 => simp at e
  | i + 2 => simp at e
theorem ints_but2 {W W' : World} {A : Option Addr} {c : Nat} {l : List Int} {g1 g2 : Nat} (h : Ints W A c l) (n1 : ∀ (i : Nat) (x : Int), W.cell? ⟨g1, i, none⟩ ≠ some (.int .i64 x)) (n2 : ∀ (i : Nat) (x : Int), W.cell? ⟨g2, i, none⟩ ≠ some (.int .i64 x)) (hk : ∀ b, b < W.heap.size → b ≠ g1 → b ≠ g2 → W'.heap[b]? = W.heap[b]?) : Ints W' A c l := by
  refine ⟨fun k u hu => ?_, h.cap, h.top, h.nil⟩
  obtain ⟨b, off, e, hc⟩ := h.cells k u hu
  obtain ⟨x, _, rfl⟩ := Dag.ints_get' hu
  refine ⟨b, off, e, (cell_keep (p := ⟨b, off + k, none⟩) (hk b (World.block_lt_of_cell? W _ hc) (fun e1 => ?_) (fun e1 => ?_))).trans hc⟩
  · subst e1; exact n1 _ _ hc
  · subst e1; exact n2 _ _ hc
theorem delF_num (bx : Nat) (S : List Int) (l : List Int) (dl : List Nat) (hd : l.filter (fun x => !(atI S x.toNat == 4)) = num dl) (k : Nat) (hk : l.length = k) (w : World) (base : Nat) (A : Option Addr) (c : Nat) (ho : OwnI w base (.slice A k c) l) (hbase : base ≤ w.heap.size)
    (CC : ∀ W, Below base w W → ∀ x ∈ l, Calls Tryd.prog 54 #[.int .i64 x, .pointer (some ⟨bx, 0, none⟩)] W fun e w' => e = .returned (.bool (atI S x.toNat == 4)) ∧ Below W.heap.size W w') :
    Calls Tryd.prog 40 #[.slice A k c, .func (.func 54) #[] #[.pointer (some ⟨bx, 0, none⟩)]] w fun e w' => ∃ A' c', e = .returned (.slice A' dl.length c') ∧ Ints w' A' c' (num dl) ∧ Below base w w' := by
  have h := delF bx (fun x => atI S x.toNat == 4) l k hk w base A c ho hbase CC
  rw [hd, Dag.num_len] at h
  exact h
set_option maxHeartbeats 6400000 in
theorem fail_dead (f : FlowD) (A : Option Addr) (c : Nat) (w : World) (S F : List Int) (SA FA : Option Addr) (n sc m fc : Nat) (b : Bool) (h : LfA w f A c SA n sc FA m fc S F b) (u : Nat) (t : TaskD) (ht : f.tasks[u]? = some t) (hz : tskE f b S (u : Int) 1 = 0) (k : Int) (hk : F[u]? = some k) (hge : t.retry ≤ k) (dl : List Nat) (hdl : DlP f S (u : Int) dl) :
    Calls Tryd.prog 34 #[.agg #[.string (sb f.name), .int .i64 f.deadline, .int .i64 f.priority, .slice A f.tasks.length c], .agg #[.slice SA n sc, .slice FA m fc], .int .i64 (u : Int)] w (RetFl w ((putL S dl 4).set u 3) (F.set u (k + 1)) dl 0) := by
  have HC := Lib.hid fun W (hW : Below w.heap.size w W) => checkTask_any f A c W S F SA FA n sc m fc b (h.below hW) (u : Int) 1 0 hz
  have hl0 := (tsk_zero hz).1
  obtain ⟨hc0, hok, hnn, hmm, hn4⟩ := h.sizes hl0
  have hul := (List.getElem?_eq_some_iff.1 ht).1
  have hun : u < n := by omega
  have hum : u < m := by omega
  have hrt := (flw_ok hc0).retry t (List.mem_of_getElem? ht)
  have hkb : 0 ≤ k ∧ k ≤ 21 := by
    have := (hok.task u t ht).k0
    rw [atI_some hk] at this
    omega
  have hlm := h.h.lenI
  have HT := Lib.hid fun W (hW : Below w.heap.size w W) => (h.h.below hW).cells u _ ht
  have HFk := Lib.hid fun W (hW : Below w.heap.size w W) => (h.lif.f.below hW).cells u (.int .i64 k) (Dag.ints_get hk)
  have CB := Lib.hid fun W (hW : Below w.heap.size w W) B d (hB : Ints W B d [(u : Int)]) => behind_any f hc0 A c W (h.h.below hW) (h.tb.below hW) [(u : Int)] 1 rfl B d hB
  have hdm : ∀ v ∈ dl, v < n := fun v hv => by
    obtain ⟨q, e, _⟩ := hdl
    rw [e] at hv
    have := (List.mem_filter.1 hv).1
    rw [hnn]; simpa using this
  have CW1 := Lib.hid fun W (hW : Below w.heap.size w W) B d (hB : Ints W B d (num dl)) => with_any S F n m h.lif.n h.lif.m 4 dl dl.length rfl hdm W SA FA sc fc (h.lif.s.below hW) (h.lif.f.below hW) B d hB (by omega) (by omega)
  have hpn : (putL S dl 4).length = n := by rw [putL_len]; exact h.lif.n
  have CW2 := Lib.hid fun W gS gF (hs : W.heap[gS]? = some (rowO (putL S dl 4))) (hf : W.heap[gF]? = some (rowO F)) B d (hB : Ints W B d [(u : Int)]) => with_any (putL S dl 4) F n m hpn h.lif.m 3 [u] 1 rfl (fun v hv => by simp at hv; subst hv; exact hun) W (some ⟨gS, 0, none⟩) (some ⟨gF, 0, none⟩) n m (rowO_ints hs hpn (by omega)) (rowO_ints hf h.lif.m (by omega)) B d hB (by omega) (by omega)
  have CL := Lib.hid fun W (hW : Below w.heap.size w W) (hx : W.cell? ⟨w.heap.size + 1, 0, none⟩ = some (.slice SA n sc)) x (h1 : 0 ≤ x ∧ x < (n : Int)) => flc_any S n h.lif.n x h1 W SA sc (w.heap.size + 1) (h.lif.s.below hW) hx
  have HSZ := Lib.hid (show ((putL S dl 4).set u 3).length = n ∧ (F.set u (k + 1)).length = m ∧ n ≤ 1000000 ∧ m ≤ 1000000 from ⟨by rw [List.length_set]; exact hpn, by rw [List.length_set]; exact h.lif.m, by omega, by omega⟩)
  have HFK := Lib.hid hk
  have HDL := Lib.hid hdl
  have HNN := Lib.hid hnn
  clear h hz hl0 hc0 hok hnn hmm hn4 ht hk hrt hdl hdm hpn
  go_enter Tryd.func34, Tryd.ntmps34
  go_wp2_with fail
  refine (HC.out _ (ba3 (b := 0) (Below.refl _ _))).mono ?_
  rintro e w1 ⟨rfl, hb1⟩
  have HB1 := Lib.hid (show Below w.heap.size w w1 from blw (ba3 (b := 0) (Below.refl _ _)) hb1)
  obtain ⟨s1, hr1⟩ := keep7 hb1 (three_boxes _ _ _ _ _ _ _ _ w)
  have hx1 := keep_obj hb1 (three_x _ _ _ _ _ _ _ _ w)
  have HX1 := Lib.hid hx1
  obtain ⟨p0, p1, p2, p3, p4, p5⟩ := s1
  have HR1 := Lib.hid hr1
  clear hb1 hr1 hx1
  obtain ⟨tb, tof, A', c', rfl, h0, h1, h2, h3, h4, h5, _⟩ := HT.out w1 HB1.out
  obtain ⟨b2, o2, eFA, cF⟩ := HFk.out w1 HB1.out
  subst eFA
  clear h0 h1 h2 h4 h5
  go_wp2_with fail
  go_quiet (fail)
  go_wp2_with fail
  refine (CB.out _ (ba1 (b := 0) (drewN_below HB1.out _)) _ _ (ia1 (by simp))).mono ?_
  rintro e w2 ⟨p, A2, c2, hp, rfl, ho, hb2⟩
  have HB2 := Lib.hid (show Below w.heap.size w w2 from blw (ba1 (b := 0) (drewN_below HB1.out _)) hb2)
  have HX2 := Lib.hid (keep_obj hb2 (keep_obj (W := w1.drewN nq) (al _ _) HX1.out))
  have HR2 := Lib.hid (keep_obj hb2 (keep_obj (W := w1.drewN nq) (al _ _) HR1.out))
  have HG2 := Lib.hid (show w.heap.size + 1 + 1 < ((w1.drewN nq).alloc (.cells #[.int .i64 (u : Int)] 3)).heap.size from by have := Dag.blk_lt HR1.out; simp; omega)
  have DR := Lib.hid (delF_num (w.heap.size + 1) S _ dl (dl_of HDL.out hp) _ rfl w2 _ A2 c2 ho hb2.size (by
    intro W hW x hx
    obtain ⟨v, rfl, hv⟩ := Dag.num_mem'.1 hx
    have hvl := (List.mem_filter.1 hv).1
    have hgg := HG2.out
    refine CL.out W (HB2.out.trans (hW.mono (by omega))) ?_ _ ⟨by omega, by rw [HNN.out]; have : v < f.tasks.length := (by simpa using hvl); omega⟩
    exact (Dag.blk_cell ((hW.block (w.heap.size + 1) (by omega)).trans HX2.out) 0).trans rfl))
  clear hp ho hb2 p0 p1 p2 p3 p4 p5 h3 cF
  go_wp2_with fail
  refine DR.out.mono ?_
  rintro e w4 ⟨A4, c4, rfl, hi4, hb4⟩
  have HB4 := Lib.hid (HB2.out.trans (hb4.mono (by have := HG2.out; omega)))
  have hx4 := (hb4.block (w.heap.size + 1) (by have := HG2.out; omega)).trans HX2.out
  have hr4 := (hb4.block (w.heap.size + 1 + 1) HG2.out).trans HR2.out
  have xc40 := (Dag.blk_cell hx4 0).trans rfl
  have xc41 := (Dag.blk_cell hx4 1).trans rfl
  have HX4 := Lib.hid hx4; have HR4 := Lib.hid hr4; have HI4 := Lib.hid hi4
  clear hx4 hr4 hi4 hb4 DR
  go_wp2_with fail
  refine (CW1.out _ HB4.out _ _ HI4.out).mono ?_
  rintro e w5 ⟨gS1, gF1, rfl, _, hg1, hg2, hs1, hf1, hb5⟩
  have HB5a := Lib.hid (blw HB4.out hb5)
  have HX5 := Lib.hid (keep_obj hb5 HX4.out)
  have HR5a := Lib.hid (keep_obj hb5 HR4.out)
  have HK5 := Lib.hid hb5
  have HS5a := Lib.hid hs1; have HF5a := Lib.hid hf1
  clear hg1 hg2 hs1 hf1 hb5 xc40 xc41
  go_wp2_with fail
  refine (CW2.out _ gS1 gF1 (keep_obj (al _ _) HS5a.out) (keep_obj (al _ _) HF5a.out) _ _ (ia1 rfl)).mono ?_
  rintro e w3 ⟨gS, gF, rfl, hne, hg1, hg2, hs, hf, hb3⟩
  have HB3 := Lib.hid (show Below w.heap.size w w3 from blw (ba1 (b := 0) HB5a.out) hb3)
  have HK3 := Lib.hid (show Below w4.heap.size w4 w3 from blw (ba1 (b := 0) HK5.out) hb3)
  have HSZ4 := Lib.hid (show w4.heap.size ≤ gS ∧ w4.heap.size ≤ gF from ⟨Nat.le_trans (ba1 (b := 0) HK5.out).size hg1, Nat.le_trans (ba1 (b := 0) HK5.out).size hg2⟩)
  have hx3 := keep_obj hb3 (keep_obj (al _ _) HX5.out)
  have hr3 := keep_obj hb3 (keep_obj (al _ _) HR5a.out)
  have hlt1 := Dag.blk_lt HR5a.out
  have hg1 : w.heap.size + 1 + 1 < gS := Nat.lt_of_lt_of_le (Nat.lt_of_lt_of_le hlt1 (ba1 (b := 0) (w := w5) (Below.refl _ _)).size) hg1
  have hg2 : w.heap.size + 1 + 1 < gF := Nat.lt_of_lt_of_le (Nat.lt_of_lt_of_le hlt1 (ba1 (b := 0) (w := w5) (Below.refl _ _)).size) hg2
  clear hlt1
  have HRR := Lib.hid (show w.heap.size + 1 + 1 < gS ∧ w.heap.size + 1 + 1 < gF ∧ gS ≠ gF from ⟨by omega, by omega, hne⟩)
  have hx4 := store2 hx3 (.slice (some ⟨gS, 0, none⟩) n n) (.slice (some ⟨gF, 0, none⟩) m m)
  have o4 := onl2 w3 (w.heap.size + 1) (.slice (some ⟨gS, 0, none⟩) n n) (.slice (some ⟨gF, 0, none⟩) m m)
  have hs4 := (o4.block gS (by omega)).trans hs
  have hf4 := (o4.block gF (by omega)).trans hf
  have hr4 := (o4.block (w.heap.size + 1 + 1) (by omega)).trans hr3
  have xf0 := Dag.blk_frozen hx3 0
  have xf1 := Dag.blk_frozen hx3 1
  have xc0 := (Dag.blk_cell hx3 0).trans rfl
  have xc1 := (Dag.blk_cell hx3 1).trans rfl
  have x40 := (Dag.blk_cell hx4 0).trans rfl
  have x41 := (Dag.blk_cell hx4 1).trans rfl
  have cF4 := rowO_cell hf4 (k := u) HFK.out
  have fF4 := Dag.blk_frozen hf4 u
  have o5 := Onl.set gF u ((w3.setCell ⟨w.heap.size + 1, 0, none⟩ (.slice (some ⟨gS, 0, none⟩) n n)).setCell ⟨w.heap.size + 1, 1, none⟩ (.slice (some ⟨gF, 0, none⟩) m m)) (.int .i64 (k + 1))
  have hf5 := rowO_set (k := u) (x := k + 1) hf4
  have hx5 := (o5.block (w.heap.size + 1) (by omega)).trans hx4
  have hs5 := (o5.block gS hne).trans hs4
  have hr5 := (o5.block (w.heap.size + 1 + 1) (by omega)).trans hr4
  have x50 := (Dag.blk_cell hx5 0).trans rfl
  have x51 := (Dag.blk_cell hx5 1).trans rfl
  have r50 := (Dag.blk_cell hr5 0).trans rfl
  have r51 := (Dag.blk_cell hr5 1).trans rfl
  have rf50 := Dag.blk_frozen hr5 0
  have rf51 := Dag.blk_frozen hr5 1
  have HR5 := Lib.hid hr5; have HF5 := Lib.hid hf5; have HS5 := Lib.hid hs5
  have HB5 := Lib.hid (o5.below (o4.below HB3.out (by omega)) (by omega))
  have HKK := Lib.hid (show ∀ b, b < w4.heap.size → b ≠ w.heap.size + 1 → (((w3.setCell ⟨w.heap.size + 1, 0, none⟩ (.slice (some ⟨gS, 0, none⟩) n n)).setCell ⟨w.heap.size + 1, 1, none⟩ (.slice (some ⟨gF, 0, none⟩) m m)).setCell ⟨gF, u, none⟩ (.int .i64 (k + 1))).heap[b]? = w4.heap[b]? from fun b hb hbx => (o5.block b (by have := HSZ4.out; omega)).trans ((o4.block b hbx).trans (HK3.out.block b hb)))
  clear hx4 o4 hs4 hf4 hr4 o5 hf5 hx5 hs5 hr5 hx3 hr3 hs hf hne hg1 hg2 hb3
  go_wp2
  refine bodyPost_ret (results_cell3L rfl _ rfl (store2 HR5.out _ _)) rfl ?_
  have hh := HRR.out
  have o6 := onl2 (((w3.setCell ⟨w.heap.size + 1, 0, none⟩ (.slice (some ⟨gS, 0, none⟩) n n)).setCell ⟨w.heap.size + 1, 1, none⟩ (.slice (some ⟨gF, 0, none⟩) m m)).setCell ⟨gF, u, none⟩ (.int .i64 (k + 1))) (w.heap.size + 1 + 1) (.slice (some ⟨gS, 0, none⟩) n n) (.slice (some ⟨gF, 0, none⟩) m m)
  exact ⟨_, _, _, _, _, _, A4, c4, rfl, lif_row ((o6.block gS (by omega)).trans HS5.out) ((o6.block gF (by omega)).trans HF5.out) HSZ.out.1 HSZ.out.2.1 HSZ.out.2.2.1 HSZ.out.2.2.2, ints_but2 (g1 := w.heap.size + 1) (g2 := w.heap.size + 1 + 1) HI4.out (slices_no HX4.out) (slices_no HR4.out) (fun b hb h1 h2 => (o6.block b h2).trans (HKK.out b hb h1)), o6.below HB5.out (by omega)⟩
end Go.Proofs.YtgejonmjmieglaaDoor.Lf

