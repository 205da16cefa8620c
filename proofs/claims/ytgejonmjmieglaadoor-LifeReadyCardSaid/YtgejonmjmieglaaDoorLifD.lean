/- Layer 13: what waits for some: behind; areDead, open, isWhole, Check. -/
import Derived.Test.YtgejonmjmieglaaDoorLifC
namespace Go.Proofs.YtgejonmjmieglaaDoor.Lf
open Go.RowKit
open Dag (Ints IRows Own1 OwnI Sl ints num info_int info_is arc Plus)
set_option linter.unusedVariables false
set_option maxRecDepth 100000

theorem flw_aft {f : FlowD} (hc : checkE f = 0) : ∀ t ∈ f.tasks, t.after.length ≤ f.tasks.length := by
  unfold checkE at hc
  split at hc
  · cases hc
  split at hc
  · cases hc
  split at hc
  · cases hc
  split at hc
  · cases hc
  split at hc
  · cases hc
  rename_i h
  intro t ht
  exact linksOK_len (by simpa using h) t.after (List.mem_map.2 ⟨t, ht, rfl⟩)

/-- rows of a call's own: no row in the outer block -/
theorem half_rebase {w : World} {base b n k : Nat} {v : Value} {ls : List (List Int)} (h : Half w base v n k ls) (hb : b ≤ base) : Half w b v n k ls := by
  obtain ⟨g, vs, rfl, hl, hbg, hlt, ho, hr⟩ := h.ex
  exact ⟨g, vs, rfl, hl, by omega, hlt, ho.rebase hb, hr⟩
theorem half_nil {w : World} {base n k g : Nat} {ls : List (List Int)} (h : Half w base (.slice (some ⟨g, 0, none⟩) n n) n n ls) (hls : ls.length = n) (hk : k < n) :
    base ≤ g ∧ g < w.heap.size ∧ (∃ u, w.cell? ⟨g, k, none⟩ = some u) ∧ w.frozen? ⟨g, k, none⟩ = false ∧ Half (w.setCell ⟨g, k, none⟩ (.slice none 0 0)) base (.slice (some ⟨g, 0, none⟩) n n) n n (ls.set k []) := by
  obtain ⟨g', vs, e, hl, hbg, hlt, ho, hr⟩ := h.ex
  injection e with e; injection e with e; injection e with e; subst e
  have hkv : k < vs.length := by omega
  obtain ⟨g2, e2, _, hlt1, hc, hf, _, hs⟩ := Own1.at_ ho (List.getElem?_eq_getElem hkv)
  injection e2 with e2; injection e2 with e2; subst e2
  refine ⟨hbg, hlt, ⟨_, hc⟩, hf, ⟨_, _, rfl, by rw [List.length_set]; exact hl, hbg, by simpa [World.setCell] using hlt1, hs _, fun j ys hj hy => ?_⟩⟩
  rw [List.getElem?_set] at hy
  by_cases e : k = j
  · subst e
    rw [if_pos rfl, if_pos (by omega)] at hy; injection hy with hy; subst hy
    exact ⟨none, 0, by rw [List.getElem?_set, if_pos rfl, if_pos hkv]; rfl, Ints.empty _, fun a ha => by cases ha⟩
  · rw [if_neg e] at hy
    obtain ⟨A', c', h1, h2, h3⟩ := hr j ys hj hy
    exact ⟨A', c', by rw [List.getElem?_set, if_neg e]; exact h1, ints_other h2 (fun a ha => by have := h3 a ha; omega), h3⟩
def RetA (f : FlowD) (w : World) (e : Ending) (w' : World) : Prop := ∃ g, e = .returned (.slice (some ⟨g, 0, none⟩) f.tasks.length f.tasks.length) ∧ Half w' w.heap.size (.slice (some ⟨g, 0, none⟩) f.tasks.length f.tasks.length) f.tasks.length f.tasks.length (afterL f.tasks) ∧ Below w.heap.size w w'
set_option maxHeartbeats 1600000 in
theorem after_own (f : FlowD) (A : Option Addr) (c : Nat) (w : World) (h : Tasks w A c f.tasks) (hn : f.tasks.length ≤ 1000000) (hl : ∀ t ∈ f.tasks, t.after.length ≤ 100000000) :
    Calls Tryd.prog 60 #[.agg #[.string (sb f.name), .int .i64 f.deadline, .int .i64 f.priority, .slice A f.tasks.length c]] w (RetA f w) := by
  have H := Lib.hid h; clear h
  have HL := Lib.hid hl; clear hl
  have hmk := fun (W : World) (x y : Int) (hx : x = (f.tasks.length : Int)) (hy : y = (f.tasks.length : Int)) => Dag.run_mk W 60 25 (.slice none 0 0) 24 Tryd.underlying60 info_is rfl (by decide) f.tasks.length hn x y hx hy
  have hmk1 := fun (W : World) => hmk W _ _ rfl rfl
  clear hmk
  go_enter Tryd.func60, Tryd.ntmps60
  go_wp2
  go_loopw [13] (fun i wr => ∃ k : Nat, k ≤ f.tasks.length ∧ i = .int .i64 k ∧ Below w.heap.size w wr ∧ Hid (Half wr w.heap.size (.slice (some ⟨w.heap.size + 1, 0, none⟩) f.tasks.length f.tasks.length) f.tasks.length k (afterL f.tasks))) (fun i _ => f.tasks.length - (intOf i).toNat)
  case atStart =>
    refine ⟨0, Nat.zero_le _, rfl, blw (al _ _) (al _ _), Lib.hid ⟨_, _, rfl, List.length_replicate, by omega, by simp, Own1.make (w.alloc _) _ _ (by simp) _ hn (.slice none 0 0) (by simp), fun j xs hj => by omega⟩⟩
  case round =>
    obtain ⟨k, hk, rfl, hb, hh⟩ := hrel
    by_cases hlt : k < f.tasks.length
    · obtain ⟨t, ht⟩ : ∃ t, f.tasks[k]? = some t := ⟨_, List.getElem?_eq_getElem hlt⟩
      obtain ⟨b, off, A', c', rfl, h0, h1, h2, h3, h4, h5, hI⟩ := (H.out.below hb).cells k _ ht
      have hll := HL.out t (List.mem_of_getElem? ht)
      have HI := Lib.hid (show Ints (wr.alloc (.cells #[.string (sb t.name), .int .i64 t.nodes, .int .i64 t.wall, .int .i64 t.retry, .bool t.done, .slice A' t.after.length c'] 64)) A' c' t.after from hI.below (al wr _))
      have HG := Lib.hid (after_get ht)
      clear hI ht
      go_wp2_with fail
      refine (clone_any t.after _ rfl _ A' c' HI.out hll).mono ?_
      rintro e w1 ⟨A9, c9, rfl, hi9, hA9, hb9⟩
      obtain ⟨g, eg, hbg, hlg, ⟨u, hc⟩, hf, hS⟩ := (hh.out.below (al wr _)).step hb9 hlt HG.out hi9 hA9
      injection eg with eg
      injection eg with eg
      injection eg with eg
      have HS := Lib.hid hS
      have HB := Lib.hid (blw (blw hb (al wr _)) hb9)
      clear hS hi9 hA9 hb9 hlg
      subst eg
      go_wp2
      go_roundw
      case rel => exact ⟨k + 1, by omega, by go_num, HB.out.setCell (by simp) _, HS⟩
      case measure => simp [intOf]; omega
    · obtain rfl : k = f.tasks.length := by omega
      go_wp2
      go_ret
      exact ⟨_, rfl, hh.out, hb⟩

/-- those that wait for any of these, over what is not done -/
def BehP (ts : List TaskD) (l : List Int) (v : Nat) : Prop := ∃ u : Nat, u < ts.length ∧ (u : Int) ∈ l ∧ Plus (arc (linkE ts)) v u
def RetBeh (ts : List TaskD) (l : List Int) (w : World) (e : Ending) (w' : World) : Prop :=
  ∃ (p : Nat → Bool) (A : Option Addr) (c : Nat), (∀ v, v < ts.length → (p v = true ↔ BehP ts l v)) ∧ e = .returned (.slice A (num ((List.range ts.length).filter p)).length c) ∧ OwnI w' w.heap.size (.slice A (num ((List.range ts.length).filter p)).length c) (num ((List.range ts.length).filter p)) ∧ Below w.heap.size w w'
theorem far_beh {ts : List TaskD} (hV : Dag.Valid (linkE ts)) {l : List Int} {v : Nat} (hv : v < ts.length) : Dag.FarP (Dag.rev (linkE ts)) l v ↔ BehP ts l v := by
  unfold Dag.FarP BehP
  constructor
  · rintro ⟨s, h1, h2, h3⟩
    rw [Dag.rev_len, link_len] at h1
    refine ⟨s, h1, h2, h3.flip fun x y h => ?_⟩
    have hx := Dag.arc_lt h
    rw [Dag.rev_len] at hx
    exact ((Dag.arc_rev hx).1 h).2
  · rintro ⟨u, h1, h2, h3⟩
    refine ⟨u, by rw [Dag.rev_len, link_len]; exact h1, h2, h3.flip fun x y h => ?_⟩
    exact (Dag.arc_rev (hV.arc h)).2 ⟨Dag.arc_lt h, h⟩
set_option maxHeartbeats 3200000 in
theorem behind_any (f : FlowD) (hc : checkE f = 0) (A : Option Addr) (c : Nat) (w : World) (h : Tasks w A c f.tasks) (hT : Tb3 w) (l : List Int) (nl : Nat) (hel : l.length = nl) (Al : Option Addr) (cl : Nat) (hl : Ints w Al cl l) :
    Calls Tryd.prog 53 #[.agg #[.string (sb f.name), .int .i64 f.deadline, .int .i64 f.priority, .slice A f.tasks.length c], .slice Al nl cl] w (RetBeh f.tasks l w) := by
  have hf := flw_ok hc
  have hln := hf.len
  have CA := Lib.hid (fun W (hW : Below w.heap.size w W) => after_own f A c W (h.below hW) (by omega) (fun t ht => Nat.le_trans (flw_aft hc t ht) (by omega)))
  have CN := Lib.hid (fun W A' c' (hW : Below w.heap.size w W) (hr : IRows W A' c' (linkE f.tasks)) => Dag.new_any (linkE f.tasks) f.tasks.length (link_len _) W A' c' hr hf.len (fun l hm => by
    obtain ⟨t, ht, rfl⟩ := List.mem_map.1 hm
    unfold lnkT
    split
    · simp
    · exact Nat.le_trans (flw_aft hc t ht) (by omega)) (hT.below hW).dag)
  have CB := Lib.hid (fun W p (hW : Below w.heap.size w W) (hg : Dag.Gr W (linkE f.tasks) p) => Dag.below_any W (linkE f.tasks) p hg (by rw [link_len]; exact hf.len) l nl hel Al cl (hl.below hW) (hT.below hW).dag)
  have HNE := Lib.hid hf.new
  have HV := Lib.hid (link_valid hf.valid)
  have H := Lib.hid h
  clear h hT hl hel hf hc
  go_enter Tryd.func53, Tryd.ntmps53
  go_wp2_with fail
  refine (CA.out _ (al _ _)).mono ?_
  rintro e w1 ⟨g, rfl, hh, hb1⟩
  have HB1 := Lib.hid (blw (al w (flowO f A c)) hb1)
  have HO1 : Hid (w1.heap[w.heap.size]? = some (flowO f A c)) := Lib.hid ((hb1.block _ (by simp)).trans (heap_alloc_new w _))
  have HH := Lib.hid (half_rebase hh (b := w.heap.size + 1) (by simp))
  clear hb1 hh
  obtain ⟨p0, p1, p2, p3, hp⟩ := flowO_cells HO1.out
  go_wp2_with fail
  go_loopw [15] (fun i wr => ∃ k : Nat, k ≤ f.tasks.length ∧ i = .int .i64 k ∧ Hid (Below w.heap.size w wr) ∧ Hid (Half wr (w.heap.size + 1) (.slice (some ⟨g, 0, none⟩) f.tasks.length f.tasks.length) f.tasks.length f.tasks.length (linkK f.tasks k))) (fun i _ => f.tasks.length - (intOf i).toNat)
  case atStart => exact ⟨0, Nat.zero_le _, rfl, HB1, Lib.hid (by rw [linkK_zero]; exact HH.out)⟩
  case round =>
    obtain ⟨k, hk, rfl, HB, HK⟩ := hrel
    by_cases hlt : k < f.tasks.length
    · obtain ⟨t, ht⟩ : ∃ t, f.tasks[k]? = some t := ⟨_, List.getElem?_eq_getElem hlt⟩
      obtain ⟨b, off, A', c', rfl, h0, h1, h2, h3, h4, h5, hI⟩ := (H.out.below HB.out).cells k _ ht
      have HB2 := Lib.hid (blw HB.out (al wr (.cells #[.string (sb t.name), .int .i64 t.nodes, .int .i64 t.wall, .int .i64 t.retry, .bool t.done, .slice A' t.after.length c'] 64)))
      cases hd : t.done
      · have HN := Lib.hid (linkK_not ht hd)
        rw [hd] at h4 HB2
        have HK2 := Lib.hid (HK.out.below (al wr (.cells #[.string (sb t.name), .int .i64 t.nodes, .int .i64 t.wall, .int .i64 t.retry, .bool false, .slice A' t.after.length c'] 64)))
        clear hI ht hd
        go_wp2
        go_roundw
        case rel => exact ⟨k + 1, by omega, by go_num, HB2, Lib.hid (by rw [← HN.out]; exact HK2.out)⟩
        case measure => simp [intOf]; omega
      · have HN := Lib.hid (linkK_done ht hd)
        rw [hd] at h4 HB2
        obtain ⟨hg1, hg2, ⟨u, hc⟩, hfz, hK2⟩ := half_nil (HK.out.below (al wr (.cells #[.string (sb t.name), .int .i64 t.nodes, .int .i64 t.wall, .int .i64 t.retry, .bool true, .slice A' t.after.length c'] 64))) (linkK_len _ _) hlt
        have HK2 := Lib.hid hK2
        have HG1 := Lib.hid hg1
        clear hI ht hd hK2 hg1 hg2
        go_wp2
        go_roundw
        case rel => exact ⟨k + 1, by omega, by go_num, Lib.hid (HB2.out.setCell (by have := HG1.out; simp; omega) _), Lib.hid (by rw [← HN.out]; exact HK2.out)⟩
        case measure => simp [intOf]; omega
    · obtain rfl : k = f.tasks.length := by omega
      obtain ⟨A9, c9, e9, h9⟩ := HK.out.rows (linkK_len _ _) (by simp only [maxLen]; omega)
      injection e9 with e1 e2 e3
      subst e1 e3
      rw [linkK_all] at h9
      have H9 := Lib.hid h9
      clear h9
      go_wp2_with fail
      refine (CN.out _ _ _ HB.out H9.out).mono ?_
      rintro e w5 ⟨p, rfl, hb5, hg5, _⟩
      have HG5 := Lib.hid (hg5 HNE.out)
      have HB5 := Lib.hid (blw HB.out hb5)
      rw [HNE.out]
      clear hb5 hg5
      go_wp2_with fail
      refine (CB.out _ p HB5.out HG5.out).mono ?_
      rintro e w6 ⟨q, A6, c6, hq, rfl, ho, hb6⟩
      rw [link_len] at hq ho ⊢
      have HQ := Lib.hid (show ∀ v, v < f.tasks.length → (q v = true ↔ BehP f.tasks l v) from fun v hv => (hq v hv).trans (far_beh HV.out hv))
      have HO6 := Lib.hid (ho.rebase HB5.out.size)
      have HB6 := Lib.hid (blw HB5.out hb6)
      clear hq ho hb6
      go_wp2
      go_ret
      exact ⟨q, A6, c6, HQ.out, rfl, HO6.out, HB6.out⟩

/-! areDead, open, isWhole -/
theorem dead_iff {ts : List TaskD} {S : List Int} (hs : S.length = ts.length) {p : Nat → Bool} (hp : ∀ v, v < ts.length → (p v = true ↔ BehP ts (num (standL S [3])) v)) :
    (num (standL S [4]) = num ((List.range ts.length).filter p) ↔ ∀ v, v < ts.length → (atI S v = 4 ↔ DeadP ts S v)) := by
  have hd : ∀ v, BehP ts (num (standL S [3])) v ↔ DeadP ts S v := fun v => by
    unfold BehP DeadP
    constructor
    · rintro ⟨u, h1, h2, h3⟩
      rw [Dag.num_mem, stand_mem] at h2
      exact ⟨u, h1, by simpa using h2.2, h3⟩
    · rintro ⟨u, h1, h2, h3⟩
      exact ⟨u, h1, by rw [Dag.num_mem, stand_mem]; exact ⟨by omega, by simp [h2]⟩, h3⟩
  have hst : standL S [4] = (List.range ts.length).filter p ↔ ∀ v, v < ts.length → (atI S v = 4 ↔ DeadP ts S v) := by
    unfold standL
    rw [hs, filter_ext_iff]
    constructor
    · intro h v hv; rw [← hd v, ← hp v hv, ← h v hv]; simp
    · intro h v hv; rw [hp v hv, hd v, ← h v hv]; simp
  rw [← hst]
  exact ⟨fun h => Dag.num_inj h, fun h => by rw [h]⟩
theorem keep6 {W W' : World} (hb : Below W.heap.size W W') {p0 p1 p2 p3 p4 p5 : Addr} {v0 v1 v2 v3 v4 v5 : Value} (h : W.cell? p0 = some v0 ∧ W.cell? p1 = some v1 ∧ W.cell? p2 = some v2 ∧ W.cell? p3 = some v3 ∧ W.cell? p4 = some v4 ∧ W.cell? p5 = some v5) : W'.cell? p0 = some v0 ∧ W'.cell? p1 = some v1 ∧ W'.cell? p2 = some v2 ∧ W'.cell? p3 = some v3 ∧ W'.cell? p4 = some v4 ∧ W'.cell? p5 = some v5 :=
  ⟨keep_cell hb h.1, keep_cell hb h.2.1, keep_cell hb h.2.2.1, keep_cell hb h.2.2.2.1, keep_cell hb h.2.2.2.2.1, keep_cell hb h.2.2.2.2.2⟩
theorem bd {b : Nat} {w W : World} (h : Below b w W) : Below b w W.drew := ⟨h.os, h.tape, h.output, h.size, h.block⟩
theorem ba1 {b : Nat} {w W : World} {o : Obj} (h : Below w.heap.size w W) : Below w.heap.size w (W.alloc o) := blw h (al _ _)
theorem ba2 {b : Nat} {w W : World} {o p : Obj} (h : Below w.heap.size w W) : Below w.heap.size w ((W.alloc o).alloc p) := blw (blw h (al _ _)) (al _ _)
theorem ba1d {b : Nat} {w W : World} {o : Obj} (h : Below w.heap.size w W) : Below w.heap.size w (W.alloc o).drew := bd (ba1 (b := 0) h)
theorem ba2d {b : Nat} {w W : World} {o p : Obj} (h : Below w.heap.size w W) : Below w.heap.size w ((W.alloc o).alloc p).drew := bd (ba2 (b := 0) h)
theorem ia1 {W : World} {x : Int} {g : Nat} (hg : W.heap.size = g) : Ints (W.alloc (.cells #[.int .i64 x] 3)) (some ⟨g, 0, none⟩) 1 [x] := by
  subst hg
  exact rowO_ints (S := [x]) (heap_alloc_new _ _) rfl (by decide)
theorem id_ {W : World} {A : Option Addr} {c : Nat} {l : List Int} (h : Ints W A c l) : Ints W.drew A c l := h.below (Dag.below_drew _ _)
theorem ia2 {W : World} {x : Int} {p : Obj} {g : Nat} (hg : W.heap.size = g) : Ints ((W.alloc (.cells #[.int .i64 x] 3)).alloc p) (some ⟨g, 0, none⟩) 1 [x] := (ia1 hg).below (al _ _)
theorem ia12 {W : World} {x y : Int} {g : Nat} (hg : W.heap.size = g) : Ints (W.alloc (.cells #[.int .i64 x, .int .i64 y] 3)) (some ⟨g, 0, none⟩) 2 [x, y] := by
  subst hg
  exact rowO_ints (S := [x, y]) (heap_alloc_new _ _) rfl (by decide)
theorem two_boxes (f : FlowD) (A : Option Addr) (c : Nat) (SA FA : Option Addr) (n sc m fc : Nat) (w : World) : ((w.alloc (flowO f A c)).alloc (lifO SA n sc FA m fc)).cell? ⟨w.heap.size, 0, none⟩ = some (.string (sb f.name)) ∧ ((w.alloc (flowO f A c)).alloc (lifO SA n sc FA m fc)).cell? ⟨w.heap.size, 1, none⟩ = some (.int .i64 f.deadline) ∧ ((w.alloc (flowO f A c)).alloc (lifO SA n sc FA m fc)).cell? ⟨w.heap.size, 2, none⟩ = some (.int .i64 f.priority) ∧ ((w.alloc (flowO f A c)).alloc (lifO SA n sc FA m fc)).cell? ⟨w.heap.size, 3, none⟩ = some (.slice A f.tasks.length c) ∧ ((w.alloc (flowO f A c)).alloc (lifO SA n sc FA m fc)).cell? ⟨w.heap.size + 1, 0, none⟩ = some (.slice SA n sc) ∧ ((w.alloc (flowO f A c)).alloc (lifO SA n sc FA m fc)).cell? ⟨w.heap.size + 1, 1, none⟩ = some (.slice FA m fc) := by
  have h1 := keep_obj (al _ (lifO SA n sc FA m fc)) (heap_alloc_new w (flowO f A c))
  have h2 := heap_alloc_new (w.alloc (flowO f A c)) (lifO SA n sc FA m fc)
  rw [World.size_alloc] at h2
  exact ⟨(Dag.blk_cell h1 0).trans rfl, (Dag.blk_cell h1 1).trans rfl, (Dag.blk_cell h1 2).trans rfl, (Dag.blk_cell h1 3).trans rfl, (Dag.blk_cell h2 0).trans rfl, (Dag.blk_cell h2 1).trans rfl⟩
theorem ints_of1 {W : World} {g : Nat} {x : Int} (h : W.heap[g]? = some (.cells #[.int .i64 x] 3 (0, 0))) : Ints W (some ⟨g, 0, none⟩) 1 [x] := rowO_ints (S := [x]) h rfl (by decide)
theorem eq_dec {a b : List Int} {P : Prop} {r : Bool} (h : a = b ↔ P) (hr : r = true ↔ P) : decide (a = b) = r := by
  rw [Bool.eq_iff_iff, decide_eq_true_eq, h, hr]
set_option maxHeartbeats 3200000 in
theorem areDead_any (f : FlowD) (hc : checkE f = 0) (A : Option Addr) (c : Nat) (w : World) (h : Tasks w A c f.tasks) (hT : Tb3 w) (S F : List Int) (SA FA : Option Addr) (n sc m fc : Nat) (hL : Lif w SA n sc FA m fc S F) (hSn : S.length = f.tasks.length) (r : Bool) (hr : r = true ↔ ∀ v, v < f.tasks.length → (atI S v = 4 ↔ DeadP f.tasks S v)) :
    Calls Tryd.prog 48 #[.agg #[.string (sb f.name), .int .i64 f.deadline, .int .i64 f.priority, .slice A f.tasks.length c], .agg #[.slice SA n sc, .slice FA m fc]] w fun e w' => e = .returned (.bool r) ∧ Below w.heap.size w w' := by
  have hln := (flw_ok hc).len
  have CS := Lib.hid (fun W (hW : Below w.heap.size w W) x B d (hB : Ints W B d [x]) => standing_any S [x] n 1 hL.n rfl (by have := hL.n; omega) W SA FA B sc m fc d (hL.s.below hW) hB)
  have CB := Lib.hid (fun W (hW : Below w.heap.size w W) l nl (hel : l.length = nl) Al cl (hl : Ints W Al cl l) => behind_any f hc A c W (h.below hW) (hT.below hW) l nl hel Al cl hl)
  have HR := Lib.hid hr; have HSn := Lib.hid hSn
  clear h hT hL hSn hr hc
  go_enter Tryd.func48, Tryd.ntmps48
  go_wp2_with fail
  have s0 : ((w.alloc (flowO f A c)).alloc (lifO SA n sc FA m fc)).cell? ⟨w.heap.size, 0, none⟩ = some (.string (sb f.name)) ∧ ((w.alloc (flowO f A c)).alloc (lifO SA n sc FA m fc)).cell? ⟨w.heap.size, 1, none⟩ = some (.int .i64 f.deadline) ∧ ((w.alloc (flowO f A c)).alloc (lifO SA n sc FA m fc)).cell? ⟨w.heap.size, 2, none⟩ = some (.int .i64 f.priority) ∧ ((w.alloc (flowO f A c)).alloc (lifO SA n sc FA m fc)).cell? ⟨w.heap.size, 3, none⟩ = some (.slice A f.tasks.length c) ∧ ((w.alloc (flowO f A c)).alloc (lifO SA n sc FA m fc)).cell? ⟨w.heap.size + 1, 0, none⟩ = some (.slice SA n sc) ∧ ((w.alloc (flowO f A c)).alloc (lifO SA n sc FA m fc)).cell? ⟨w.heap.size + 1, 1, none⟩ = some (.slice FA m fc) := two_boxes f A c SA FA n sc m fc w
  have HB0 := Lib.hid (blw (al w (flowO f A c)) (al _ (lifO SA n sc FA m fc)))
  change Code.wp _ _ _ _ ((w.alloc (flowO f A c)).alloc (lifO SA n sc FA m fc))
  generalize (w.alloc (flowO f A c)).alloc (lifO SA n sc FA m fc) = w1 at s0 HB0 ⊢
  go_region_held3 (fun (W : World) => W.cell? ⟨w.heap.size, 0, none⟩ = some (.string (sb f.name)) ∧ W.cell? ⟨w.heap.size, 1, none⟩ = some (.int .i64 f.deadline) ∧ W.cell? ⟨w.heap.size, 2, none⟩ = some (.int .i64 f.priority) ∧ W.cell? ⟨w.heap.size, 3, none⟩ = some (.slice A f.tasks.length c) ∧ W.cell? ⟨w.heap.size + 1, 0, none⟩ = some (.slice SA n sc) ∧ W.cell? ⟨w.heap.size + 1, 1, none⟩ = some (.slice FA m fc))
    (first | exact s13 | exact s12 | exact s11 | exact keep6 (al _ _) s4 | exact s4 | exact keep6 (al _ _) (keep6 (al _ _) s0) | exact keep6 (al _ _) s0 | exact s0)
    (first
      | (go_at_call 51; refine (eq_any _ _ _ _ _ _ _ _ rfl rfl _ I4.out I12.out r (HE12.out)).mono ?_; rintro e w5 ⟨rfl, hb5⟩; have s13 := keep6 hb5 s12; have HB13 := Lib.hid (blw HB12.out hb5); clear hb5)
      | (go_at_call 53; refine (CB.out _ HB11.out _ _ rfl _ _ I11.out).mono ?_; rintro e w5 ⟨q, A12, c12, hq, rfl, ho, hb5⟩; have s12 := keep6 hb5 s11; have HB12 := Lib.hid (blw HB11.out hb5); have I12 := Lib.hid ho.ints'.2; have I4 := Lib.hid (I4.out.below hb5); have HE12 := Lib.hid (eq_dec (r := r) (dead_iff HSn.out hq) HR.out); clear hb5 ho hq)
      | (go_at_call 41; refine (CS.out _ (by first | exact HB4.out | exact bd HB4.out | exact ba1d (b := 0) HB4.out | exact ba1 (b := 0) HB4.out) 3 _ _ (by first | exact ia1 (by simp) | exact id_ (ia1 (by simp)) | exact (ia1 (by simp)).below K4.out | exact (ia2 (by simp)).below K4.out | exact (id_ (ia1 (by simp))).below K4.out | exact (id_ (ia2 (by simp))).below K4.out)).mono ?_; rintro e w5 ⟨A11, c11, rfl, ho, hb5⟩; have s11 := keep6 hb5 (by first | exact s4 | exact keep6 (ba1d (b := 0) (Below.refl _ _)) s4 | exact keep6 (al _ _) s4); have HB11 := Lib.hid (blw (by first | exact HB4.out | exact bd HB4.out | exact ba1d (b := 0) HB4.out | exact ba1 (b := 0) HB4.out) hb5); have I11 := Lib.hid ho.ints'.2; have I4 := Lib.hid (show Ints w5 _ _ _ by first | exact I4.out.below hb5 | exact (I4.out.below (al _ _)).below hb5 | exact (id_ (I4.out.below (al _ _))).below hb5); clear hb5 ho)
      | (go_at_call 41; refine (CS.out _ (by first | exact HB0.out | exact ba1d (b := 0) HB0.out | exact ba2d (b := 0) HB0.out | exact ba1 (b := 0) HB0.out | exact ba2 (b := 0) HB0.out) 4 _ _ (by first | exact ia1 (by simp) | exact id_ (ia1 (by simp)) | exact ia2 (by simp) | exact id_ (ia2 (by simp)))).mono ?_; rintro e w5 ⟨A4, c4, rfl, ho, hb5⟩; have s4 := keep6 hb5 (by first | exact keep6 (ba1d (b := 0) (Below.refl _ _)) s0 | exact keep6 (ba2d (b := 0) (Below.refl _ _)) s0 | exact keep6 (ba1 (b := 0) (Below.refl _ _)) s0 | exact keep6 (ba2 (b := 0) (Below.refl _ _)) s0); have HB4 := Lib.hid (blw (by first | exact HB0.out | exact ba1d (b := 0) HB0.out | exact ba2d (b := 0) HB0.out | exact ba1 (b := 0) HB0.out | exact ba2 (b := 0) HB0.out) hb5); have I4 := Lib.hid ho.ints'.2; have K4 := Lib.hid hb5; clear hb5 ho))
  all_goals (go_wp2; go_ret; exact ⟨rfl, HB13.out⟩)

set_option maxHeartbeats 1600000 in
theorem open_any (S F : List Int) (w : World) (SA FA : Option Addr) (n sc m fc : Nat) (hL : Lif w SA n sc FA m fc S F) (hn : n ≤ 50000000) :
    Calls Tryd.prog 44 #[.agg #[.slice SA n sc, .slice FA m fc]] w (Dag.RetC w (num (standL S [0, 1]))) := by
  have CS := Lib.hid (fun W (hW : Below w.heap.size w W) B d (hB : Ints W B d [0, 1]) => standing_any S [0, 1] n 2 hL.n rfl hn W SA FA B sc m fc d (hL.s.below hW) hB)
  clear hL
  go_enter Tryd.func44, Tryd.ntmps44
  go_wp2_with fail
  refine (CS.out _ (by first | exact ba1 (b := 0) (Below.refl _ _) | exact ba2 (b := 0) (Below.refl _ _)) _ _ (by exact ia12 (by simp))).mono ?_
  rintro e w2 ⟨A2, c2, rfl, ho, hb⟩
  have HB := Lib.hid (show Below w.heap.size w w2 from blw (by first | exact ba1 (b := 0) (Below.refl _ _) | exact ba2 (b := 0) (Below.refl _ _)) hb)
  have HO := Lib.hid (ho.rebase (base' := w.heap.size) (by simp; try omega))
  clear hb ho
  go_wp2
  go_ret
  exact ⟨A2, c2, rfl, HO.out, HB.out⟩

set_option maxHeartbeats 1600000 in
theorem isWhole_any (S F : List Int) (w : World) (SA FA : Option Addr) (n sc m fc : Nat) (hL : Lif w SA n sc FA m fc S F) (hn : n ≤ 50000000) (r : Bool) (hr : r = true ↔ (standL S [5] = [] ∨ standL S [0, 1] = [])) :
    Calls Tryd.prog 49 #[.agg #[.slice SA n sc, .slice FA m fc]] w fun e w' => e = .returned (.bool r) ∧ Below w.heap.size w w' := by
  have CS := Lib.hid (fun W (hW : Below w.heap.size w W) B d (hB : Ints W B d [5]) => standing_any S [5] n 1 hL.n rfl hn W SA FA B sc m fc d (hL.s.below hW) hB)
  have CO := Lib.hid (fun W (hW : Below w.heap.size w W) => open_any S F W SA FA n sc m fc (hL.below hW) hn)
  obtain ⟨l5, h5⟩ : ∃ l, standL S [5] = l := ⟨_, rfl⟩
  obtain ⟨l1, h1⟩ : ∃ l, standL S [0, 1] = l := ⟨_, rfl⟩
  rw [h5] at CS hr
  rw [h1] at CO hr
  clear hL h5 h1
  go_enter Tryd.func49, Tryd.ntmps49
  go_wp2_with fail
  refine (CS.out _ (ba2 (b := 0) (Below.refl _ _)) _ _ (ia1 (by simp))).mono ?_
  rintro e w2 ⟨A2, c2, rfl, ho, hb⟩
  have x0 := keep_cell hb (show ((w.alloc (lifO SA n sc FA m fc)).alloc (.cells #[.int .i64 5] 3)).cell? ⟨w.heap.size, 0, none⟩ = some (.slice SA n sc) from by unfold lifO; simp)
  have x1 := keep_cell hb (show ((w.alloc (lifO SA n sc FA m fc)).alloc (.cells #[.int .i64 5] 3)).cell? ⟨w.heap.size, 1, none⟩ = some (.slice FA m fc) from by unfold lifO; simp)
  have HB := Lib.hid (show Below w.heap.size w w2 from blw (ba2 (b := 0) (Below.refl _ _)) hb)
  clear hb ho
  rw [Dag.num_len]
  by_cases e5 : l5 = []
  · subst e5
    have HR := Lib.hid (show r = true from hr.2 (Or.inl rfl))
    clear hr
    go_wp2
    go_ret
    exact ⟨by rw [HR.out]; rfl, HB.out⟩
  · obtain ⟨q, hq⟩ : ∃ q, l5.length = q := ⟨_, rfl⟩
    have hq0 : ((q : Int) == 0) = false := by
      rw [beq_eq_false_iff_ne]
      have := List.length_pos_iff.2 e5
      omega
    have HR := Lib.hid (show r = decide (l1 = []) from by
      rw [Bool.eq_iff_iff, hr, decide_eq_true_eq]
      exact ⟨fun h => h.resolve_left e5, Or.inr⟩)
    rw [hq]
    clear hr e5 hq
    go_wp2_with fail
    refine (CO.out _ HB.out).mono ?_
    rintro e w3 ⟨A3, c3, rfl, ho, hb⟩
    have HB3 := Lib.hid (blw HB.out hb)
    clear hb ho
    rw [Dag.num_len]
    by_cases e1 : l1 = []
    · subst e1
      go_wp2
      go_ret
      exact ⟨by rw [HR.out]; rfl, HB3.out⟩
    · obtain ⟨q1, hq1⟩ : ∃ q, l1.length = q := ⟨_, rfl⟩
      have hq1 : ((q1 : Int) == 0) = false := by
        rw [beq_eq_false_iff_ne]
        have := List.length_pos_iff.2 e1
        omega
      have HD := Lib.hid (decide_eq_false e1)
      rw [show l1.length = q1 from by assumption]
      clear e1
      go_wp2
      go_ret
      exact ⟨by rw [HR.out, HD.out]; rfl, HB3.out⟩

end Go.Proofs.YtgejonmjmieglaaDoor.Lf

