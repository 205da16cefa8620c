/- Of the document's layer 5: Check: why they cannot be done.
   Of the document's: Check. -/
import Derived.Test.YtgejonmjmieglaaDoorMDge
import Derived.Test.YtgejonmjmieglaaDoorMDag
import Derived.Test.YtgejonmjmieglaaDoorMTab
import Derived.Test.YtgejonmjmieglaaDoorMFlw
import Derived.Test.YtgejonmjmieglaaDoorMRef
import Derived.StillTailTactics
namespace Go.Proofs.YtgejonmjmieglaaDoor.Dag
open Go.RowKit
set_option linter.unusedVariables false
set_option maxRecDepth 100000

theorem nodup_inj {l : List Nat} (h : l.Nodup) {a b x : Nat} (ha : l[a]? = some x) (hb : l[b]? = some x) : a = b := by
  have hp := List.pairwise_iff_getElem.1 h
  obtain ⟨h1, e1⟩ := List.getElem?_eq_some_iff.1 ha
  obtain ⟨h2, e2⟩ := List.getElem?_eq_some_iff.1 hb
  rcases Nat.lt_trichotomy a b with c | c | c
  · exact absurd (e1.trans e2.symm) (hp a b h1 h2 c)
  · exact c
  · exact absurd (e2.trans e1.symm) (hp b a h2 h1 c)
def pos (o : List Nat) (u : Nat) : Nat := o.findIdx fun x => decide (x = u)
theorem pos_get {o : List Nat} (hn : o.Nodup) {i u : Nat} (h : o[i]? = some u) : pos o u = i := by
  obtain ⟨h1, h2⟩ := List.getElem?_eq_some_iff.1 h
  unfold pos
  rw [List.findIdx_eq h1]
  refine ⟨by simpa using h2, fun j hj => ?_⟩
  rw [decide_eq_false_iff_not]
  intro e
  have hj' : o[j]? = some u := List.getElem?_eq_some_iff.2 ⟨by omega, e⟩
  have := nodup_inj hn hj' h
  omega
theorem pos_has {o : List Nat} (hn : o.Nodup) {u : Nat} (h : u ∈ o) : o[pos o u]? = some u := by
  obtain ⟨i, hi⟩ := List.getElem?_of_mem h
  rw [pos_get hn hi]; exact hi
theorem ord_all {E : List (List Int)} (h : (order E).length = E.length) {u : Nat} (hu : u < E.length) : u ∈ order E := by
  rcases Classical.em (u ∈ order E) with a | a
  · exact a
  · have h1 : (u :: order E).length ≤ E.length := nodup_len (List.nodup_cons.2 ⟨a, (order_ord E).nodup⟩) (by
      intro x hx
      rcases List.mem_cons.1 hx with rfl | hx
      · exact hu
      · exact (order_ord E).lt x hx)
    simp at h1; omega
theorem pos_arc {E : List (List Int)} (h : (order E).length = E.length) (hE : Valid E) {v u : Nat} (ha : arc E v u = true) : pos (order E) u < pos (order E) v := by
  have hv := arc_lt ha
  have hu := hE.arc ha
  have ho := order_ord E
  have h1 := pos_has ho.nodup (ord_all h hv)
  have h2 := ho.behind _ v h1 u (bef_mem.2 ⟨hu, ha⟩)
  obtain ⟨i, hi⟩ := List.getElem?_of_mem h2
  have hik : i < pos (order E) v := by have := (List.getElem?_eq_some_iff.1 hi).1; rw [List.length_take] at this; omega
  rw [List.getElem?_take, if_pos hik] at hi
  rw [pos_get ho.nodup hi]
  exact hik
theorem pos_plus {E : List (List Int)} (h : (order E).length = E.length) (hE : Valid E) {v u : Nat} (hp : Plus (arc E) v u) : pos (order E) u < pos (order E) v :=
  hp.ind (M := fun u => pos (order E) u < pos (order E) v) (fun u ha => pos_arc h hE ha) fun x u _ ih ha => Nat.lt_trans (pos_arc h hE ha) ih

/-- one comes back to itself just if not all of them come -/
theorem cyc_iff {E : List (List Int)} (hE : Valid E) : (order E).length < E.length ↔ ∃ v, v < E.length ∧ Plus (arc E) v v := by
  constructor
  · intro hlt
    rcases Classical.em (∃ v, v < E.length ∧ Plus (arc E) v v) with h | h
    · exact h
    · exfalso
      have hno : ∀ v, v < E.length → ¬ Plus (arc E) v v := fun v hv hp => h ⟨v, hv, hp⟩
      have key := order_full (E := E) (fun v => ((List.range E.length).filter fun x => @decide (Plus (arc E) v x) (Classical.propDecidable _)).length) (fun v u ha hu => by
        have mem : ∀ y x, x ∈ ((List.range E.length).filter fun x => @decide (Plus (arc E) y x) (Classical.propDecidable _)) ↔ x < E.length ∧ Plus (arc E) y x := by
          intro y x
          rw [List.mem_filter, List.mem_range]
          exact and_congr_right fun _ => ⟨fun h => @of_decide_eq_true _ (Classical.propDecidable _) h, fun h => @decide_eq_true _ (Classical.propDecidable _) h⟩
        have hs : (u :: ((List.range E.length).filter fun x => @decide (Plus (arc E) u x) (Classical.propDecidable _))).length ≤ ((List.range E.length).filter fun x => @decide (Plus (arc E) v x) (Classical.propDecidable _)).length := by
          refine sub_len (List.nodup_cons.2 ⟨fun hm => hno u hu ((mem u u).1 hm).2, filter_range_nodup _ _⟩) fun x hx => ?_
          rcases List.mem_cons.1 hx with rfl | hx
          · exact (mem v x).2 ⟨hu, .one ha⟩
          · have := (mem u x).1 hx
            exact (mem v x).2 ⟨this.1, Plus.head ha this.2⟩
        simp only [List.length_cons] at hs
        exact hs)
      omega
  · rintro ⟨v, hv, hp⟩
    rcases Nat.lt_or_ge (order E).length E.length with h | h
    · exact h
    · have hle := (order_ord E).len
      have := pos_plus (by omega) hE hp
      omega

set_option maxHeartbeats 3200000 in
theorem rcheck5_any (E : List (List Int)) (n : Nat) (hnE : E.length = n) (w : World) (A : Option Addr) (c : Nat) (h : IRows w A c E) (hn : n ≤ 300) :
    Calls Tryd.prog 66 #[.slice A n c] w fun e w' => e = .returned (.int .i64 (newE E)) ∧ Below w.heap.size w w' := by
  subst hnE
  have H := Lib.hid h; clear h
  go_enter Tryd.func66, Tryd.ntmps66
  go_wp2
  go_loop [3] (fun i => ∃ k : Nat, k ≤ E.length ∧ i = .int .i64 k ∧ Hid ((E.take k).all (okRow E.length) = true)) (fun i => E.length - (intOf i).toNat)
  case atStart => exact ⟨0, Nat.zero_le _, rfl, Lib.hid (by simp)⟩
  case round =>
    obtain ⟨k, hk, rfl, HT⟩ := hrel
    by_cases hlt : k < E.length
    · obtain ⟨b, off, A', c', xs, rfl, hx, hc, hi⟩ := H.out.at_ hlt
      have HX := Lib.hid hx
      have HI := Lib.hid hi
      have hxl : xs.length ≤ 9223372036854775807 := Nat.le_trans hi.len (by have := Sl.top hi; simpa [maxLen] using this)
      clear hx hi
      go_wp2
      go_loop [4] (fun i => ∃ j : Nat, j ≤ xs.length ∧ i = .int .i64 j ∧ Hid (okRow E.length (xs.take j) = true)) (fun i => xs.length - (intOf i).toNat)
      case atStart => exact ⟨0, Nat.zero_le _, rfl, Lib.hid (by simp [okRow])⟩
      case round =>
        obtain ⟨j, hj, rfl, HT2⟩ := hrel
        by_cases hjl : j < xs.length
        · obtain ⟨b2, off2, x, rfl, hy, hcy⟩ := HI.out.at_ hjl
          have HY := Lib.hid hy; clear hy
          by_cases h0 : x < 0
          · have HF : Hid (newE E = 2) := Lib.hid (by
              refine newE_arg ?_
              rw [Bool.eq_false_iff]; intro hok
              have := (okAll_iff.1 hok) xs (List.mem_of_getElem? HX.out) x (List.mem_of_getElem? HY.out)
              omega)
            go_wp2
            go_ret
            rw [HF.out]
            exact ⟨rfl, Below.refl _ _⟩
          · by_cases h1 : (E.length : Int) ≤ x
            · have HF : Hid (newE E = 2) := Lib.hid (by
                refine newE_arg ?_
                rw [Bool.eq_false_iff]; intro hok
                have := (okAll_iff.1 hok) xs (List.mem_of_getElem? HX.out) x (List.mem_of_getElem? HY.out)
                omega)
              go_wp2
              go_ret
              rw [HF.out]
              exact ⟨rfl, Below.refl _ _⟩
            · go_wp2
              go_round
              case rel =>
                refine ⟨j + 1, by omega, by go_num, Lib.hid ?_⟩
                have := HT2.out
                rw [take_succ_some HY.out]
                unfold okRow at this ⊢
                rw [List.all_append, this]
                simp; omega
              case measure => simp [intOf]; omega
        · obtain rfl : j = xs.length := by omega
          go_wp2
          go_round
          case rel =>
            refine ⟨k + 1, by omega, by go_num, Lib.hid ?_⟩
            have h2 := HT2.out
            rw [List.take_length] at h2
            rw [take_succ_some HX.out, List.all_append, HT.out]
            simp [h2]
          case measure => simp [intOf]; omega
    · obtain rfl : k = E.length := by omega
      have hok : okAll E = true := by have := HT.out; rwa [List.take_length] at this
      have HOK := Lib.hid hok
      have HE := Lib.hid (okAll_iff.1 hok)
      clear hok
      go_wp2_with fail
      refine (rreach_any E _ _ _ H.out hn HE.out).mono ?_
      rintro e w1 ⟨R, Ar, cr, vr, rfl, htr, hR, hb1⟩
      have HTR := Lib.hid htr; have HR := Lib.hid hR; have HB1 := Lib.hid hb1
      clear htr hR hb1
      go_wp2_with fail
      go_loop [6] (fun i => ∃ v : Nat, v ≤ E.length ∧ i = .int .i64 v ∧ Hid (∀ x, x < v → ¬ Plus (arc E) x x)) (fun i => E.length - (intOf i).toNat)
      case atStart => exact ⟨0, Nat.zero_le _, rfl, Lib.hid fun x hx => by omega⟩
      case round =>
        obtain ⟨v, hv, rfl, HV⟩ := hrel
        by_cases hvl : v < E.length
        · obtain ⟨gr, Ax, cx2, eA, _, _, hvx, cvx, _, hox⟩ := HTR.out.row (rowsB_get R hvl)
          subst eA
          rw [rowB_len] at cvx hvx hox
          obtain ⟨gu, eAu, _, _, cru, _⟩ := Own1.at_ hox (rowB_get _ hvl)
          subst eAu
          have HRV := Lib.hid (HR.out v v hvl hvl)
          clear hvx hox
          cases hr : R v v with
          | true =>
            rw [hr] at cru
            have HF : Hid (newE E = 40) := Lib.hid (newE_cyc HOK.out ((cyc_iff HE.out).2 ⟨v, hvl, HRV.out.1 hr⟩))
            clear hr
            go_wp2
            go_ret
            rw [HF.out]
            exact ⟨rfl, HB1.out⟩
          | false =>
            rw [hr] at cru
            have HN : Hid (∀ x, x < v + 1 → ¬ Plus (arc E) x x) := Lib.hid fun x hx => by
              rcases Nat.lt_or_ge x v with hxv | hxv
              · exact HV.out x hxv
              · obtain rfl : x = v := by omega
                intro hp
                have := HRV.out.2 hp
                rw [hr] at this; cases this
            clear hr
            go_wp2
            go_round
            case rel => exact ⟨v + 1, by omega, by go_num, HN⟩
            case measure => simp [intOf]; omega
        · obtain rfl : v = E.length := by omega
          have HF : Hid (newE E = 0) := Lib.hid (newE_ok HOK.out fun hlt => by
            obtain ⟨x, hx, hp⟩ := (cyc_iff HE.out).1 hlt
            exact HV.out x hx hp)
          go_wp2
          go_ret
          rw [HF.out]
          exact ⟨rfl, HB1.out⟩

end Go.Proofs.YtgejonmjmieglaaDoor.Dag

/- Of the document's: numbers, is, Name and Same of a list of bytes. -/
namespace Go.Proofs.YtgejonmjmieglaaDoor
open Go.RowKit
open Txt (nameD sameS)
open Clk (isT)
set_option linter.unusedVariables false
set_option maxRecDepth 100000

theorem rnm_any (s : List UInt8) (w : World) (hs : s.length ≤ 1100000) (hT : Txt.Tabs w) :
    Calls Tryd.prog 61 #[.string (sb s)] w fun e w' => e = .returned (.bool (nameD s)) ∧ Below w.heap.size w w' := by
  have h := Txt.rname_any (sb s) w (sb_sz hs) hT
  rw [show Txt.lst (sb s) = s from sb_list s] at h
  exact h
theorem rsm_any (a b : List UInt8) (w : World) (ha : a.length ≤ 9000000000000000000) (hb : b.length ≤ 9000000000000000000) :
    Calls Tryd.prog 84 #[.string (sb a), .string (sb b)] w fun e w' => e = .returned (.bool (sameS a b)) ∧ Below w.heap.size w w' := by
  have h := Txt.rsame_any (sb a) (sb b) w (sb_sz ha) (sb_sz hb)
  rw [show Txt.lst (sb a) = a from sb_list a, show Txt.lst (sb b) = b from sb_list b] at h
  exact h
theorem ris6_any (a b : List UInt8) (w : World) (ha : a.length ≤ 9000000000000000000) (hb : b.length ≤ 9000000000000000000) :
    Calls Tryd.prog 62 #[.string (sb a), .string (sb b)] w fun e w' => e = .returned (.bool (sameS a b)) ∧ Below w.heap.size w w' := by
  go_enter Tryd.func62, Tryd.ntmps62
  go_wp2_with fail
  refine (rsm_any a b _ ha hb).mono ?_
  rintro e w1 ⟨rfl, hb1⟩
  go_wp2
  go_ret
  exact ⟨rfl, hb1⟩

theorem numsOK_iff (t : TaskD) : numsOK t = (decide (1 ≤ t.nodes) && (decide (t.nodes ≤ 10000) && (decide (1 ≤ t.wall) && (isT t.wall && (decide (0 ≤ t.retry) && decide (t.retry ≤ 20)))))) := by
  unfold numsOK inR isT maxT
  by_cases h1 : 1 ≤ t.nodes <;> by_cases h2 : t.nodes ≤ 10000 <;> by_cases h3 : 1 ≤ t.wall <;> simp [h1, h2, h3]
  rw [decide_eq_true (show 0 ≤ t.wall by omega)]; rfl
set_option maxHeartbeats 1600000 in
theorem rnums_any (t : TaskD) (A : Option Addr) (c : Nat) (w : World) :
    Calls Tryd.prog 64 #[.agg #[.string (sb t.name), .int .i64 t.nodes, .int .i64 t.wall, .int .i64 t.retry, .bool t.done, .slice A t.after.length c]] w fun e w' => e = .returned (.bool (numsOK t)) ∧ Below w.heap.size w w' := by
  obtain ⟨r, hr⟩ : ∃ r, r = numsOK t := ⟨_, rfl⟩
  rw [← hr]
  rw [numsOK_iff] at hr
  have HR := Lib.hid hr
  clear hr
  by_cases h1 : 1 ≤ t.nodes
  case neg =>
    have HF := Lib.hid (show r = false from by rw [HR.out]; simp [h1])
    go_enter Tryd.func64, Tryd.ntmps64
    go_wp2
    go_ret
    exact ⟨by rw [HF.out]; rfl, al _ _⟩
  by_cases h2 : t.nodes ≤ 10000
  case neg =>
    have HF := Lib.hid (show r = false from by rw [HR.out]; simp [h2])
    go_enter Tryd.func64, Tryd.ntmps64
    go_wp2
    go_ret
    exact ⟨by rw [HF.out]; rfl, al _ _⟩
  by_cases h3 : 1 ≤ t.wall
  case neg =>
    have HF := Lib.hid (show r = false from by rw [HR.out]; simp [h3])
    go_enter Tryd.func64, Tryd.ntmps64
    go_wp2
    go_ret
    exact ⟨by rw [HF.out]; rfl, al _ _⟩
  cases h4 : isT t.wall
  case false =>
    have HF := Lib.hid (show r = false from by rw [HR.out]; simp [h4])
    have H4 := Lib.hid h4
    clear h4
    go_enter Tryd.func64, Tryd.ntmps64
    go_wp2_with fail
    refine (Clk.ris_any _ _).mono ?_
    rw [H4.out]
    rintro e w1 ⟨rfl, rfl⟩
    go_wp2
    go_ret
    exact ⟨by rw [HF.out]; rfl, al _ _⟩
  case true =>
    have H4 := Lib.hid h4
    by_cases h5 : 0 ≤ t.retry
    case neg =>
      have HF := Lib.hid (show r = false from by rw [HR.out]; simp [h5])
      clear h4
      go_enter Tryd.func64, Tryd.ntmps64
      go_wp2_with fail
      refine (Clk.ris_any _ _).mono ?_
      rw [H4.out]
      rintro e w1 ⟨rfl, rfl⟩
      go_wp2
      go_ret
      exact ⟨by rw [HF.out]; rfl, al _ _⟩
    have HF := Lib.hid (show r = decide (t.retry ≤ 20) from by rw [HR.out]; simp [h1, h2, h3, h4, h5])
    clear h4
    go_enter Tryd.func64, Tryd.ntmps64
    go_wp2_with fail
    refine (Clk.ris_any _ _).mono ?_
    rw [H4.out]
    rintro e w1 ⟨rfl, rfl⟩
    go_wp2
    go_ret
    exact ⟨by rw [HF.out]; rfl, al _ _⟩

end Go.Proofs.YtgejonmjmieglaaDoor
namespace Go.Proofs.YtgejonmjmieglaaDoor
open Go.RowKit
open Dag (Ints IRows Own1 Sl newE)
open Txt (nameD sameS)
open Clk (isT)
set_option linter.unusedVariables false
set_option maxRecDepth 100000

theorem fcells {W w1 : World} {b : Nat} {f : FlowD} {A : Option Addr} {c : Nat} (hb : Below W.heap.size W w1) (h : W.heap[b]? = some (flowO f A c)) :
    w1.cell? ⟨b, 0, none⟩ = some (.string (sb f.name)) ∧ w1.cell? ⟨b, 1, none⟩ = some (.int .i64 f.deadline) ∧ w1.cell? ⟨b, 2, none⟩ = some (.int .i64 f.priority) ∧ w1.cell? ⟨b, 3, none⟩ = some (.slice A f.tasks.length c) ∧ b < w1.heap.size := flowO_cells (keep_obj hb h)
/-- the one ahead of place k -/
def lastI (l : List Int) : Nat → Int
  | 0 => -1
  | k + 1 => l.getD k 0
theorem lastI_succ {l : List Int} {k : Nat} {x : Int} (h : l[k]? = some x) : lastI l (k + 1) = x := by
  show l.getD k 0 = x
  rw [List.getD_eq_getElem?_getD, h]; rfl
theorem rise_bad {n : Nat} {l : List Int} {j : Nat} {x : Int} (h : l[j]? = some x) (hi : linkOK n l = riseL n (lastI l j) (l.drop j)) (hbad : x ≤ lastI l j ∨ (n : Int) ≤ x) : linkOK n l = false := by
  rw [hi, rise_at h]
  rcases hbad with hb | hb
  · rw [decide_eq_false (by omega)]; rfl
  · rw [decide_eq_false (show ¬ x < (n : Int) by omega)]; simp
theorem rise_good {n : Nat} {l : List Int} {j : Nat} {x : Int} (h : l[j]? = some x) (hi : linkOK n l = riseL n (lastI l j) (l.drop j)) (h1 : lastI l j < x) (h2 : x < (n : Int)) : linkOK n l = riseL n (lastI l (j + 1)) (l.drop (j + 1)) := by
  rw [hi, rise_at h, lastI_succ h, decide_eq_true h1, decide_eq_true h2]; rfl
theorem find_dup {ts : List TaskD} {k : Nat} {t : TaskD} (h : ts[k]? = some t) (hm : t.name ∈ names (ts.take k)) : findI ts t.name ≠ (k : Int) ∧ twins ts = true := by
  obtain ⟨hk, he⟩ := List.getElem?_eq_some_iff.1 h
  have hs : ts = ts.take k ++ t :: ts.drop (k + 1) := by rw [← he, ← List.drop_eq_getElem_cons hk, List.take_append_drop]
  have hn : names ts = names (ts.take k) ++ t.name :: names (ts.drop (k + 1)) := by
    conv => lhs; rw [hs]
    simp [names]
  constructor
  · unfold findI
    rw [if_pos (by rw [hn]; simp), hn, List.idxOf_append, if_pos hm]
    have := List.idxOf_lt_length_of_mem hm
    simp only [names, List.length_map, List.length_take] at this
    simp only [names] at this ⊢
    omega
  · unfold twins
    simp only [Bool.not_eq_true', decide_eq_false_iff_not]
    rw [hn]
    intro hd
    exact (List.nodup_append.1 hd).2.2 _ hm _ (List.mem_cons_self) rfl
theorem nodup_names {ts : List TaskD} {k : Nat} {t : TaskD} (h : ts[k]? = some t) (hm : t.name ∉ names (ts.take k)) (hd : (names (ts.take k)).Nodup) : (names (ts.take (k + 1))).Nodup := by
  rw [names_take h, List.nodup_append]
  exact ⟨hd, by simp, fun a ha b hb e => by simp at hb; subst hb; subst e; exact hm ha⟩

set_option maxHeartbeats 6400000 in
theorem rcheckN_any (f : FlowD) (A : Option Addr) (c : Nat) (w : World) (h : Tasks w A c f.tasks) (hT : Txt.Tabs w) (hl : f.name.length ≤ 1100000) (hn : ∀ t ∈ f.tasks, t.name.length ≤ 1100000) (hlen : f.tasks.length ≤ 300) :
    Calls Tryd.prog 39 #[.agg #[.string (sb f.name), .int .i64 f.deadline, .int .i64 f.priority, .slice A f.tasks.length c]] w fun e w' => e = .returned (.int .i64 (checkE f)) ∧ Below w.heap.size w w' := by
  have H := Lib.hid h; have HT := Lib.hid hT; have HN := Lib.hid hn
  clear h hT hn
  go_enter Tryd.func39, Tryd.ntmps39
  go_wp2_with fail
  refine (rnm_any f.name _ hl (HT.out.below (al _ _))).mono ?_
  rintro e w1 ⟨rfl, hb1⟩
  have HB1 := Lib.hid (blw (al w (flowO f A c)) hb1)
  have HO1 : Hid (w1.heap[w.heap.size]? = some (flowO f A c)) := Lib.hid ((hb1.block _ (by simp)).trans (heap_alloc_new w _))
  have H1 := Lib.hid (H.out.below HB1.out); have HT1 := Lib.hid (HT.out.below HB1.out)
  clear hb1
  cases hnm : nameD f.name
  · have HE := Lib.hid (show checkE f = 5 from by unfold checkE namesOK; simp [hnm])
    go_wp2
    go_ret
    exact ⟨by rw [HE.out]; rfl, HB1.out⟩
  have HNM := Lib.hid hnm
  clear hnm
  obtain ⟨p0, p1, p2, p3, hp⟩ := flowO_cells HO1.out
  go_wp2_with fail
  go_loopw [3] (fun i wr => ∃ k : Nat, k ≤ f.tasks.length ∧ i = .int .i64 k ∧ Hid (Below w1.heap.size w1 wr) ∧ Hid ((f.tasks.take k).all (fun t => taskName t.name) = true)) (fun i _ => f.tasks.length - (intOf i).toNat)
  case atStart => exact ⟨0, Nat.zero_le _, rfl, Lib.hid (Below.refl _ _), Lib.hid rfl⟩
  case round =>
    obtain ⟨k, hk, rfl, HB, HI⟩ := hrel
    clear p0 p1 p2 p3 hp
    obtain ⟨p0, p1, p2, p3, hp⟩ := fcells HB.out HO1.out
    by_cases hlt : k < f.tasks.length
    · obtain ⟨t, ht⟩ : ∃ t, f.tasks[k]? = some t := ⟨_, List.getElem?_eq_getElem hlt⟩
      obtain ⟨b, off, A', c', rfl, h0, _⟩ := (H1.out.below HB.out).cells k _ ht
      have htl := HN.out t (List.mem_of_getElem? ht)
      have HTK := Lib.hid ht
      clear ht
      go_wp2_with fail
      refine (rnm_any t.name _ htl (HT1.out.below HB.out)).mono ?_
      rintro e w2 ⟨rfl, hb2⟩
      have HB2 := Lib.hid (blw HB.out hb2)
      have g0 := keep_cell hb2 h0
      clear hb2 h0 p0 p1 p2 p3
      obtain ⟨p0, p1, p2, p3, hp⟩ := fcells HB2.out HO1.out
      cases hx : nameD t.name
      · have HE := Lib.hid (show checkE f = 5 from by
          unfold checkE namesOK
          rw [all_no (p := fun (t : TaskD) => taskName t.name) HTK.out (by unfold taskName; rw [hx]; rfl)]; simp)
        go_wp2
        go_ret
        exact ⟨by rw [HE.out]; rfl, blw HB1.out HB2.out⟩
      · have HX := Lib.hid hx
        clear hx
        go_wp2_with fail
        refine (ris6_any t.name childW _ (Nat.le_trans htl (by decide)) (by decide)).mono ?_
        rintro e w3 ⟨rfl, hb3⟩
        have HB3 := Lib.hid (blw HB2.out hb3)
        clear hb3 g0 p0 p1 p2 p3
        obtain ⟨p0, p1, p2, p3, hp⟩ := fcells HB3.out HO1.out
        cases hy : sameS t.name childW
        · have HN2 := Lib.hid (all_snoc (p := fun (t : TaskD) => taskName t.name) HTK.out (by unfold taskName; rw [HX.out, hy]; rfl) HI.out)
          clear hy
          go_wp2
          go_roundw
          case rel => exact ⟨k + 1, by omega, by go_num, HB3, HN2⟩
          case measure => simp [intOf]; omega
        · have HE := Lib.hid (show checkE f = 5 from by
            unfold checkE namesOK
            rw [all_no (p := fun (t : TaskD) => taskName t.name) HTK.out (by unfold taskName; rw [HX.out, hy]; rfl)]; simp)
          clear hy
          go_wp2
          go_ret
          exact ⟨by rw [HE.out]; rfl, blw HB1.out HB3.out⟩
    have hnames : namesOK f = true := by unfold namesOK; rw [all_done (p := fun (t : TaskD) => taskName t.name) hlt HI.out, HNM.out]; rfl
    obtain rfl : k = f.tasks.length := by omega
    have HC2 : Hid (numbersOK f = false → checkE f = 2) := Lib.hid fun e => by unfold checkE; simp [hnames, e]
    have HC3 : Hid (numbersOK f = true → twins f.tasks = true → checkE f = 51) := Lib.hid fun e e2 => by unfold checkE; simp [hnames, e, e2]
    have HC4 : Hid (numbersOK f = true → twins f.tasks = false → linksOK f.tasks = false → checkE f = 2) := Lib.hid fun e e2 e3 => by unfold checkE; simp [hnames, e, e2, e3, show ¬ 4096 < f.tasks.length by omega]
    have HC5 : Hid (numbersOK f = true → twins f.tasks = false → linksOK f.tasks = true → checkE f = newE (afterL f.tasks)) := Lib.hid fun e e2 e3 => by unfold checkE; simp [hnames, e, e2, e3, show ¬ 4096 < f.tasks.length by omega]
    have HBN := Lib.hid (blw HB1.out HB.out)
    have H2 := Lib.hid (H1.out.below HB.out)
    have HO2 := Lib.hid (keep_obj HB.out HO1.out)
    clear hnames HI HNM H1 HT1 HB1 HO1 HB H HT
    go_wp2_with fail
    refine (Clk.ris_any _ _).mono ?_
    rintro e w3 ⟨rfl, rfl⟩
    by_cases hnum : isT f.deadline = true ∧ 0 ≤ f.priority ∧ f.priority ≤ 1000
    case neg =>
      have HE := Lib.hid (HC2.out (by
        unfold numbersOK
        have : (inR 0 maxT f.deadline && inR 0 1000 f.priority) = false := by
          rw [Bool.eq_false_iff]
          intro e
          simp only [inR, Bool.and_eq_true, decide_eq_true_eq] at e
          exact hnum ⟨by unfold isT; simp [e.1.1]; exact e.1.2, e.2⟩
        rw [this]; simp))
      cases hd : isT f.deadline
      · go_wp2
        go_ret
        exact ⟨by rw [HE.out]; rfl, HBN.out⟩
      · by_cases hq1 : 0 ≤ f.priority
        · have hq2 : 1000 < f.priority := by
            by_cases hh : f.priority ≤ 1000
            · exact absurd ⟨hd, hq1, hh⟩ hnum
            · omega
          clear hnum
          go_wp2
          go_ret
          exact ⟨by rw [HE.out]; rfl, HBN.out⟩
        · clear hnum
          go_wp2
          go_ret
          exact ⟨by rw [HE.out]; rfl, HBN.out⟩
    obtain ⟨hd, hq1, hq2⟩ := hnum
    have HNUM : Hid ((inR 0 maxT f.deadline && inR 0 1000 f.priority) = true) := Lib.hid (by
      unfold isT at hd
      simp only [Bool.and_eq_true, decide_eq_true_eq] at hd
      simp [inR, maxT, hd, hq1, hq2])
    rw [hd]
    clear hd
    generalize wr = w4 at *
    go_wp2_with fail
    go_loopw [4] (fun i wr => ∃ k : Nat, k ≤ f.tasks.length ∧ i = .int .i64 k ∧ Hid (Below w4.heap.size w4 wr) ∧ Hid ((f.tasks.take k).all numsOK = true)) (fun i _ => f.tasks.length - (intOf i).toNat)
    case atStart => exact ⟨0, Nat.zero_le _, rfl, Lib.hid (Below.refl _ _), Lib.hid rfl⟩
    case round =>
      obtain ⟨k, hk, rfl, HB, HI⟩ := hrel
      clear p0 p1 p2 p3 hp
      obtain ⟨p0, p1, p2, p3, hp⟩ := fcells HB.out HO2.out
      by_cases hlt : k < f.tasks.length
      · obtain ⟨t, ht⟩ : ∃ t, f.tasks[k]? = some t := ⟨_, List.getElem?_eq_getElem hlt⟩
        obtain ⟨b, off, A', c', rfl, h0, h1, h2, h3, h4, h5, _⟩ := (H2.out.below HB.out).cells k _ ht
        have HTK := Lib.hid ht
        clear ht
        go_wp2_with fail
        refine (rnums_any t A' c' _).mono ?_
        rintro e w2 ⟨rfl, hb2⟩
        have HB2 := Lib.hid (blw HB.out hb2)
        clear hb2
        cases hx : numsOK t
        · have HE := Lib.hid (HC2.out (by unfold numbersOK; rw [all_no HTK.out hx]; rfl))
          go_wp2
          go_ret
          exact ⟨by rw [HE.out]; rfl, blw HBN.out HB2.out⟩
        · have HN2 := Lib.hid (all_snoc HTK.out hx HI.out)
          go_wp2
          go_roundw
          case rel => exact ⟨k + 1, by omega, by go_num, HB2, HN2⟩
          case measure => simp [intOf]; omega
      have HNO : Hid (numbersOK f = true) := Lib.hid (by unfold numbersOK; rw [all_done hlt HI.out, HNUM.out]; rfl)
      obtain rfl : k = f.tasks.length := by omega
      have HB5 := Lib.hid (blw HBN.out HB.out)
      have H5 := Lib.hid (H2.out.below HB.out)
      have HO5 := Lib.hid (keep_obj HB.out HO2.out)
      clear HI HNUM HBN H2 HO2 HB
      generalize wr = w5 at *
      go_wp2_with fail
      go_loopw [5] (fun i wr => ∃ k : Nat, k ≤ f.tasks.length ∧ i = .int .i64 k ∧ Hid (Below w5.heap.size w5 wr) ∧ Hid ((names (f.tasks.take k)).Nodup)) (fun i _ => f.tasks.length - (intOf i).toNat)
      case atStart => exact ⟨0, Nat.zero_le _, rfl, Lib.hid (Below.refl _ _), Lib.hid (by simp [names])⟩
      case round =>
        obtain ⟨k, hk, rfl, HB, HI⟩ := hrel
        clear p0 p1 p2 p3 hp
        obtain ⟨p0, p1, p2, p3, hp⟩ := fcells HB.out HO5.out
        by_cases hlt : k < f.tasks.length
        · obtain ⟨t, ht⟩ : ∃ t, f.tasks[k]? = some t := ⟨_, List.getElem?_eq_getElem hlt⟩
          obtain ⟨b, off, A', c', rfl, h0, _⟩ := (H5.out.below HB.out).cells k _ ht
          have HTK := Lib.hid ht
          clear ht
          have H5d := Lib.hid ((H5.out.below HB.out).below (bdrew wr 1))
          have HBD := Lib.hid (blw HB.out (bdrew wr 1))
          change Hid (Tasks wr.drew _ c f.tasks) at H5d
          change Hid (Below w5.heap.size w5 wr.drew) at HBD
          go_wp2_with fail
          go_region_held3 (fun (W : World) => W.cell? ⟨w.heap.size, 0, none⟩ = some (.string (sb f.name)) ∧ W.cell? ⟨w.heap.size, 1, none⟩ = some (.int .i64 f.deadline) ∧ W.cell? ⟨w.heap.size, 2, none⟩ = some (.int .i64 f.priority) ∧ W.cell? ⟨w.heap.size, 3, none⟩ = some (.slice (some ⟨b, off, none⟩) f.tasks.length c) ∧ W.cell? ⟨b, off + k * 6, none⟩ = some (.string (sb t.name))) (first | exact ⟨p0, p1, p2, p3, h0⟩ | exact ⟨d0, d1, d2, d3, dn⟩) (first | (go_at_call 65; refine (rfind_any f _ c _ H5d.out t.name).mono ?_; rintro e w2 ⟨rfl, hb2⟩; have d0 := keep_cell hb2 p0; have d1 := keep_cell hb2 p1; have d2 := keep_cell hb2 p2; have d3 := keep_cell hb2 p3; have dn := keep_cell hb2 h0; have HB2 := Lib.hid (blw HBD.out hb2)))
          clear d0 d1 d2 d3 dn
          by_cases hm : t.name ∈ names (f.tasks.take k)
          · obtain ⟨hx, hy⟩ := find_dup HTK.out hm
            have hne : (findI f.tasks t.name != (k : Int)) = true := by simpa using hx
            have HE := Lib.hid (HC3.out HNO.out hy)
            clear hx hy hm
            go_wp2
            go_ret
            exact ⟨by rw [HE.out]; rfl, blw HB5.out HB2.out⟩
          · have hne : (findI f.tasks t.name != (k : Int)) = false := by rw [findI_at HTK.out rfl hm]; simp
            have HN2 := Lib.hid (nodup_names HTK.out hm HI.out)
            clear hm
            go_wp2
            go_roundw
            case rel => exact ⟨k + 1, by omega, by go_num, HB2, HN2⟩
            case measure => simp [intOf]; omega
        obtain rfl : k = f.tasks.length := by omega
        have HTW : Hid (twins f.tasks = false) := Lib.hid (by have := HI.out; rw [List.take_length] at this; unfold twins; rw [decide_eq_true this]; rfl)
        have HB6 := Lib.hid (blw HB5.out HB.out)
        have H6 := Lib.hid (H5.out.below HB.out)
        have HO6 := Lib.hid (keep_obj HB.out HO5.out)
        clear HI HB5 H5 HO5 HB
        generalize wr = w6 at *
        go_wp2_with fail
        go_loopw [6] (fun i wr => ∃ k : Nat, k ≤ f.tasks.length ∧ i = .int .i64 k ∧ Hid (Below w6.heap.size w6 wr) ∧ Hid ((f.tasks.take k).all (fun t => linkOK f.tasks.length t.after) = true)) (fun i _ => f.tasks.length - (intOf i).toNat)
        case atStart => exact ⟨0, Nat.zero_le _, rfl, Lib.hid (Below.refl _ _), Lib.hid rfl⟩
        case round =>
          obtain ⟨k, hk, rfl, HB, HI⟩ := hrel
          clear p0 p1 p2 p3 hp
          obtain ⟨p0, p1, p2, p3, hp⟩ := fcells HB.out HO6.out
          by_cases hlt : k < f.tasks.length
          · obtain ⟨t, ht⟩ : ∃ t, f.tasks[k]? = some t := ⟨_, List.getElem?_eq_getElem hlt⟩
            obtain ⟨b, off, A', c', rfl, h0, h1, h2, h3, h4, h5, hI5⟩ := (H6.out.below HB.out).cells k _ ht
            have HTK := Lib.hid ht
            have HI5 := Lib.hid hI5
            have hal : t.after.length ≤ 9223372036854775807 := Nat.le_trans hI5.len (by have := Sl.top hI5; simpa [maxLen] using this)
            clear ht hI5
            obtain ⟨W7, hW7⟩ : ∃ W7, W7 = wr := ⟨_, rfl⟩
            have HW7 := Lib.hid hW7
            rw [← hW7] at HB HI5
            clear hW7
            go_wp2_with fail
            go_loopw [8] (fun i wr => ∃ j : Nat, j ≤ t.after.length ∧ i = .int .i64 j ∧ Hid (Below W7.heap.size W7 wr) ∧ Hid (linkOK f.tasks.length t.after = riseL f.tasks.length (lastI t.after j) (t.after.drop j)) ∧ Hid (-1 ≤ lastI t.after j)) (fun i _ => t.after.length - (intOf i).toNat)
            case atStart => exact ⟨0, Nat.zero_le _, rfl, Lib.hid (by rw [HW7.out]; exact Below.refl _ _), Lib.hid rfl, Lib.hid (Int.le_refl _)⟩
            case round =>
              obtain ⟨j, hj, rfl, HBJ, HR, HL⟩ := hrel
              clear p0 p1 p2 p3 hp
              obtain ⟨p0, p1, p2, p3, hp⟩ := fcells (blw HB.out HBJ.out) HO6.out
              by_cases hjl : j < t.after.length
              · obtain ⟨b2, off2, x, rfl, hx, hcx⟩ := (HI5.out.below HBJ.out).at_ hjl
                have HX := Lib.hid hx
                clear hx
                by_cases hx0 : x < 0
                · have HE := Lib.hid (HC4.out HNO.out HTW.out (all_no (p := fun (t : TaskD) => linkOK f.tasks.length t.after) HTK.out (rise_bad HX.out HR.out (Or.inl (by have := HL.out; omega)))))
                  go_wp2
                  go_quiet (fail)
                  go_wp2
                  go_ret
                  exact ⟨by rw [HE.out]; rfl, blw (blw HB6.out (blw HB.out HBJ.out)) (bdrew _ _)⟩
                have dx0 : decide (x < 0) = false := decide_eq_false hx0
                by_cases hxn : (f.tasks.length : Int) ≤ x
                · have HE := Lib.hid (HC4.out HNO.out HTW.out (all_no (p := fun (t : TaskD) => linkOK f.tasks.length t.after) HTK.out (rise_bad HX.out HR.out (Or.inr hxn))))
                  go_wp2
                  go_quiet (fail)
                  go_wp2
                  go_ret
                  exact ⟨by rw [HE.out]; rfl, blw (blw HB6.out (blw HB.out HBJ.out)) (bdrew _ _)⟩
                have dxn : decide ((f.tasks.length : Int) ≤ x) = false := decide_eq_false hxn
                by_cases hj0 : j = 0
                · have dj0 : decide ((0 : Int) < (j : Int)) = false := decide_eq_false (by omega)
                  have dj1 : decide (0 < j) = false := decide_eq_false (by omega)
                  have HRN := Lib.hid (rise_good HX.out HR.out (by rw [hj0]; show (-1 : Int) < x; omega) (by omega))
                  have HLN : Hid (-1 ≤ lastI t.after (j + 1)) := Lib.hid (by rw [lastI_succ HX.out]; omega)
                  clear hj0
                  go_wp2
                  go_quiet (fail)
                  go_wp2
                  go_roundw
                  case rel => exact ⟨j + 1, by omega, by go_num, Lib.hid (blw HBJ.out (bdrew _ _)), HRN, HLN⟩
                  case measure => simp [intOf]; omega
                · have hjp : (0 : Int) < (j : Int) := by omega
                  have djp : decide ((0 : Int) < (j : Int)) = true := decide_eq_true hjp
                  have djq : decide (0 < j) = true := decide_eq_true (by omega)
                  obtain ⟨m, hm⟩ : ∃ m, j = m + 1 := ⟨j - 1, by omega⟩
                  obtain ⟨b3, off3, y, e3, hy, hcy⟩ := (HI5.out.below HBJ.out).at_ (k := m) (by omega)
                  injection e3 with e3; injection e3 with e31 e32
                  subst e31 e32
                  have HY := Lib.hid hy
                  have hlast : lastI t.after j = y := by rw [hm, lastI_succ hy]
                  have hwm : IntKind.i64.wrap ((j : Int) - 1) = (m : Int) := by rw [IntKind.wrap_i64]; omega
                  have hmn : (m : Int) < (t.after.length : Int) := by omega
                  have HLS := Lib.hid hlast
                  have HM := Lib.hid hm
                  clear hy hlast hm
                  by_cases hxy : x ≤ y
                  · have dxy : decide (x ≤ y) = true := decide_eq_true hxy
                    have HE := Lib.hid (HC4.out HNO.out HTW.out (all_no (p := fun (t : TaskD) => linkOK f.tasks.length t.after) HTK.out (rise_bad HX.out HR.out (Or.inl (by rw [HLS.out]; exact hxy)))))
                    go_wp2
                    go_quiet (fail)
                    go_wp2
                    go_ret
                    exact ⟨by rw [HE.out]; rfl, blw (blw HB6.out (blw HB.out HBJ.out)) (bdrew _ _)⟩
                  · have dxy : decide (x ≤ y) = false := decide_eq_false hxy
                    have HRN := Lib.hid (rise_good HX.out HR.out (by rw [HLS.out]; omega) (by omega))
                    have HLN : Hid (-1 ≤ lastI t.after (j + 1)) := Lib.hid (by rw [lastI_succ HX.out]; omega)
                    go_wp2
                    go_quiet (fail)
                    go_wp2
                    go_roundw
                    case rel => exact ⟨j + 1, by omega, by go_num, Lib.hid (blw HBJ.out (bdrew _ _)), HRN, HLN⟩
                    case measure => simp [intOf]; omega
              · obtain rfl : j = t.after.length := by omega
                have HN2 := Lib.hid (all_snoc (p := fun (t : TaskD) => linkOK f.tasks.length t.after) HTK.out (by have := HR.out; rw [List.drop_length] at this; simpa [riseL] using this) HI.out)
                go_wp2
                go_roundw
                case rel => exact ⟨k + 1, by omega, by go_num, Lib.hid (blw HB.out HBJ.out), HN2⟩
                case measure => simp [intOf]; omega
          have HE := Lib.hid (HC5.out HNO.out HTW.out (by unfold linksOK; exact all_done (p := fun (t : TaskD) => linkOK f.tasks.length t.after) hlt HI.out))
          obtain rfl : k = f.tasks.length := by omega
          have HB8 := Lib.hid (blw HB6.out HB.out)
          have H8 := Lib.hid (H6.out.below HB.out)
          clear HI HB6 H6 HB HC2 HC3 HC4 HC5
          go_wp2_with fail
          refine (rafter_any f _ c _ H8.out (by omega)).mono ?_
          rintro e w9 ⟨A9, c9, rfl, hr9, hb9⟩
          have HR9 := Lib.hid hr9; have HB9 := Lib.hid (blw HB8.out hb9)
          clear hr9 hb9
          go_wp2_with fail
          refine (Dag.rcheck5_any (afterL f.tasks) _ (after_len _) _ A9 c9 HR9.out hlen).mono ?_
          rintro e w10 ⟨rfl, hb10⟩
          go_wp2
          go_ret
          exact ⟨by rw [HE.out]; rfl, blw HB9.out hb10⟩

theorem rcheck_any (f : FlowD) (A : Option Addr) (c : Nat) (w : World) (h : Tasks w A c f.tasks) (hT : Txt.Tabs w) (hl : f.name.length ≤ 1100000) (hn : ∀ t ∈ f.tasks, t.name.length ≤ 1100000) (hlen : f.tasks.length ≤ 30) :
    Calls Tryd.prog 39 #[.agg #[.string (sb f.name), .int .i64 f.deadline, .int .i64 f.priority, .slice A f.tasks.length c]] w fun e w' => e = .returned (.int .i64 (checkE f)) ∧ Below w.heap.size w w' :=
  rcheckN_any f A c w h hT hl hn (by omega)
end Go.Proofs.YtgejonmjmieglaaDoor

