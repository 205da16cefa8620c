/- Of the document's layer 5: Check: why they cannot be done. -/
import Derived.Test.YtkicanegjkemoaaDoorDagE
import Derived.Test.YtkicanegjkemoaaDoorDagD
import Derived.Test.YtkicanegjkemoaaDoorFlwFnd
import Derived.Test.YtkicanegjkemoaaDoorFlwCheck
import Derived.Test.YtkicanegjkemoaaDoorTxtE
namespace Go.Proofs.YtkicanegjkemoaaDoor.Dag
open Go.RowKit
set_option linter.unusedVariables false
set_option maxRecDepth 100000

theorem nodup_inj {l : List Nat} (h : l.Nodup) {a b x : Nat} (ha : l[a]? = some x) (hb : l[b]? = some x) : a = b := by
  have hp := List.pairwise_iff_getElem.1 h
  obtain ⟨h1, e1⟩ := List.getElem?_eq_some_iff.1 ha
  obtain ⟨h2, e2⟩ := List.getElem?_eq_some_iff.1 hb
  rcases Nat.lt_trichotomy a b with c | c | c
  · exact absurd (e1.trans e2.symm) (hp a b h1 h2 c)
  · exact c
  · exact absurd (e2.trans e1.symm) (hp b a h2 h1 c)
def pos (o : List Nat) (u : Nat) : Nat := o.findIdx fun x => decide (x = u)
theorem pos_get {o : List Nat} (hn : o.Nodup) {i u : Nat} (h : o[i]? = some u) : pos o u = i := by
  obtain ⟨h1, h2⟩ := List.getElem?_eq_some_iff.1 h
  unfold pos
  rw [List.findIdx_eq h1]
  refine ⟨by simpa using h2, fun j hj => ?_⟩
  rw [decide_eq_false_iff_not]
  intro e
  have hj' : o[j]? = some u := List.getElem?_eq_some_iff.2 ⟨by omega, e⟩
  have := nodup_inj hn hj' h
  omega
theorem pos_has {o : List Nat} (hn : o.Nodup) {u : Nat} (h : u ∈ o) : o[pos o u]? = some u := by
  obtain ⟨i, hi⟩ := List.getElem?_of_mem h
  rw [pos_get hn hi]; exact hi
theorem ord_all {E : List (List Int)} (h : (order E).length = E.length) {u : Nat} (hu : u < E.length) : u ∈ order E := by
  rcases Classical.em (u ∈ order E) with a | a
  · exact a
  · have h1 : (u :: order E).length ≤ E.length := nodup_len (List.nodup_cons.2 ⟨a, (order_ord E).nodup⟩) (by
      intro x hx
      rcases List.mem_cons.1 hx with rfl | hx
      · exact hu
      · exact (order_ord E).lt x hx)
    simp at h1; omega
theorem pos_arc {E : List (List Int)} (h : (order E).length = E.length) (hE : Valid E) {v u : Nat} (ha : arc E v u = true) : pos (order E) u < pos (order E) v := by
  have hv := arc_lt ha
  have hu := hE.arc ha
  have ho := order_ord E
  have h1 := pos_has ho.nodup (ord_all h hv)
  have h2 := ho.behind _ v h1 u (bef_mem.2 ⟨hu, ha⟩)
  obtain ⟨i, hi⟩ := List.getElem?_of_mem h2
  have hik : i < pos (order E) v := by have := (List.getElem?_eq_some_iff.1 hi).1; rw [List.length_take] at this; omega
  rw [List.getElem?_take, if_pos hik] at hi
  rw [pos_get ho.nodup hi]
  exact hik
theorem pos_plus {E : List (List Int)} (h : (order E).length = E.length) (hE : Valid E) {v u : Nat} (hp : Plus (arc E) v u) : pos (order E) u < pos (order E) v :=
  hp.ind (M := fun u => pos (order E) u < pos (order E) v) (fun u ha => pos_arc h hE ha) fun x u _ ih ha => Nat.lt_trans (pos_arc h hE ha) ih

/-- one comes back to itself just if not all of them come -/
theorem cyc_iff {E : List (List Int)} (hE : Valid E) : (order E).length < E.length ↔ ∃ v, v < E.length ∧ Plus (arc E) v v := by
  constructor
  · intro hlt
    rcases Classical.em (∃ v, v < E.length ∧ Plus (arc E) v v) with h | h
    · exact h
    · exfalso
      have hno : ∀ v, v < E.length → ¬ Plus (arc E) v v := fun v hv hp => h ⟨v, hv, hp⟩
      have key := order_full (E := E) (fun v => ((List.range E.length).filter fun x => @decide (Plus (arc E) v x) (Classical.propDecidable _)).length) (fun v u ha hu => by
        have mem : ∀ y x, x ∈ ((List.range E.length).filter fun x => @decide (Plus (arc E) y x) (Classical.propDecidable _)) ↔ x < E.length ∧ Plus (arc E) y x := by
          intro y x
          rw [List.mem_filter, List.mem_range]
          exact and_congr_right fun _ => ⟨fun h => @of_decide_eq_true _ (Classical.propDecidable _) h, fun h => @decide_eq_true _ (Classical.propDecidable _) h⟩
        have hs : (u :: ((List.range E.length).filter fun x => @decide (Plus (arc E) u x) (Classical.propDecidable _))).length ≤ ((List.range E.length).filter fun x => @decide (Plus (arc E) v x) (Classical.propDecidable _)).length := by
          refine sub_len (List.nodup_cons.2 ⟨fun hm => hno u hu ((mem u u).1 hm).2, filter_range_nodup _ _⟩) fun x hx => ?_
          rcases List.mem_cons.1 hx with rfl | hx
          · exact (mem v x).2 ⟨hu, .one ha⟩
          · have := (mem u x).1 hx
            exact (mem v x).2 ⟨this.1, Plus.head ha this.2⟩
        simp only [List.length_cons] at hs
        exact hs)
      omega
  · rintro ⟨v, hv, hp⟩
    rcases Nat.lt_or_ge (order E).length E.length with h | h
    · exact h
    · have hle := (order_ord E).len
      have := pos_plus (by omega) hE hp
      omega

set_option maxHeartbeats 3200000 in
theorem rcheck5_any (E : List (List Int)) (n : Nat) (hnE : E.length = n) (w : World) (A : Option Addr) (c : Nat) (h : IRows w A c E) (hn : n ≤ 300) :
    Calls Tryd.prog 36 #[.slice A n c] w fun e w' => e = .returned (.int .i64 (newE E)) ∧ Below w.heap.size w w' := by
  subst hnE
  have H := Lib.hid h; clear h
  go_enter Tryd.func36, Tryd.ntmps36
  go_wp2
  go_loop [3] (fun i => ∃ k : Nat, k ≤ E.length ∧ i = .int .i64 k ∧ Hid ((E.take k).all (okRow E.length) = true)) (fun i => E.length - (intOf i).toNat)
  case atStart => exact ⟨0, Nat.zero_le _, rfl, Lib.hid (by simp)⟩
  case round =>
    obtain ⟨k, hk, rfl, HT⟩ := hrel
    by_cases hlt : k < E.length
    · obtain ⟨b, off, A', c', xs, rfl, hx, hc, hi⟩ := H.out.at_ hlt
      have HX := Lib.hid hx
      have HI := Lib.hid hi
      have hxl : xs.length ≤ 9223372036854775807 := Nat.le_trans hi.len (by have := Sl.top hi; simpa [maxLen] using this)
      clear hx hi
      go_wp2
      go_loop [4] (fun i => ∃ j : Nat, j ≤ xs.length ∧ i = .int .i64 j ∧ Hid (okRow E.length (xs.take j) = true)) (fun i => xs.length - (intOf i).toNat)
      case atStart => exact ⟨0, Nat.zero_le _, rfl, Lib.hid (by simp [okRow])⟩
      case round =>
        obtain ⟨j, hj, rfl, HT2⟩ := hrel
        by_cases hjl : j < xs.length
        · obtain ⟨b2, off2, x, rfl, hy, hcy⟩ := HI.out.at_ hjl
          have HY := Lib.hid hy; clear hy
          by_cases h0 : x < 0
          · have HF : Hid (newE E = 2) := Lib.hid (by
              refine newE_arg ?_
              rw [Bool.eq_false_iff]; intro hok
              have := (okAll_iff.1 hok) xs (List.mem_of_getElem? HX.out) x (List.mem_of_getElem? HY.out)
              omega)
            go_wp2
            go_ret
            rw [HF.out]
            exact ⟨rfl, Below.refl _ _⟩
          · by_cases h1 : (E.length : Int) ≤ x
            · have HF : Hid (newE E = 2) := Lib.hid (by
                refine newE_arg ?_
                rw [Bool.eq_false_iff]; intro hok
                have := (okAll_iff.1 hok) xs (List.mem_of_getElem? HX.out) x (List.mem_of_getElem? HY.out)
                omega)
              go_wp2
              go_ret
              rw [HF.out]
              exact ⟨rfl, Below.refl _ _⟩
            · go_wp2
              go_round
              case rel =>
                refine ⟨j + 1, by omega, by go_num, Lib.hid ?_⟩
                have := HT2.out
                rw [take_succ_some HY.out]
                unfold okRow at this ⊢
                rw [List.all_append, this]
                simp; omega
              case measure => simp [intOf]; omega
        · obtain rfl : j = xs.length := by omega
          go_wp2
          go_round
          case rel =>
            refine ⟨k + 1, by omega, by go_num, Lib.hid ?_⟩
            have h2 := HT2.out
            rw [List.take_length] at h2
            rw [take_succ_some HX.out, List.all_append, HT.out]
            simp [h2]
          case measure => simp [intOf]; omega
    · obtain rfl : k = E.length := by omega
      have hok : okAll E = true := by have := HT.out; rwa [List.take_length] at this
      have HOK := Lib.hid hok
      have HE := Lib.hid (okAll_iff.1 hok)
      clear hok
      go_wp2_with fail
      refine (rreach_any E _ _ _ H.out hn HE.out).mono ?_
      rintro e w1 ⟨R, Ar, cr, vr, rfl, htr, hR, hb1⟩
      have HTR := Lib.hid htr; have HR := Lib.hid hR; have HB1 := Lib.hid hb1
      clear htr hR hb1
      go_wp2_with fail
      go_loop [6] (fun i => ∃ v : Nat, v ≤ E.length ∧ i = .int .i64 v ∧ Hid (∀ x, x < v → ¬ Plus (arc E) x x)) (fun i => E.length - (intOf i).toNat)
      case atStart => exact ⟨0, Nat.zero_le _, rfl, Lib.hid fun x hx => by omega⟩
      case round =>
        obtain ⟨v, hv, rfl, HV⟩ := hrel
        by_cases hvl : v < E.length
        · obtain ⟨gr, Ax, cx2, eA, _, _, hvx, cvx, _, hox⟩ := HTR.out.row (rowsB_get R hvl)
          subst eA
          rw [rowB_len] at cvx hvx hox
          obtain ⟨gu, eAu, _, _, cru, _⟩ := Own1.at_ hox (rowB_get _ hvl)
          subst eAu
          have HRV := Lib.hid (HR.out v v hvl hvl)
          clear hvx hox
          cases hr : R v v with
          | true =>
            rw [hr] at cru
            have HF : Hid (newE E = 40) := Lib.hid (newE_cyc HOK.out ((cyc_iff HE.out).2 ⟨v, hvl, HRV.out.1 hr⟩))
            clear hr
            go_wp2
            go_ret
            rw [HF.out]
            exact ⟨rfl, HB1.out⟩
          | false =>
            rw [hr] at cru
            have HN : Hid (∀ x, x < v + 1 → ¬ Plus (arc E) x x) := Lib.hid fun x hx => by
              rcases Nat.lt_or_ge x v with hxv | hxv
              · exact HV.out x hxv
              · obtain rfl : x = v := by omega
                intro hp
                have := HRV.out.2 hp
                rw [hr] at this; cases this
            clear hr
            go_wp2
            go_round
            case rel => exact ⟨v + 1, by omega, by go_num, HN⟩
            case measure => simp [intOf]; omega
        · obtain rfl : v = E.length := by omega
          have HF : Hid (newE E = 0) := Lib.hid (newE_ok HOK.out fun hlt => by
            obtain ⟨x, hx, hp⟩ := (cyc_iff HE.out).1 hlt
            exact HV.out x hx hp)
          go_wp2
          go_ret
          rw [HF.out]
          exact ⟨rfl, HB1.out⟩

end Go.Proofs.YtkicanegjkemoaaDoor.Dag

/- Of the document's: numbers, is, Name and Same of a list of bytes. -/
namespace Go.Proofs.YtkicanegjkemoaaDoor
open Go.RowKit
open Txt (nameD sameS)
open Clk (isT)
set_option linter.unusedVariables false
set_option maxRecDepth 100000

theorem rnm_any (s : List UInt8) (w : World) (hs : s.length ≤ 1100000) (hT : Txt.Tabs w) :
    Calls Tryd.prog 32 #[.string (sb s)] w fun e w' => e = .returned (.bool (nameD s)) ∧ Below w.heap.size w w' := by
  have h := Txt.rname_any (sb s) w (sb_sz hs) hT
  rw [show Txt.lst (sb s) = s from sb_list s] at h
  exact h
theorem rsm_any (a b : List UInt8) (w : World) (ha : a.length ≤ 9000000000000000000) (hb : b.length ≤ 9000000000000000000) :
    Calls Tryd.prog 59 #[.string (sb a), .string (sb b)] w fun e w' => e = .returned (.bool (sameS a b)) ∧ Below w.heap.size w w' := by
  have h := Txt.rsame_any (sb a) (sb b) w (sb_sz ha) (sb_sz hb)
  rw [show Txt.lst (sb a) = a from sb_list a, show Txt.lst (sb b) = b from sb_list b] at h
  exact h
theorem ris6_any (a b : List UInt8) (w : World) (ha : a.length ≤ 9000000000000000000) (hb : b.length ≤ 9000000000000000000) :
    Calls Tryd.prog 33 #[.string (sb a), .string (sb b)] w fun e w' => e = .returned (.bool (sameS a b)) ∧ Below w.heap.size w w' := by
  go_enter Tryd.func33, Tryd.ntmps33
  go_wp2_with fail
  refine (rsm_any a b _ ha hb).mono ?_
  rintro e w1 ⟨rfl, hb1⟩
  go_wp2
  go_ret
  exact ⟨rfl, hb1⟩

theorem numsOK_iff (t : TaskD) : numsOK t = (decide (1 ≤ t.nodes) && (decide (t.nodes ≤ 10000) && (decide (1 ≤ t.wall) && (isT t.wall && (decide (0 ≤ t.retry) && decide (t.retry ≤ 20)))))) := by
  unfold numsOK inR isT maxT
  by_cases h1 : 1 ≤ t.nodes <;> by_cases h2 : t.nodes ≤ 10000 <;> by_cases h3 : 1 ≤ t.wall <;> simp [h1, h2, h3]
  rw [decide_eq_true (show 0 ≤ t.wall by omega)]; rfl
set_option maxHeartbeats 1600000 in
theorem rnums_any (t : TaskD) (A : Option Addr) (c : Nat) (w : World) :
    Calls Tryd.prog 34 #[.agg #[.string (sb t.name), .int .i64 t.nodes, .int .i64 t.wall, .int .i64 t.retry, .bool t.done, .slice A t.after.length c]] w fun e w' => e = .returned (.bool (numsOK t)) ∧ Below w.heap.size w w' := by
  obtain ⟨r, hr⟩ : ∃ r, r = numsOK t := ⟨_, rfl⟩
  rw [← hr]
  rw [numsOK_iff] at hr
  have HR := Lib.hid hr
  clear hr
  by_cases h1 : 1 ≤ t.nodes
  case neg =>
    have HF := Lib.hid (show r = false from by rw [HR.out]; simp [h1])
    go_enter Tryd.func34, Tryd.ntmps34
    go_wp2
    go_ret
    exact ⟨by rw [HF.out]; rfl, al _ _⟩
  by_cases h2 : t.nodes ≤ 10000
  case neg =>
    have HF := Lib.hid (show r = false from by rw [HR.out]; simp [h2])
    go_enter Tryd.func34, Tryd.ntmps34
    go_wp2
    go_ret
    exact ⟨by rw [HF.out]; rfl, al _ _⟩
  by_cases h3 : 1 ≤ t.wall
  case neg =>
    have HF := Lib.hid (show r = false from by rw [HR.out]; simp [h3])
    go_enter Tryd.func34, Tryd.ntmps34
    go_wp2
    go_ret
    exact ⟨by rw [HF.out]; rfl, al _ _⟩
  cases h4 : isT t.wall
  case false =>
    have HF := Lib.hid (show r = false from by rw [HR.out]; simp [h4])
    have H4 := Lib.hid h4
    clear h4
    go_enter Tryd.func34, Tryd.ntmps34
    go_wp2_with fail
    refine (Clk.ris_any _ _).mono ?_
    rw [H4.out]
    rintro e w1 ⟨rfl, rfl⟩
    go_wp2
    go_ret
    exact ⟨by rw [HF.out]; rfl, al _ _⟩
  case true =>
    have H4 := Lib.hid h4
    by_cases h5 : 0 ≤ t.retry
    case neg =>
      have HF := Lib.hid (show r = false from by rw [HR.out]; simp [h5])
      clear h4
      go_enter Tryd.func34, Tryd.ntmps34
      go_wp2_with fail
      refine (Clk.ris_any _ _).mono ?_
      rw [H4.out]
      rintro e w1 ⟨rfl, rfl⟩
      go_wp2
      go_ret
      exact ⟨by rw [HF.out]; rfl, al _ _⟩
    have HF := Lib.hid (show r = decide (t.retry ≤ 20) from by rw [HR.out]; simp [h1, h2, h3, h4, h5])
    clear h4
    go_enter Tryd.func34, Tryd.ntmps34
    go_wp2_with fail
    refine (Clk.ris_any _ _).mono ?_
    rw [H4.out]
    rintro e w1 ⟨rfl, rfl⟩
    go_wp2
    go_ret
    exact ⟨by rw [HF.out]; rfl, al _ _⟩

end Go.Proofs.YtkicanegjkemoaaDoor


