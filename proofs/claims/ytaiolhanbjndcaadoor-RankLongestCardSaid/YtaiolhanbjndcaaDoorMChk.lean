/- Of the document's layer 5: Check: why they cannot be done.
   Of the document's: Check. -/
import Derived.Test.YtaiolhanbjndcaaDoorMTab
import Derived.Test.YtaiolhanbjndcaaDoorMDag
import Derived.Test.YtaiolhanbjndcaaDoorMFlw
import Derived.Test.YtaiolhanbjndcaaDoorMRef
import Derived.StillTailTactics
namespace Go.Proofs.YtaiolhanbjndcaaDoor.Dag
open Go.RowKit
set_option linter.unusedVariables false
set_option maxRecDepth 100000

theorem nodup_inj {l : List Nat} (h : l.Nodup) {a b x : Nat} (ha : l[a]? = some x) (hb : l[b]? = some x) : a = b := by
  have hp := List.pairwise_iff_getElem.1 h
  obtain ⟨h1, e1⟩ := List.getElem?_eq_some_iff.1 ha
  obtain ⟨h2, e2⟩ := List.getElem?_eq_some_iff.1 hb
  rcases Nat.lt_trichotomy a b with c | c | c
  · exact absurd (e1.trans e2.symm) (hp a b h1 h2 c)
  · exact c
  · exact absurd (e2.trans e1.symm) (hp b a h2 h1 c)
def pos (o : List Nat) (u : Nat) : Nat := o.findIdx fun x => decide (x = u)
theorem pos_get {o : List Nat} (hn : o.Nodup) {i u : Nat} (h : o[i]? = some u) : pos o u = i := by
  obtain ⟨h1, h2⟩ := List.getElem?_eq_some_iff.1 h
  unfold pos
  rw [List.findIdx_eq h1]
  refine ⟨by simpa using h2, fun j hj => ?_⟩
  rw [decide_eq_false_iff_not]
  intro e
  have hj' : o[j]? = some u := List.getElem?_eq_some_iff.2 ⟨by omega, e⟩
  have := nodup_inj hn hj' h
  omega
theorem pos_has {o : List Nat} (hn : o.Nodup) {u : Nat} (h : u ∈ o) : o[pos o u]? = some u := by
  obtain ⟨i, hi⟩ := List.getElem?_of_mem h
  rw [pos_get hn hi]; exact hi
theorem ord_all {E : List (List Int)} (h : (order E).length = E.length) {u : Nat} (hu : u < E.length) : u ∈ order E := by
  rcases Classical.em (u ∈ order E) with a | a
  · exact a
  · have h1 : (u :: order E).length ≤ E.length := nodup_len (List.nodup_cons.2 ⟨a, (order_ord E).nodup⟩) (by
      intro x hx
      rcases List.mem_cons.1 hx with rfl | hx
      · exact hu
      · exact (order_ord E).lt x hx)
    simp at h1; omega
theorem pos_arc {E : List (List Int)} (h : (order E).length = E.length) (hE : Valid E) {v u : Nat} (ha : arc E v u = true) : pos (order E) u < pos (order E) v := by
  have hv := arc_lt ha
  have hu := hE.arc ha
  have ho := order_ord E
  have h1 := pos_has ho.nodup (ord_all h hv)
  have h2 := ho.behind _ v h1 u (bef_mem.2 ⟨hu, ha⟩)
  obtain ⟨i, hi⟩ := List.getElem?_of_mem h2
  have hik : i < pos (order E) v := by have := (List.getElem?_eq_some_iff.1 hi).1; rw [List.length_take] at this; omega
  rw [List.getElem?_take, if_pos hik] at hi
  rw [pos_get ho.nodup hi]
  exact hik
theorem pos_plus {E : List (List Int)} (h : (order E).length = E.length) (hE : Valid E) {v u : Nat} (hp : Plus (arc E) v u) : pos (order E) u < pos (order E) v :=
  hp.ind (M := fun u => pos (order E) u < pos (order E) v) (fun u ha => pos_arc h hE ha) fun x u _ ih ha => Nat.lt_trans (pos_arc h hE ha) ih

/-- one comes back to itself just if not all of them come -/
theorem cyc_iff {E : List (List Int)} (hE : Valid E) : (order E).length < E.length ↔ ∃ v, v < E.length ∧ Plus (arc E) v v := by
  constructor
  · intro hlt
    rcases Classical.em (∃ v, v < E.length ∧ Plus (arc E) v v) with h | h
    · exact h
    · exfalso
      have hno : ∀ v, v < E.length → ¬ Plus (arc E) v v := fun v hv hp => h ⟨v, hv, hp⟩
      have key := order_full (E := E) (fun v => ((List.range E.length).filter fun x => @decide (Plus (arc E) v x) (Classical.propDecidable _)).length) (fun v u ha hu => by
        have mem : ∀ y x, x ∈ ((List.range E.length).filter fun x => @decide (Plus (arc E) y x) (Classical.propDecidable _)) ↔ x < E.length ∧ Plus (arc E) y x := by
          intro y x
          rw [List.mem_filter, List.mem_range]
          exact and_congr_right fun _ => ⟨fun h => @of_decide_eq_true _ (Classical.propDecidable _) h, fun h => @decide_eq_true _ (Classical.propDecidable _) h⟩
        have hs : (u :: ((List.range E.length).filter fun x => @decide (Plus (arc E) u x) (Classical.propDecidable _))).length ≤ ((List.range E.length).filter fun x => @decide (Plus (arc E) v x) (Classical.propDecidable _)).length := by
          refine sub_len (List.nodup_cons.2 ⟨fun hm => hno u hu ((mem u u).1 hm).2, filter_range_nodup _ _⟩) fun x hx => ?_
          rcases List.mem_cons.1 hx with rfl | hx
          · exact (mem v x).2 ⟨hu, .one ha⟩
          · have := (mem u x).1 hx
            exact (mem v x).2 ⟨this.1, Plus.head ha this.2⟩
        simp only [List.length_cons] at hs
        exact hs)
      omega
  · rintro ⟨v, hv, hp⟩
    rcases Nat.lt_or_ge (order E).length E.length with h | h
    · exact h
    · have hle := (order_ord E).len
      have := pos_plus (by omega) hE hp
      omega

end Go.Proofs.YtaiolhanbjndcaaDoor.Dag

/- Of the document's: numbers, is, Name and Same of a list of bytes. -/
namespace Go.Proofs.YtaiolhanbjndcaaDoor
open Go.RowKit
open Txt (nameD sameS)
open Clk (isT)
set_option linter.unusedVariables false
set_option maxRecDepth 100000

theorem numsOK_iff (t : TaskD) : numsOK t = (decide (1 ≤ t.nodes) && (decide (t.nodes ≤ 10000) && (decide (1 ≤ t.wall) && (isT t.wall && (decide (0 ≤ t.retry) && decide (t.retry ≤ 20)))))) := by
  unfold numsOK inR isT maxT
  by_cases h1 : 1 ≤ t.nodes <;> by_cases h2 : t.nodes ≤ 10000 <;> by_cases h3 : 1 ≤ t.wall <;> simp [h1, h2, h3]
  rw [decide_eq_true (show 0 ≤ t.wall by omega)]; rfl
end Go.Proofs.YtaiolhanbjndcaaDoor
namespace Go.Proofs.YtaiolhanbjndcaaDoor
open Go.RowKit
open Dag (Ints IRows Own1 Sl newE)
open Txt (nameD sameS)
open Clk (isT)
set_option linter.unusedVariables false
set_option maxRecDepth 100000

theorem fcells {W w1 : World} {b : Nat} {f : FlowD} {A : Option Addr} {c : Nat} (hb : Below W.heap.size W w1) (h : W.heap[b]? = some (flowO f A c)) :
    w1.cell? ⟨b, 0, none⟩ = some (.string (sb f.name)) ∧ w1.cell? ⟨b, 1, none⟩ = some (.int .i64 f.deadline) ∧ w1.cell? ⟨b, 2, none⟩ = some (.int .i64 f.priority) ∧ w1.cell? ⟨b, 3, none⟩ = some (.slice A f.tasks.length c) ∧ b < w1.heap.size := flowO_cells (keep_obj hb h)
/-- the one ahead of place k -/
def lastI (l : List Int) : Nat → Int
  | 0 => -1
  | k + 1 => l.getD k 0
theorem lastI_succ {l : List Int} {k : Nat} {x : Int} (h : l[k]? = some x) : lastI l (k + 1) = x := by
  show l.getD k 0 = x
  rw [List.getD_eq_getElem?_getD, h]; rfl
theorem rise_bad {n : Nat} {l : List Int} {j : Nat} {x : Int} (h : l[j]? = some x) (hi : linkOK n l = riseL n (lastI l j) (l.drop j)) (hbad : x ≤ lastI l j ∨ (n : Int) ≤ x) : linkOK n l = false := by
  rw [hi, rise_at h]
  rcases hbad with hb | hb
  · rw [decide_eq_false (by omega)]; rfl
  · rw [decide_eq_false (show ¬ x < (n : Int) by omega)]; simp
theorem rise_good {n : Nat} {l : List Int} {j : Nat} {x : Int} (h : l[j]? = some x) (hi : linkOK n l = riseL n (lastI l j) (l.drop j)) (h1 : lastI l j < x) (h2 : x < (n : Int)) : linkOK n l = riseL n (lastI l (j + 1)) (l.drop (j + 1)) := by
  rw [hi, rise_at h, lastI_succ h, decide_eq_true h1, decide_eq_true h2]; rfl
theorem find_dup {ts : List TaskD} {k : Nat} {t : TaskD} (h : ts[k]? = some t) (hm : t.name ∈ names (ts.take k)) : findI ts t.name ≠ (k : Int) ∧ twins ts = true := by
  obtain ⟨hk, he⟩ := List.getElem?_eq_some_iff.1 h
  have hs : ts = ts.take k ++ t :: ts.drop (k + 1) := by rw [← he, ← List.drop_eq_getElem_cons hk, List.take_append_drop]
  have hn : names ts = names (ts.take k) ++ t.name :: names (ts.drop (k + 1)) := by
    conv => lhs; rw [hs]
    simp [names]
  constructor
  · unfold findI
    rw [if_pos (by rw [hn]; simp), hn, List.idxOf_append, if_pos hm]
    have := List.idxOf_lt_length_of_mem hm
    simp only [names, List.length_map, List.length_take] at this
    simp only [names] at this ⊢
    omega
  · unfold twins
    simp only [Bool.not_eq_true', decide_eq_false_iff_not]
    rw [hn]
    intro hd
    exact (List.nodup_append.1 hd).2.2 _ hm _ (List.mem_cons_self) rfl
theorem nodup_names {ts : List TaskD} {k : Nat} {t : TaskD} (h : ts[k]? = some t) (hm : t.name ∉ names (ts.take k)) (hd : (names (ts.take k)).Nodup) : (names (ts.take (k + 1))).Nodup := by
  rw [names_take h, List.nodup_append]
  exact ⟨hd, by simp, fun a ha b hb e => by simp at hb; subst hb; subst e; exact hm ha⟩

end Go.Proofs.YtaiolhanbjndcaaDoor

