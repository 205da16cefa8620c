/- Layer 7: the document's up and down: rounds in place.
   Layer 7: the document's down: rounds in place.
   Layer 7: the document's Ranks.
   Layer 7: the document's Length. -/
import Derived.Test.YtaiolhanbjndcaaDoorMGra
namespace Go.Proofs.YtaiolhanbjndcaaDoor
open Go.RowKit
open Dag (Ints Own1 Sl num num_len num_get Gr newE order befL behL bef_mem beh_mem order_ord)
set_option linter.unusedVariables false
set_option maxRecDepth 100000

theorem chk_facts {f : FlowD} (hc : checkE f = 0) : (order (afterL f.tasks)).length = f.tasks.length ∧ Dag.Valid (afterL f.tasks) ∧ Wts f.tasks := by
  have h := chk_new hc
  unfold newE at h
  cases hok : Dag.okAll (afterL f.tasks) with
  | false => rw [hok] at h; simp at h
  | true =>
    rw [hok] at h
    simp only [if_true] at h
    have hle := (order_ord (afterL f.tasks)).len
    rw [afterL_len] at hle h
    refine ⟨?_, Dag.okAll_iff.1 hok, fun v => ?_⟩
    · split at h
      · cases h
      · omega
    · unfold wtAt
      split
      · rename_i t ht
        have := nums_wgt hc (List.mem_of_getElem? ht) false
        exact ⟨this.1, this.2.1⟩
      · exact ⟨Int.le_refl _, by decide⟩
def partUp (ts : List TaskD) (xs : List Int) (v k : Nat) : Int := maxL (((List.range k).filter fun w => Dag.arc (afterL ts) w v).map (atL xs))
theorem partUp_succ (ts : List TaskD) (xs : List Int) (v k : Nat) : partUp ts xs v (k + 1) = if Dag.arc (afterL ts) k v = true then max (partUp ts xs v k) (atL xs k) else partUp ts xs v k := by
  unfold partUp
  rw [List.range_succ, List.filter_append]
  split
  · rename_i h
    rw [List.filter_cons_of_pos (by simpa using h), List.filter_nil, List.map_append, List.map_cons, List.map_nil, maxL_snoc]
  · rename_i h
    rw [List.filter_cons_of_neg (by simpa using h), List.filter_nil, List.append_nil]
theorem partUp_all (ts : List TaskD) (xs : List Int) (v : Nat) : partUp ts xs v ts.length + wtAt ts v = upS ts (atL xs) v := by
  unfold partUp upS behL
  rw [afterL_len]
theorem arc_at {ts : List TaskD} {k v : Nat} {t : TaskD} (h : ts[k]? = some t) : Dag.arc (afterL ts) k v = decide ((v : Int) ∈ t.after) := by
  unfold Dag.arc
  rw [Dag.row_some (by unfold afterL; rw [List.getElem?_map, h]; rfl)]

end Go.Proofs.YtaiolhanbjndcaaDoor
namespace Go.Proofs.YtaiolhanbjndcaaDoor
open Go.RowKit
open Dag (Ints Own1 Sl num num_len num_get Gr newE order befL behL bef_mem beh_mem order_ord)
set_option linter.unusedVariables false
set_option maxRecDepth 100000

def partDn (ts : List TaskD) (xs l : List Int) (k : Nat) : Int := maxL ((l.take k).map fun z => atL xs z.toNat + wtAt ts z.toNat)
theorem partDn_succ (ts : List TaskD) (xs l : List Int) (k u : Nat) (h : l[k]? = some (u : Int)) : partDn ts xs l (k + 1) = max (partDn ts xs l k) (atL xs u + wtAt ts u) := by
  unfold partDn
  rw [List.take_add_one, h, Option.toList_some, List.map_append, List.map_cons, List.map_nil, maxL_snoc, Int.toNat_natCast]
theorem partDn_all {ts : List TaskD} (hV : Dag.Valid (afterL ts)) (xs : List Int) {l : List Int} {v : Nat} (hl : Dag.row (afterL ts) v = l) : partDn ts xs l l.length = dnS ts (atL xs) v := by
  unfold partDn dnS
  rw [List.take_length]
  refine maxL_eq fun x => ?_
  rw [List.mem_map, List.mem_map]
  constructor
  · rintro ⟨z, hz, rfl⟩
    obtain ⟨u, hzu, hul, _⟩ := hV.at_ (v := v) (x := z) (by rw [hl]; exact hz)
    subst hzu
    exact ⟨u, bef_mem.2 ⟨hul, Dag.arc_iff.2 (by rw [hl]; exact hz)⟩, by rw [Int.toNat_natCast]⟩
  · rintro ⟨u, hu, rfl⟩
    have := Dag.arc_iff.1 (bef_mem.1 hu).2
    rw [hl] at this
    exact ⟨(u : Int), this, by rw [Int.toNat_natCast]⟩

end Go.Proofs.YtaiolhanbjndcaaDoor
namespace Go.Proofs.YtaiolhanbjndcaaDoor
open Go.RowKit
open Dag (Ints Own1 Sl num num_len num_get Gr newE order befL behL bef_mem beh_mem order_ord)
set_option linter.unusedVariables false
set_option maxRecDepth 100000

def selD (isUp : Bool) (ts : List TaskD) : Nat → Int := if isUp = true then upD ts else dnD ts
theorem sel_lo {f : FlowD} (hc : checkE f = 0) (isUp : Bool) (i : Nat) (hi : i < f.tasks.length) : 0 ≤ selD isUp f.tasks i := by
  obtain ⟨hf, hV, hW⟩ := chk_facts hc
  unfold selD
  split
  · exact (upD_bd hf hV hW f.tasks.length i hi (by unfold upM; omega)).1
  · exact (dnD_bd hf hW f.tasks.length i hi (pos_lt hf hi)).1
theorem okU_bad {n : Nat} {U : Nat → Int} {i : Nat} (hi : i < n) (h : maxT < U i) : okU n U = false := by
  cases e : okU n U with
  | false => rfl
  | true => have := okU_iff.1 e i hi; omega

end Go.Proofs.YtaiolhanbjndcaaDoor
namespace Go.Proofs.YtaiolhanbjndcaaDoor
open Go.RowKit
open Dag (Ints Own1 Sl num num_len num_get Gr newE order befL behL bef_mem beh_mem order_ord)
set_option linter.unusedVariables false
set_option maxRecDepth 100000

end Go.Proofs.YtaiolhanbjndcaaDoor

