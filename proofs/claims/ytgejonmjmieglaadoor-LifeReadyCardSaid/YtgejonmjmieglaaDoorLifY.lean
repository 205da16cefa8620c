/- Layer 13: what is ready, started one behind the other. -/
import Derived.Test.YtgejonmjmieglaaDoorLifW
namespace Go.Proofs.YtgejonmjmieglaaDoor.Lf
open Go.RowKit
open Dag (Ints IRows Own1 OwnI Sl ints num info_int info_is arc Plus)
set_option linter.unusedVariables false
set_option maxRecDepth 100000
theorem rdy {f : FlowD} {S F : List Int} (hc : checkE f = 0) (h : LifeOK f.tasks S F) {v : Nat} : v ∈ readyL f true S ↔ v < f.tasks.length ∧ atI S v = 0 ∧ frv f.tasks S v = true := by
  unfold readyL
  rw [lifeE_ok hc, if_pos rfl, List.mem_filter, stand_mem, h.sl]
  simp [and_assoc]
theorem start_iff {f : FlowD} {S : List Int} (hc : checkE f = 0) {v : Nat} (hv : v < f.tasks.length) : startE f true S (v : Int) = 0 ↔ atI S v = 0 ∧ frv f.tasks S v = true := by
  constructor
  · intro h
    obtain ⟨_, u, e, _, h1, h2⟩ := start_zero h
    obtain rfl : v = u := by omega
    exact ⟨h1, h2⟩
  · rintro ⟨h1, h2⟩
    unfold startE
    rw [tsk_ok hc hv h1, if_pos rfl, if_pos (by simpa using h2)]
theorem stg_at {S : List Int} {D : List Nat} (hD : ∀ x ∈ D, x < S.length) (v : Nat) : atI (putL S D 1) v = if v ∈ D then 1 else atI S v := putL_at hD
theorem stg_ok {f : FlowD} {S F : List Int} (hc : checkE f = 0) (h : LifeOK f.tasks S F) {D : List Nat} (hD : ∀ x ∈ D, x ∈ readyL f true S) : LifeOK f.tasks (putL S D 1) F ∧ ∀ v, frv f.tasks (putL S D 1) v = frv f.tasks S v := by
  have hl : ∀ x ∈ D, x < S.length := fun x hx => by rw [h.sl]; exact ((rdy hc h).1 (hD x hx)).1
  have h2 : ∀ x, atI (putL S D 1) x = 2 ↔ atI S x = 2 := fun x => by
    rw [stg_at hl]
    by_cases q : x ∈ D
    · have := ((rdy hc h).1 (hD x q)).2.1
      rw [if_pos q]; omega
    · rw [if_neg q]
  refine ⟨ok_moved h (putL_len _ _ _) ?_ fun v => ?_, fun v => ?_⟩
  · have e : ∀ l : List Int, (decide ((1 : Int) ∈ l) = decide ((0 : Int) ∈ l)) → standL (putL S D 1) l = standL S l := fun l hq => by
      unfold standL
      rw [putL_len]
      refine List.filter_congr fun v _ => ?_
      rw [stg_at hl]
      by_cases q : v ∈ D
      · rw [if_pos q, ((rdy hc h).1 (hD v q)).2.1]; exact hq
      · rw [if_neg q]
    rw [e [5] (by decide), e [0, 1] (by decide)]
    exact h.whole
  · rw [stg_at hl]
    by_cases q : v ∈ D
    · have := (rdy hc h).1 (hD v q)
      rw [if_pos q]
      refine Or.inr ⟨Or.inl this.2.1, Or.inr (Or.inr ⟨rfl, fun t ht => ?_⟩)⟩
      have h3 := this.2.2
      unfold frv at h3
      rw [ht] at h3
      exact h3
    · rw [if_neg q]; exact Or.inl rfl
  · unfold frv
    cases f.tasks[v]? with
    | none => rfl
    | some t => exact freeD_congr h2 _
theorem ready_nodup (f : FlowD) (b : Bool) (S : List Int) : (readyL f b S).Nodup := by
  unfold readyL
  by_cases h : lifeE f b = 0
  · rw [if_pos h]; exact (List.nodup_range.filter _).filter _
  · rw [if_neg h]; exact List.nodup_nil
/-- in that order -/
def ordL (back : Bool) (L : List Nat) : List Nat := if back = true then L.reverse else L
theorem ord_mem {back : Bool} {L : List Nat} {x : Nat} : x ∈ ordL back L ↔ x ∈ L := by unfold ordL; cases back <;> simp
theorem ord_len {back : Bool} {L : List Nat} : (ordL back L).length = L.length := by unfold ordL; cases back <;> simp
theorem ord_nodup {back : Bool} {L : List Nat} (h : L.Nodup) : (ordL back L).Nodup := by
  unfold ordL
  cases back
  · simpa using h
  · rw [if_pos rfl]; exact List.pairwise_reverse.2 (List.Pairwise.imp (fun q e => q e.symm) h)
theorem stg_next {f : FlowD} {S F : List Int} (hc : checkE f = 0) (h : LifeOK f.tasks S F) {back : Bool} {i v : Nat} (hv : (ordL back (readyL f true S))[i]? = some v) :
    startE f true (putL S ((ordL back (readyL f true S)).take i) 1) (v : Int) = 0 ∧ (putL S ((ordL back (readyL f true S)).take i) 1).set v 1 = putL S ((ordL back (readyL f true S)).take (i + 1)) 1 := by
  have hin : ∀ x ∈ (ordL back (readyL f true S)).take i, x ∈ readyL f true S := fun x hx => ord_mem.1 (List.mem_of_mem_take hx)
  have hvr := (rdy hc h).1 (ord_mem.1 (List.mem_of_getElem? hv))
  have hnd := ord_nodup (back := back) (ready_nodup f true S)
  have hni : v ∉ (ordL back (readyL f true S)).take i := fun hx => by
    obtain ⟨j, hj, e⟩ := List.getElem_of_mem hx
    have hj2 : j < i := by simp at hj; omega
    have hil := (List.getElem?_eq_some_iff.1 hv).1
    have e2 := (List.getElem?_eq_some_iff.1 hv).2
    rw [List.getElem_take] at e
    exact List.pairwise_iff_getElem.1 hnd j i (by omega) hil hj2 (e.trans e2.symm)
  have ho := stg_ok hc h hin
  refine ⟨(start_iff hc hvr.1).2 ⟨?_, by rw [ho.2]; exact hvr.2.2⟩, ?_⟩
  · rw [stg_at (fun x hx => by rw [h.sl]; exact ((rdy hc h).1 (hin x hx)).1), if_neg hni]; exact hvr.2.1
  · rw [List.take_add_one, hv]; exact (putL_snoc _ _ _ _).symm
theorem stg_done {f : FlowD} {S F : List Int} (hc : checkE f = 0) (h : LifeOK f.tasks S F) (back : Bool) : readyL f true (putL S (ordL back (readyL f true S)) 1) = [] := by
  refine List.eq_nil_iff_forall_not_mem.2 fun v hv => ?_
  have hin : ∀ x ∈ ordL back (readyL f true S), x ∈ readyL f true S := fun x hx => ord_mem.1 hx
  have ho := stg_ok hc h hin
  have hr := (rdy hc ho.1).1 hv
  rw [ho.2, stg_at (fun x hx => by rw [h.sl]; exact ((rdy hc h).1 (hin x hx)).1)] at hr
  by_cases q : v ∈ ordL back (readyL f true S)
  · rw [if_pos q] at hr; exact absurd hr.2.1 (by decide)
  · rw [if_neg q] at hr
    exact q (ord_mem.2 ((rdy hc h).2 hr))
end Go.Proofs.YtgejonmjmieglaaDoor.Lf

