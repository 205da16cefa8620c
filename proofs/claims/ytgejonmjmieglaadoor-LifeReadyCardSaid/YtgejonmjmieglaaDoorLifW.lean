/- Layer 13: an argument that is a life; a start, and a cancel, keep what may be. -/
import Derived.Test.YtgejonmjmieglaaDoorLifU
import Derived.Test.YtgejonmjmieglaaDoorMTab
import Derived.Test.YtgejonmjmieglaaDoorRows
import Derived.Deep.Slices
import Derived.SizedLaws
namespace Go.Proofs.YtgejonmjmieglaaDoor.Lf
open Go.ChangeShapes Go.WideShapes Go.ChangeAt Go.RowKit Go.Shelf Go.Lib
open Dag (Ints IRows Own1 OwnI Sl ints num info_int info_is arc Plus)
set_option linter.unusedVariables false
set_option maxRecDepth 100000
section
variable {H : Type} {enc : TypeId × Value → H} {w : World}
theorem tst2x {P : Program} {base : Nat} {spare : Nat → Bool} {held : Bool} {t : TypeId} {f0 f1 : Field} {fuel : Nat} {cs : List Value} {x : DataW H × List MemPlace} (ht : P.underlying t = some (.struct #[f0, f1])) (h : DataW.trod enc P w base spare held fuel t cs = some x) :
    ∃ y0 y1 n, x.1 = .agg [y0.1, y1.1] ∧ cs.length = P.cellsOf t ∧ DataW.trod enc P w base spare held n f0.type ((cs.drop f0.offset).take (P.cellsOf f0.type)) = some y0 ∧
      DataW.trod enc P w base spare held n f1.type ((cs.drop f1.offset).take (P.cellsOf f1.type)) = some y1 := by
  obtain ⟨xs, n, _, rfl, hl, hlen, hf⟩ := DataW.trod_struct ht h
  match xs, hlen with
  | [y0, y1], _ => exact ⟨y0, y1, n, rfl, hl, by simpa using hf 0 f0 rfl, by simpa using hf 1 f1 rfl⟩
theorem c_life : Tryd.prog.cellsOf 27 = 2 := by kernel_rfl
theorem c_ints : Tryd.prog.cellsOf 25 = 1 := by kernel_rfl
theorem life_arg {fuel : Nat} {cs : List Value} {x : DataW H × List MemPlace} (h : DataW.trod enc Tryd.prog w 0 (fun _ => true) true fuel 27 cs = some x) :
    ∃ (S F : List Int) (SA : Option Addr) (sc : Nat) (FA : Option Addr) (fc : Nat), cs = [.slice SA S.length sc, .slice FA F.length fc] ∧ Lif w SA S.length sc FA F.length fc S F := by
  obtain ⟨y0, y1, n, hx, hl, h0, h1⟩ := tst2x Tryd.underlying27 h
  rw [c_life] at hl
  match cs, hl with
  | [a0, a1], _ =>
    simp only [c_ints, List.drop_zero, List.drop_succ_cons, List.take_succ_cons, List.take_zero] at h0 h1
    obtain ⟨A0, c0, xs0, e0, i0, _⟩ := ints_arg h0
    obtain ⟨A1, c1, xs1, e1, i1, _⟩ := ints_arg h1
    subst e0 e1
    exact ⟨xs0, xs1, A0, c0, A1, c1, rfl, i0, i1, rfl, rfl⟩
end
theorem freeD_congr {S S' : List Int} (h : ∀ x, atI S' x = 2 ↔ atI S x = 2) (l : List Int) : freeD S' l = freeD S l := by
  have e : (fun u : Int => atI S' u.toNat == 2) = fun u => atI S u.toNat == 2 := funext fun u => by rw [Bool.eq_iff_iff]; simp [h]
  unfold freeD
  rw [e]
theorem dead_congr {ts : List TaskD} {S S' : List Int} (h : ∀ x, atI S' x = 3 ↔ atI S x = 3) (v : Nat) : DeadP ts S' v ↔ DeadP ts S v := by
  constructor
  · rintro ⟨u, h1, h2, h3⟩; exact ⟨u, h1, (h u).1 h2, h3⟩
  · rintro ⟨u, h1, h2, h3⟩; exact ⟨u, h1, (h u).2 h2, h3⟩
/-- what changes, stays among 0, 1 and 5 -/
theorem ok_moved {ts : List TaskD} {S S' F : List Int} (h : LifeOK ts S F) (hl : S'.length = S.length) (hw : standL S' [5] = [] ∨ standL S' [0, 1] = [])
    (hm : ∀ v, atI S' v = atI S v ∨ (atI S v = 0 ∨ atI S v = 1) ∧ (atI S' v = 0 ∨ atI S' v = 5 ∨ atI S' v = 1 ∧ ∀ t, ts[v]? = some t → freeD S t.after = true)) : LifeOK ts S' F := by
  have h2 : ∀ x, atI S' x = 2 ↔ atI S x = 2 := fun x => by rcases hm x with e | ⟨e, e' | e' | ⟨e', _⟩⟩ <;> omega
  have h3 : ∀ x, atI S' x = 3 ↔ atI S x = 3 := fun x => by rcases hm x with e | ⟨e, e' | e' | ⟨e', _⟩⟩ <;> omega
  refine ⟨hl.trans h.sl, h.fl, fun v t ht => ?_, hw⟩
  have o := h.task v t ht
  rw [freeD_congr h2, show DeadP ts S' v = DeadP ts S v from propext (dead_congr h3 v)]
  rcases hm v with e | ⟨e, e'⟩
  · rw [e]; exact o
  · have hd : t.done = false := by
      cases hd : t.done
      · rfl
      · have := (o.dn hd).1; omega
    refine ⟨by rcases e' with e' | e' | ⟨e', _⟩ <;> omega, o.k0, ?_, fun q => absurd q (by simp [hd]), fun _ k1 k3 => ?_, ?_⟩
    · have := o.fl; rcases e' with e' | e' | ⟨e', _⟩ <;> omega
    · rcases e' with e' | e' | ⟨_, e'⟩
      · omega
      · omega
      · exact e' t ht
    · constructor
      · intro q; rcases e' with e' | e' | ⟨e', _⟩ <;> omega
      · intro q; have := o.dd.2 q; omega
theorem stand_set01 {S : List Int} {u : Nat} (hu : u < S.length) (h0 : atI S u = 0) : standL (S.set u 1) [0, 1] = standL S [0, 1] ∧ standL (S.set u 1) [5] = standL S [5] := by
  unfold standL
  rw [List.length_set]
  refine ⟨List.filter_congr fun v hv => ?_, List.filter_congr fun v hv => ?_⟩
  · rw [atI_set hu]
    by_cases e : v = u
    · subst e; rw [if_pos rfl, h0]; simp
    · rw [if_neg e]
  · rw [atI_set hu]
    by_cases e : v = u
    · subst e; rw [if_pos rfl, h0]; simp
    · rw [if_neg e]
theorem start_ok {ts : List TaskD} {S F : List Int} (h : LifeOK ts S F) {u : Nat} (hu : u < ts.length) (h0 : atI S u = 0) (hf : frv ts S u = true) : LifeOK ts (S.set u 1) F := by
  have hs : u < S.length := by rw [h.sl]; exact hu
  refine ok_moved h (by simp) (by rw [(stand_set01 hs h0).1, (stand_set01 hs h0).2]; exact h.whole) fun v => ?_
  rw [atI_set hs]
  by_cases e : v = u
  · subst e
    rw [if_pos rfl]
    refine Or.inr ⟨Or.inl h0, Or.inr (Or.inr ⟨rfl, fun t ht => ?_⟩)⟩
    unfold frv at hf
    rw [ht] at hf
    exact hf
  · exact Or.inl (if_neg e)
theorem cancel_at (S : List Int) (v : Nat) : atI (putL S (standL S [0, 1]) 5) v = if v < S.length ∧ (atI S v = 0 ∨ atI S v = 1) then 5 else atI S v := by
  rw [putL_at (fun x hx => (stand_mem.1 hx).1)]
  by_cases h : v ∈ standL S [0, 1]
  · rw [if_pos h, if_pos (by have := stand_mem.1 h; simpa using this)]
  · rw [if_neg h, if_neg (fun q => h (stand_mem.2 (by simpa using q)))]
theorem cancel_none (S : List Int) : standL (putL S (standL S [0, 1]) 5) [0, 1] = [] ∧ standL (putL S (standL S [0, 1]) 5) [0] = [] := by
  have hn : ∀ v, v < S.length → atI (putL S (standL S [0, 1]) 5) v ≠ 0 ∧ atI (putL S (standL S [0, 1]) 5) v ≠ 1 := fun v hv => by
    rw [cancel_at]
    by_cases h : v < S.length ∧ (atI S v = 0 ∨ atI S v = 1)
    · rw [if_pos h]; decide
    · rw [if_neg h]; exact ⟨fun q => h ⟨hv, Or.inl q⟩, fun q => h ⟨hv, Or.inr q⟩⟩
  constructor
  · refine List.eq_nil_iff_forall_not_mem.2 fun v hv => ?_
    have := stand_mem.1 hv
    rw [putL_len] at this
    have h2 := hn v this.1
    simp at this
    omega
  · refine List.eq_nil_iff_forall_not_mem.2 fun v hv => ?_
    have := stand_mem.1 hv
    rw [putL_len] at this
    have h2 := hn v this.1
    simp at this
    omega
theorem cancel_ok {ts : List TaskD} {S F : List Int} (h : LifeOK ts S F) : LifeOK ts (putL S (standL S [0, 1]) 5) F := by
  refine ok_moved h (putL_len _ _ _) (Or.inr (cancel_none S).1) fun v => ?_
  rw [cancel_at]
  by_cases q : v < S.length ∧ (atI S v = 0 ∨ atI S v = 1)
  · rw [if_pos q]; exact Or.inr ⟨q.2, Or.inr (Or.inl rfl)⟩
  · rw [if_neg q]; exact Or.inl rfl
theorem set_back {S : List Int} {u : Nat} (hu : u < S.length) (h0 : atI S u = 0) : (S.set u 1).set u 0 = S ∧ S.set u 1 ≠ S := by
  constructor
  · rw [List.set_set]
    refine List.ext_getElem? fun i => ?_
    rw [List.getElem?_set]
    by_cases e : u = i
    · subst e; rw [if_pos rfl, if_pos hu, atI_lt hu, h0]
    · rw [if_neg e]
  · intro e
    have := atI_set (S := S) (v := u) (u := u) (x := 1) hu
    rw [e, if_pos rfl, h0] at this
    cases this
theorem start_zero {f : FlowD} {b : Bool} {S : List Int} {v : Int} (h : startE f b S v = 0) : lifeE f b = 0 ∧ ∃ u : Nat, v = (u : Int) ∧ u < f.tasks.length ∧ atI S u = 0 ∧ frv f.tasks S u = true := by
  unfold startE at h
  by_cases h0 : tskE f b S v 0 = 0
  · rw [if_pos h0] at h
    obtain ⟨hl, u, rfl, hu, hs⟩ := tsk_zero h0
    refine ⟨hl, u, rfl, hu, hs, ?_⟩
    by_cases hf : frv f.tasks S (u : Int).toNat = true
    · simpa using hf
    · rw [if_neg hf] at h; cases h
  · rw [if_neg h0] at h; exact absurd h h0
theorem tsk_ok {f : FlowD} {S : List Int} {u : Nat} {st : Int} (hc : checkE f = 0) (hu : u < f.tasks.length) (hs : atI S u = st) : tskE f true S (u : Int) st = 0 := by
  unfold tskE
  rw [if_pos (lifeE_ok hc), if_neg (by omega), if_pos (by simpa using hs)]
end Go.Proofs.YtgejonmjmieglaaDoor.Lf

