/- Layer 13, in plain words: how the tasks of a workflow stand, and who is dead. No program. -/
import Derived.Test.YtgejonmjmieglaaDoorMFlw
import Derived.Test.YtgejonmjmieglaaDoorMDag
namespace Go.Proofs.YtgejonmjmieglaaDoor
open Dag (arc Plus num row order Valid newE)
set_option linter.unusedVariables false

def atI (S : List Int) (v : Nat) : Int := S[v]?.getD (-1)
theorem atI_some {S : List Int} {v : Nat} {x : Int} (h : S[v]? = some x) : atI S v = x := by simp [atI, h]
theorem atI_lt {S : List Int} {v : Nat} (h : v < S.length) : S[v]? = some (atI S v) := by simp [atI, h]
theorem atI_set {S : List Int} {v u : Nat} {x : Int} (h : v < S.length) : atI (S.set v x) u = if u = v then x else atI S u := by
  unfold atI
  rw [List.getElem?_set]
  by_cases e : v = u
  · subst e; simp [h]
  · rw [if_neg e, if_neg (fun q => e q.symm)]
/-- whether all of these have succeeded -/
def freeD (S : List Int) (l : List Int) : Bool := l.all fun u => atI S u.toNat == 2

/-! links: what is done waits for nothing -/
def lnkT (t : TaskD) : List Int := if t.done = true then [] else t.after
def linkE (ts : List TaskD) : List (List Int) := ts.map lnkT
def linkK (ts : List TaskD) (k : Nat) : List (List Int) := (ts.take k).map lnkT ++ (ts.drop k).map TaskD.after
theorem linkK_zero (ts : List TaskD) : linkK ts 0 = afterL ts := by simp [linkK, afterL]
theorem linkK_all (ts : List TaskD) : linkK ts ts.length = linkE ts := by simp [linkK, linkE]
theorem linkK_len (ts : List TaskD) (k : Nat) : (linkK ts k).length = ts.length := by simp [linkK]; omega
theorem link_len (ts : List TaskD) : (linkE ts).length = ts.length := by simp [linkE]
theorem link_get {ts : List TaskD} {k : Nat} {t : TaskD} (h : ts[k]? = some t) : (linkE ts)[k]? = some (lnkT t) := by simp [linkE, h]
theorem linkK_next {ts : List TaskD} {k : Nat} {t : TaskD} (h : ts[k]? = some t) : linkK ts (k + 1) = (ts.take k).map lnkT ++ lnkT t :: (ts.drop (k + 1)).map TaskD.after := by
  unfold linkK
  rw [List.take_add_one, h]; simp
theorem linkK_this {ts : List TaskD} {k : Nat} {t : TaskD} (h : ts[k]? = some t) : linkK ts k = (ts.take k).map lnkT ++ t.after :: (ts.drop (k + 1)).map TaskD.after := by
  obtain ⟨hlt, e⟩ := List.getElem?_eq_some_iff.1 h
  unfold linkK
  rw [List.drop_eq_getElem_cons hlt, e, List.map_cons]
theorem linkK_done {ts : List TaskD} {k : Nat} {t : TaskD} (h : ts[k]? = some t) (hd : t.done = true) : (linkK ts k).set k [] = linkK ts (k + 1) := by
  have hlt := (List.getElem?_eq_some_iff.1 h).1
  have hl : ((ts.take k).map lnkT).length = k := by simp; omega
  rw [linkK_next h, linkK_this h, List.set_append_right _ _ (by omega), hl, Nat.sub_self, List.set_cons_zero]
  simp [lnkT, hd]
theorem linkK_not {ts : List TaskD} {k : Nat} {t : TaskD} (h : ts[k]? = some t) (hd : t.done = false) : linkK ts k = linkK ts (k + 1) := by
  rw [linkK_next h, linkK_this h]
  simp [lnkT, hd]
theorem arc_link {ts : List TaskD} {v u : Nat} (h : arc (linkE ts) v u = true) : ∃ t, ts[v]? = some t ∧ t.done = false ∧ (u : Int) ∈ t.after := by
  have hv := Dag.arc_lt h
  rw [link_len] at hv
  refine ⟨ts[v], List.getElem?_eq_getElem hv, ?_⟩
  rw [Dag.arc_iff, Dag.row_some (link_get (List.getElem?_eq_getElem hv))] at h
  unfold lnkT at h
  cases hd : (ts[v]).done
  · rw [hd] at h; exact ⟨rfl, by simpa using h⟩
  · rw [hd] at h; simp at h
theorem arc_of {ts : List TaskD} {v u : Nat} {t : TaskD} (h : ts[v]? = some t) (hd : t.done = false) (hu : (u : Int) ∈ t.after) : arc (linkE ts) v u = true := by
  rw [Dag.arc_iff, Dag.row_some (link_get h)]
  unfold lnkT
  rw [hd]; simpa using hu
theorem link_sub {ts : List TaskD} {v u : Nat} (h : arc (linkE ts) v u = true) : arc (afterL ts) v u = true := by
  obtain ⟨t, ht, _, hu⟩ := arc_link h
  rw [Dag.arc_iff, Dag.row_some (after_get ht)]
  exact hu
theorem link_valid {ts : List TaskD} (h : Valid (afterL ts)) : Valid (linkE ts) := by
  intro l hl x hx
  obtain ⟨t, ht, rfl⟩ := List.mem_map.1 hl
  unfold lnkT at hx
  split at hx
  · cases hx
  · have := h t.after (List.mem_map.2 ⟨t, ht, rfl⟩) x hx
    rw [after_len] at this
    rwa [link_len]

/-- what a workflow that may be is like -/
structure FlwOK (f : FlowD) : Prop where
  len : f.tasks.length ≤ 4096
  retry : ∀ t ∈ f.tasks, 0 ≤ t.retry ∧ t.retry ≤ 20
  valid : Valid (afterL f.tasks)
  full : (order (afterL f.tasks)).length = f.tasks.length
theorem flw_ok {f : FlowD} (hc : checkE f = 0) : FlwOK f := by
  unfold checkE at hc
  split at hc
  · cases hc
  split at hc
  · cases hc
  rename_i hn
  split at hc
  · cases hc
  split at hc
  · cases hc
  rename_i hl
  split at hc
  · cases hc
  have hn' : numbersOK f = true := by simpa using hn
  have hr : ∀ t ∈ f.tasks, 0 ≤ t.retry ∧ t.retry ≤ 20 := by
    intro t ht
    unfold numbersOK at hn'
    rw [Bool.and_eq_true, List.all_eq_true] at hn'
    have := hn'.1 t ht
    unfold numsOK inR at this
    simp only [Bool.and_eq_true, decide_eq_true_eq] at this
    omega
  unfold newE at hc
  cases hok : Dag.okAll (afterL f.tasks) with
  | false => rw [hok] at hc; simp at hc
  | true =>
    rw [hok] at hc
    simp only [if_true] at hc
    have hle := (Dag.order_ord (afterL f.tasks)).len
    rw [after_len] at hle hc
    refine ⟨by omega, hr, Dag.okAll_iff.1 hok, ?_⟩
    split at hc
    · cases hc
    · omega
/-- in a full order what is waited for stands ahead -/
theorem full_rank {E : List (List Int)} (hf : (order E).length = E.length) (hE : Valid E) {v u : Nat} (h : arc E v u = true) : (order E).idxOf u < (order E).idxOf v := by
  have hor := Dag.order_ord E
  have hv := Dag.arc_lt h
  have hu := hE.arc h
  have hall : ∀ v, v < E.length → v ∈ order E := fun v hv => by
    by_cases q : v ∈ order E
    · exact q
    · exfalso
      have h1 : (v :: order E).Nodup := List.nodup_cons.2 ⟨q, hor.nodup⟩
      have h2 := Dag.nodup_len h1 (n := E.length) fun u hu => by
        rcases List.mem_cons.1 hu with e | e
        · rw [e]; exact hv
        · exact hor.lt u e
      simp at h2; omega
  have hi := List.idxOf_lt_length_of_mem (hall v hv)
  have hg : (order E)[(order E).idxOf v]? = some v := by rw [List.getElem?_eq_getElem hi, List.getElem_idxOf hi]
  have hm := hor.behind _ v hg u (Dag.bef_mem.2 ⟨hu, h⟩)
  obtain ⟨j, hj⟩ := List.mem_iff_getElem?.1 hm
  rw [List.getElem?_take] at hj
  split at hj
  · rename_i hji
    obtain ⟨hjl, e⟩ := List.getElem?_eq_some_iff.1 hj
    have := hor.nodup.idxOf_getElem j hjl
    rw [e] at this
    omega
  · cases hj
theorem FlwOK.new {f : FlowD} (h : FlwOK f) : newE (linkE f.tasks) = 0 := by
  refine Dag.newE_ok (Dag.okAll_iff.2 (link_valid h.valid)) ?_
  rw [Dag.order_full (fun v => (order (afterL f.tasks)).idxOf v) fun v u ha _ => full_rank (by rw [h.full, after_len]) h.valid (link_sub ha)]
  omega
theorem FlwOK.irr {f : FlowD} (h : FlwOK f) (v : Nat) : ¬ Plus (arc (linkE f.tasks)) v v := fun hp => by
  have key : ∀ u, Plus (arc (linkE f.tasks)) v u → (order (afterL f.tasks)).idxOf u < (order (afterL f.tasks)).idxOf v := fun u hu =>
    hu.ind (fun u h1 => full_rank (by rw [h.full, after_len]) h.valid (link_sub h1)) fun x u _ hm h1 => by
      have := full_rank (by rw [h.full, after_len]) h.valid (link_sub h1)
      omega
  have := key v hp
  omega

/-! how they stand -/
/-- what is dead: it waits, over what was not done, for one that failed -/
def DeadP (ts : List TaskD) (S : List Int) (v : Nat) : Prop := ∃ u, u < ts.length ∧ atI S u = 3 ∧ Plus (arc (linkE ts)) v u
theorem DeadP.task {ts : List TaskD} {S : List Int} {v : Nat} (h : DeadP ts S v) : ∃ t, ts[v]? = some t ∧ t.done = false := by
  obtain ⟨u, _, _, hp⟩ := h
  have : ∃ x, arc (linkE ts) v x = true := hp.ind (M := fun _ => ∃ x, arc (linkE ts) v x = true) (fun x h1 => ⟨x, h1⟩) fun x y _ hm _ => hm
  obtain ⟨x, hx⟩ := this
  obtain ⟨t, ht, hd, _⟩ := arc_link hx
  exact ⟨t, ht, hd⟩
/-- how often one that stands so may have failed -/
def mayB (t : TaskD) (s k : Int) : Bool := if t.done = true then k == 0 else if s == 3 then k == t.retry + 1 else decide (0 ≤ k) && decide (k ≤ t.retry)
def alwB (t : TaskD) (fr : Bool) (s k : Int) : Bool := mayB t s k && (if s = 0 ∨ s = 4 ∨ s = 5 then !t.done else if s = 1 ∨ s = 3 then !t.done && fr else if s = 2 then t.done || fr else false)
structure OkT (t : TaskD) (fr : Bool) (dd : Prop) (s k : Int) : Prop where
  s0 : 0 ≤ s ∧ s ≤ 5
  k0 : 0 ≤ k ∧ k ≤ t.retry + 1
  fl : s = 3 ↔ k = t.retry + 1
  dn : t.done = true → s = 2 ∧ k = 0
  fr : t.done = false → 1 ≤ s → s ≤ 3 → fr = true
  dd : s = 4 ↔ dd
theorem alw_ok {t : TaskD} {fr : Bool} {dd : Prop} {s k : Int} (hr : 0 ≤ t.retry) (hd : dd → t.done = false) : OkT t fr dd s k ↔ alwB t fr s k = true ∧ (s = 4 ↔ dd) := by
  unfold alwB mayB
  constructor
  · rintro ⟨h1, h2, h3, h4, h5, h6⟩
    refine ⟨?_, h6⟩
    cases hdn : t.done
    · have h5' := h5 hdn
      simp only [Bool.false_eq_true, if_false, Bool.not_false, Bool.true_and, Bool.false_or, Bool.and_eq_true]
      refine ⟨?_, ?_⟩
      · by_cases e : s = 3
        · simp [e]; exact h3.1 e
        · have : k ≠ t.retry + 1 := fun q => e (h3.2 q)
          simp [e]; omega
      · by_cases e1 : s = 0 ∨ s = 4 ∨ s = 5
        · rw [if_pos e1]
        · rw [if_neg e1]
          by_cases e2 : s = 1 ∨ s = 3
          · rw [if_pos e2]; exact h5' (by omega) (by omega)
          · rw [if_neg e2]
            have : s = 2 := by omega
            rw [if_pos this]; exact h5' (by omega) (by omega)
    · obtain ⟨rfl, rfl⟩ := h4 hdn
      simp
  · rintro ⟨h1, h2⟩
    cases hdn : t.done
    · rw [hdn] at h1
      simp only [Bool.false_eq_true, if_false, Bool.not_false, Bool.true_and, Bool.false_or, Bool.and_eq_true] at h1
      obtain ⟨h1, h3⟩ := h1
      have hs : 0 ≤ s ∧ s ≤ 5 ∧ (1 ≤ s → s ≤ 3 → fr = true) := by
        by_cases e1 : s = 0 ∨ s = 4 ∨ s = 5
        · omega
        · rw [if_neg e1] at h3
          by_cases e2 : s = 1 ∨ s = 3
          · rw [if_pos e2] at h3; exact ⟨by omega, by omega, fun _ _ => h3⟩
          · rw [if_neg e2] at h3
            by_cases e3 : s = 2
            · rw [if_pos e3] at h3; exact ⟨by omega, by omega, fun _ _ => h3⟩
            · rw [if_neg e3] at h3; cases h3
      by_cases e : s = 3
      · simp [e] at h1
        exact ⟨⟨hs.1, hs.2.1⟩, by omega, by omega, fun q => (by rw [hdn] at q; cases q), fun _ => hs.2.2, h2⟩
      · simp [e] at h1
        exact ⟨⟨hs.1, hs.2.1⟩, by omega, by omega, fun q => (by rw [hdn] at q; cases q), fun _ => hs.2.2, h2⟩
    · rw [hdn] at h1
      simp only [if_true, Bool.not_true, Bool.false_and, Bool.true_or, Bool.and_eq_true, beq_iff_eq] at h1
      obtain ⟨h1, h3⟩ := h1
      have hs : s = 2 := by
        by_cases e1 : s = 0 ∨ s = 4 ∨ s = 5
        · rw [if_pos e1] at h3; cases h3
        · rw [if_neg e1] at h3
          by_cases e2 : s = 1 ∨ s = 3
          · rw [if_pos e2] at h3; cases h3
          · rw [if_neg e2] at h3
            by_cases e3 : s = 2
            · exact e3
            · rw [if_neg e3] at h3; cases h3
      exact ⟨by omega, by omega, by omega, fun _ => ⟨hs, h1⟩, fun q => (by rw [hdn] at q; cases q), h2⟩
/-- the places of those that stand so -/
def standL (S : List Int) (l : List Int) : List Nat := (List.range S.length).filter fun v => decide (atI S v ∈ l)
theorem stand_mem {S : List Int} {l : List Int} {v : Nat} : v ∈ standL S l ↔ v < S.length ∧ atI S v ∈ l := by simp [standL]
structure LifeOK (ts : List TaskD) (S F : List Int) : Prop where
  sl : S.length = ts.length
  fl : F.length = ts.length
  task : ∀ v t, ts[v]? = some t → OkT t (freeD S t.after) (DeadP ts S v) (atI S v) (atI F v)
  whole : standL S [5] = [] ∨ standL S [0, 1] = []
theorem filter_ext_iff {n : Nat} {p q : Nat → Bool} : (List.range n).filter p = (List.range n).filter q ↔ ∀ v, v < n → (p v = true ↔ q v = true) := by
  constructor
  · intro h v hv
    have h1 : v ∈ (List.range n).filter p ↔ v ∈ (List.range n).filter q := by rw [h]
    simpa [hv] using h1
  · intro h
    apply List.filter_congr
    intro v hv
    rw [Bool.eq_iff_iff]
    exact h v (by simpa using hv)
/-- the program's way to ask -/
theorem life_iff {f : FlowD} (hf : FlwOK f) {S F : List Int} (hs : S.length = f.tasks.length) (hl : F.length = f.tasks.length) {p : Nat → Bool} (hp : ∀ v, v < f.tasks.length → (p v = true ↔ DeadP f.tasks S v)) :
    LifeOK f.tasks S F ↔ (∀ v t, f.tasks[v]? = some t → alwB t (freeD S t.after) (atI S v) (atI F v) = true) ∧ standL S [4] = (List.range f.tasks.length).filter p ∧ (standL S [5] = [] ∨ standL S [0, 1] = []) := by
  have hst : standL S [4] = (List.range f.tasks.length).filter p ↔ ∀ v, v < f.tasks.length → (atI S v = 4 ↔ DeadP f.tasks S v) := by
    unfold standL
    rw [hs, filter_ext_iff]
    constructor
    · intro h v hv; rw [← hp v hv, ← h v hv]; simp
    · intro h v hv; rw [hp v hv, ← h v hv]; simp
  rw [hst]
  have hdd : ∀ v t, f.tasks[v]? = some t → DeadP f.tasks S v → t.done = false := fun v t ht hd => by
    obtain ⟨t', ht', hd'⟩ := hd.task
    rw [ht] at ht'; injection ht' with e; subst e; exact hd'
  constructor
  · rintro ⟨_, _, h3, h4⟩
    refine ⟨fun v t ht => ((alw_ok (hf.retry t (List.mem_of_getElem? ht)).1 (hdd v t ht)).1 (h3 v t ht)).1, fun v hv => (h3 v _ (List.getElem?_eq_getElem hv)).dd, h4⟩
  · rintro ⟨h1, h2, h3⟩
    exact ⟨hs, hl, fun v t ht => (alw_ok (hf.retry t (List.mem_of_getElem? ht)).1 (hdd v t ht)).2 ⟨h1 v t ht, h2 v (List.getElem?_eq_some_iff.1 ht).1⟩, h3⟩
def lifeE (f : FlowD) (b : Bool) : Int := if checkE f = 0 then (if b = true then 0 else 2) else checkE f
theorem lifeE_bad {f : FlowD} {b : Bool} (h : checkE f ≠ 0) : lifeE f b = checkE f := by unfold lifeE; rw [if_neg h]
theorem lifeE_ok {f : FlowD} (h : checkE f = 0) : lifeE f true = 0 := by unfold lifeE; rw [if_pos h, if_pos rfl]
theorem lifeE_no {f : FlowD} (h : checkE f = 0) : lifeE f false = 2 := by unfold lifeE; rw [if_pos h]; rfl
/-- these, in that state -/
def putL (S : List Int) (l : List Nat) (s : Int) : List Int := l.foldl (fun S v => S.set v s) S
theorem putL_len (S : List Int) (l : List Nat) (s : Int) : (putL S l s).length = S.length := by
  unfold putL
  induction l generalizing S with
  | nil => rfl
  | cons v l ih => rw [List.foldl_cons, ih]; simp
theorem putL_snoc (S : List Int) (l : List Nat) (v : Nat) (s : Int) : putL S (l ++ [v]) s = (putL S l s).set v s := by simp [putL]
theorem putL_at {S : List Int} {l : List Nat} {s : Int} {u : Nat} (h : ∀ v ∈ l, v < S.length) : atI (putL S l s) u = if u ∈ l then s else atI S u := by
  induction l generalizing S with
  | nil => simp [putL]
  | cons v l ih =>
    have e : putL S (v :: l) s = putL (S.set v s) l s := by simp [putL]
    have hv := h v (by simp)
    rw [e, ih (fun x hx => by simpa using h x (by simp [hx])), atI_set hv]
    by_cases h1 : u ∈ l
    · simp [h1]
    · by_cases h2 : u = v <;> simp [h1, h2]
theorem list_ext_atI {S T : List Int} (hl : S.length = T.length) (h : ∀ v, v < S.length → atI S v = atI T v) : S = T := by
  apply List.ext_getElem? 
  intro v
  rcases Nat.lt_or_ge v S.length with hv | hv
  · rw [atI_lt hv, atI_lt (by omega : v < T.length), h v hv]
  · rw [List.getElem?_eq_none hv, List.getElem?_eq_none (by omega)]
end Go.Proofs.YtgejonmjmieglaaDoor

