/- Layer 7 in plain words: how long each task is from its begin on, and from all ahead of it; paths, orders, sums. No program. -/
import Derived.Test.YtkicanegjkemoaaDoorFlwPure
namespace Go.Proofs.YtkicanegjkemoaaDoor
open Dag (num num_mem num_len Ord order befL behL bef_mem beh_mem order_ord arc)
set_option linter.unusedVariables false

def wgt (t : TaskD) : Int := if t.done = true then 0 else t.wall
def wtAt (ts : List TaskD) (v : Nat) : Int := match ts[v]? with
  | some t => wgt t
  | none => 0
theorem wtAt_some {ts : List TaskD} {v : Nat} {t : TaskD} (h : ts[v]? = some t) : wtAt ts v = wgt t := by unfold wtAt; rw [h]
/-- the greatest, or 0 -/
def maxL : List Int → Int
  | [] => 0
  | x :: l => max x (maxL l)
theorem maxL_nonneg : ∀ l : List Int, 0 ≤ maxL l
  | [] => Int.le_refl _
  | x :: l => by have := maxL_nonneg l; simp only [maxL]; omega
theorem maxL_ge : ∀ {l : List Int} {x : Int}, x ∈ l → x ≤ maxL l
  | y :: l, x, h => by
    simp only [maxL]
    rcases List.mem_cons.1 h with rfl | h
    · omega
    · have := maxL_ge h; omega
theorem maxL_le : ∀ {l : List Int} {b : Int}, 0 ≤ b → (∀ x ∈ l, x ≤ b) → maxL l ≤ b
  | [], b, h, _ => h
  | y :: l, b, h, hl => by
    simp only [maxL]
    have h1 := hl y List.mem_cons_self
    have h2 := maxL_le h (fun x hx => hl x (List.mem_cons_of_mem y hx))
    omega
theorem maxL_cases : ∀ l : List Int, maxL l = 0 ∨ maxL l ∈ l
  | [] => Or.inl rfl
  | x :: l => by
    simp only [maxL]
    rcases maxL_cases l with h | h
    · by_cases hx : 0 ≤ x
      · right; rw [h, show max x 0 = x from by omega]; simp
      · left; omega
    · by_cases hx : maxL l ≤ x
      · right; rw [show max x (maxL l) = x from by omega]; simp
      · right; rw [show max x (maxL l) = maxL l from by omega]; simp [h]
theorem maxL_snoc : ∀ (l : List Int) (x : Int), maxL (l ++ [x]) = max (maxL l) x
  | [], x => by simp only [List.nil_append, maxL]; omega
  | y :: l, x => by simp only [List.cons_append, maxL, maxL_snoc l x]; omega
theorem maxL_eq {l l' : List Int} (h : ∀ x, x ∈ l ↔ x ∈ l') : maxL l = maxL l' := by
  have h1 : maxL l ≤ maxL l' := maxL_le (maxL_nonneg _) fun x hx => maxL_ge ((h x).1 hx)
  have h2 : maxL l' ≤ maxL l := maxL_le (maxL_nonneg _) fun x hx => maxL_ge ((h x).2 hx)
  omega
theorem maxL_map_le {α : Type} {f g : α → Int} : ∀ {l : List α}, (∀ x ∈ l, f x ≤ g x) → maxL (l.map f) ≤ maxL (l.map g)
  | [], _ => Int.le_refl _
  | x :: l, h => by
    simp only [List.map_cons, maxL]
    have h1 := h x (by simp)
    have h2 := maxL_map_le (f := f) (g := g) (l := l) (fun y hy => h y (by simp [hy]))
    omega

/-- steps to a fixed point -/
def fixF (step : (Nat → Int) → Nat → Int) : Nat → Nat → Int
  | 0, _ => 0
  | k + 1, v => step (fixF step k) v
theorem fix_stable {step : (Nat → Int) → Nat → Int} {R : Nat → List Nat} {m : Nat → Nat} (hs : ∀ f g v, (∀ w ∈ R v, f w = g w) → step f v = step g v) (hm : ∀ v, ∀ w ∈ R v, m w < m v) :
    ∀ k v, m v < k → fixF step k v = fixF step (k + 1) v
  | 0, v, h => absurd h (Nat.not_lt_zero _)
  | k + 1, v, h => hs _ _ _ fun w hw => fix_stable hs hm k w (by have := hm v w hw; omega)
theorem fix_step {step : (Nat → Int) → Nat → Int} {R : Nat → List Nat} {m : Nat → Nat} (hs : ∀ f g v, (∀ w ∈ R v, f w = g w) → step f v = step g v) (hm : ∀ v, ∀ w ∈ R v, m w < m v) {n v : Nat} (h : m v < n) :
    fixF step n v = step (fixF step n) v := fix_stable hs hm n v h

def upS (ts : List TaskD) (f : Nat → Int) (v : Nat) : Int := maxL ((behL (afterL ts) v).map f) + wtAt ts v
def dnS (ts : List TaskD) (f : Nat → Int) (v : Nat) : Int := maxL ((befL (afterL ts) v).map fun w => f w + wtAt ts w)
def upD (ts : List TaskD) (v : Nat) : Int := fixF (upS ts) ts.length v
def dnD (ts : List TaskD) (v : Nat) : Int := fixF (dnS ts) ts.length v
theorem upS_loc (ts : List TaskD) (f g : Nat → Int) (v : Nat) (h : ∀ w ∈ behL (afterL ts) v, f w = g w) : upS ts f v = upS ts g v := by
  unfold upS; rw [List.map_congr_left h]
theorem dnS_loc (ts : List TaskD) (f g : Nat → Int) (v : Nat) (h : ∀ w ∈ befL (afterL ts) v, f w = g w) : dnS ts f v = dnS ts g v := by
  unfold dnS; rw [List.map_congr_left fun w hw => by rw [h w hw]]
theorem upS_mono (ts : List TaskD) (f g : Nat → Int) (v : Nat) (h : ∀ w ∈ behL (afterL ts) v, f w ≤ g w) : upS ts f v ≤ upS ts g v := by
  unfold upS; have := maxL_map_le h; omega
theorem dnS_mono (ts : List TaskD) (f g : Nat → Int) (v : Nat) (h : ∀ w ∈ befL (afterL ts) v, f w ≤ g w) : dnS ts f v ≤ dnS ts g v := by
  unfold dnS
  exact maxL_map_le fun w hw => by have := h w hw; omega
theorem afterL_len (ts : List TaskD) : (afterL ts).length = ts.length := by simp [afterL]

theorem bef_beh {E : List (List Int)} {v w : Nat} (h : w ∈ behL E v) : w < E.length ∧ arc E w v = true := beh_mem.1 h
/-- where a task stands in the order -/
def posD (ts : List TaskD) (v : Nat) : Nat := (order (afterL ts)).idxOf v
section
variable {ts : List TaskD} (hf : (order (afterL ts)).length = ts.length)
include hf
theorem ord_all (v : Nat) : v ∈ order (afterL ts) ↔ v < ts.length := by
  have ho := order_ord (afterL ts)
  constructor
  · intro h; have := ho.lt v h; rwa [afterL_len] at this
  · intro h
    refine Decidable.byContradiction fun hn => ?_
    have h1 := Dag.nodup_len (l := v :: order (afterL ts)) (List.nodup_cons.2 ⟨hn, ho.nodup⟩) (fun u hu => by
      rcases List.mem_cons.1 hu with rfl | hu
      · exact h
      · have := ho.lt u hu; rwa [afterL_len] at this)
    rw [List.length_cons, hf] at h1
    omega
theorem pos_lt {v : Nat} (hv : v < ts.length) : posD ts v < ts.length := by
  have := List.idxOf_lt_length_of_mem ((ord_all hf v).2 hv)
  unfold posD; omega
theorem pos_arc {v u : Nat} (hv : v < ts.length) (hu : u ∈ befL (afterL ts) v) : posD ts u < posD ts v := by
  have ho := order_ord (afterL ts)
  have hvm := (ord_all hf v).2 hv
  have hl := List.idxOf_lt_length_of_mem hvm
  have := ho.behind (posD ts v) v (by unfold posD; rw [List.getElem?_eq_getElem hl, List.getElem_idxOf]) u hu
  obtain ⟨j, hj⟩ := List.getElem?_of_mem this
  rw [List.getElem?_take] at hj
  split at hj
  · rename_i hjl
    have h2 : j = posD ts u := by
      unfold posD
      have hjl2 := (List.getElem?_eq_some_iff.1 hj).1
      have e : (order (afterL ts))[j] = u := (List.getElem?_eq_some_iff.1 hj).2
      rw [← e, ho.nodup.idxOf_getElem]
    omega
  · cases hj
theorem dn_arc {v w : Nat} (hw : w ∈ befL (afterL ts) v) : v < ts.length ∧ w < ts.length ∧ posD ts w < posD ts v := by
  obtain ⟨h1, h2⟩ := bef_mem.1 hw
  have hv := Dag.arc_lt h2
  rw [afterL_len] at h1 hv
  exact ⟨hv, h1, pos_arc hf hv hw⟩
theorem dnD_step {v : Nat} (hv : v < ts.length) : dnD ts v = dnS ts (dnD ts) v :=
  fix_step (R := befL (afterL ts)) (m := posD ts) (dnS_loc ts) (fun v w hw => (dn_arc hf hw).2.2) (pos_lt hf hv)
end
def upM (ts : List TaskD) (v : Nat) : Nat := ts.length - 1 - posD ts v
section
variable {ts : List TaskD} (hf : (order (afterL ts)).length = ts.length) (hV : Dag.Valid (afterL ts))
include hf hV
theorem up_arc {v w : Nat} (hw : w ∈ behL (afterL ts) v) : v < ts.length ∧ w < ts.length ∧ upM ts w < upM ts v := by
  obtain ⟨h1, h2⟩ := bef_beh hw
  have hv := hV.arc h2
  rw [afterL_len] at h1 hv
  have hb : v ∈ befL (afterL ts) w := bef_mem.2 ⟨by rw [afterL_len]; exact hv, h2⟩
  have h3 := pos_arc hf h1 hb
  have h4 := pos_lt hf h1
  unfold upM
  exact ⟨hv, h1, by omega⟩
theorem upD_step {v : Nat} (hv : v < ts.length) : upD ts v = upS ts (upD ts) v :=
  fix_step (R := behL (afterL ts)) (m := upM ts) (upS_loc ts) (fun v w hw => (up_arc hf hV hw).2.2) (by unfold upM; omega)
end
/-- weights are times -/
def Wts (ts : List TaskD) : Prop := ∀ v, 0 ≤ wtAt ts v ∧ wtAt ts v ≤ maxT
section
variable {ts : List TaskD} (hf : (order (afterL ts)).length = ts.length) (hV : Dag.Valid (afterL ts)) (hW : Wts ts)
include hf hV hW
theorem upD_bd : ∀ k v, v < ts.length → upM ts v < k → 0 ≤ upD ts v ∧ upD ts v ≤ k * maxT
  | 0, v, _, h => absurd h (Nat.not_lt_zero _)
  | k + 1, v, hv, h => by
    rw [upD_step hf hV hv]
    unfold upS
    have h1 := hW v
    have h2 := maxL_nonneg ((behL (afterL ts) v).map (upD ts))
    have h3 : maxL ((behL (afterL ts) v).map (upD ts)) ≤ k * maxT := maxL_le (by unfold maxT; omega) fun x hx => by
      obtain ⟨w, hw, rfl⟩ := List.mem_map.1 hx
      obtain ⟨a, b, c⟩ := up_arc hf hV hw
      exact (upD_bd k w b (by omega)).2
    have e : ((k + 1 : Nat) : Int) * maxT = k * maxT + maxT := by rw [Int.natCast_add, Int.add_mul]; simp
    rw [e]
    omega
end
section
variable {ts : List TaskD} (hf : (order (afterL ts)).length = ts.length) (hW : Wts ts)
include hf hW
theorem dnD_bd : ∀ k v, v < ts.length → posD ts v < k → 0 ≤ dnD ts v ∧ dnD ts v ≤ k * maxT
  | 0, v, _, h => absurd h (Nat.not_lt_zero _)
  | k + 1, v, hv, h => by
    rw [dnD_step hf hv]
    unfold dnS
    have e : ((k + 1 : Nat) : Int) * maxT = k * maxT + maxT := by rw [Int.natCast_add, Int.add_mul]; simp
    refine ⟨maxL_nonneg _, maxL_le (by unfold maxT; omega) fun x hx => ?_⟩
    obtain ⟨w, hw, rfl⟩ := List.mem_map.1 hx
    obtain ⟨a, b, c⟩ := dn_arc hf hw
    have h1 := hW w
    have h2 := (dnD_bd k w b (by omega)).2
    rw [e]
    omega
end

/-- in place, one after another, round after round -/
def atL (xs : List Int) (i : Nat) : Int := (xs[i]?).getD 0
theorem atL_some {xs : List Int} {i : Nat} {x : Int} (h : xs[i]? = some x) : atL xs i = x := by unfold atL; rw [h]; rfl
structure Rnd (U : Nat → Int) (m : Nat → Nat) (n r v : Nat) (xs : List Int) : Prop where
  len : xs.length = n
  lo : ∀ i x, xs[i]? = some x → 0 ≤ x ∧ x ≤ U i
  eq : ∀ i x, xs[i]? = some x → (m i < r ∨ (i < v ∧ m i < r + 1)) → x = U i
theorem Rnd.start {U : Nat → Int} {m : Nat → Nat} {n : Nat} (h0 : ∀ i, i < n → 0 ≤ U i) : Rnd U m n 0 0 (List.replicate n 0) :=
  ⟨by simp, fun i x h => by
    have hi := (List.getElem?_eq_some_iff.1 h).1
    rw [List.length_replicate] at hi
    rw [List.getElem?_replicate, if_pos hi] at h; injection h with h; subst h
    exact ⟨Int.le_refl _, h0 i hi⟩, fun i x _ h => by omega⟩
theorem Rnd.next {U : Nat → Int} {m : Nat → Nat} {n r v : Nat} {xs : List Int} {step : (Nat → Int) → Nat → Int} {R : Nat → List Nat} (h : Rnd U m n r v xs) (hv : v < n) (hU : U v = step U v) (hloc : ∀ f g v, (∀ w ∈ R v, f w = g w) → step f v = step g v)
    (hmono : ∀ f g v, (∀ w ∈ R v, f w ≤ g w) → step f v ≤ step g v) (hR : ∀ w ∈ R v, w < n ∧ m w < m v) (h0 : 0 ≤ step (atL xs) v) : Rnd U m n r (v + 1) (xs.set v (step (atL xs) v)) := by
  have hat : ∀ w, w < n → ∃ x, xs[w]? = some x := fun w hw => ⟨_, List.getElem?_eq_getElem (by rw [h.len]; exact hw)⟩
  have hle : step (atL xs) v ≤ U v := by
    rw [hU]
    refine hmono _ _ _ fun w hw => ?_
    obtain ⟨x, hx⟩ := hat w (hR w hw).1
    rw [atL_some hx]; exact (h.lo w x hx).2
  refine ⟨by rw [List.length_set, h.len], fun i x hx => ?_, fun i x hx hc => ?_⟩
  · by_cases e : v = i
    · subst e
      rw [List.getElem?_set_self (by rw [h.len]; exact hv)] at hx; injection hx with hx; subst hx
      exact ⟨h0, hle⟩
    · rw [List.getElem?_set_ne e] at hx; exact h.lo i x hx
  · by_cases e : v = i
    · subst e
      rw [List.getElem?_set_self (by rw [h.len]; exact hv)] at hx; injection hx with hx; subst hx
      rw [hU]
      refine hloc _ _ _ fun w hw => ?_
      obtain ⟨y, hy⟩ := hat w (hR w hw).1
      rw [atL_some hy]
      have := (hR w hw).2
      exact h.eq w y hy (Or.inl (by omega))
    · rw [List.getElem?_set_ne e] at hx
      exact h.eq i x hx (by omega)
theorem Rnd.round {U : Nat → Int} {m : Nat → Nat} {n r : Nat} {xs : List Int} (h : Rnd U m n r n xs) : Rnd U m n (r + 1) 0 xs :=
  ⟨h.len, h.lo, fun i x hx hc => h.eq i x hx (by
    have hi := (List.getElem?_eq_some_iff.1 hx).1
    rw [h.len] at hi
    omega)⟩
theorem Rnd.done {U : Nat → Int} {m : Nat → Nat} {n : Nat} {xs : List Int} (h : Rnd U m n n 0 xs) (hm : ∀ i, i < n → m i < n) : xs = (List.range n).map U := by
  apply List.ext_getElem?
  intro i
  by_cases hi : i < n
  · obtain ⟨x, hx⟩ : ∃ x, xs[i]? = some x := ⟨_, List.getElem?_eq_getElem (by rw [h.len]; exact hi)⟩
    rw [hx, List.getElem?_map, List.getElem?_range hi, h.eq i x hx (Or.inl (hm i hi))]; rfl
  · rw [List.getElem?_eq_none (by rw [h.len]; omega), List.getElem?_eq_none (by simp; omega)]

/-- the numbers, or why there are none -/
def okU (n : Nat) (U : Nat → Int) : Bool := (List.range n).all fun v => decide (U v ≤ maxT)
def numsU (n : Nat) (U : Nat → Int) : List Int := (List.range n).map U
def rankE (f : FlowD) (U : Nat → Int) : Int := if checkE f ≠ 0 then checkE f else if okU f.tasks.length U = true then 0 else 6
def rankV (f : FlowD) (U : Nat → Int) : List Int := if rankE f U = 0 then numsU f.tasks.length U else []
theorem okU_iff {n : Nat} {U : Nat → Int} : okU n U = true ↔ ∀ v, v < n → U v ≤ maxT := by
  unfold okU; rw [List.all_eq_true]
  exact ⟨fun h v hv => of_decide_eq_true (h v (List.mem_range.2 hv)), fun h v hv => decide_eq_true (h v (List.mem_range.1 hv))⟩
/-- the longest way's length -/
def lengthV (f : FlowD) : Int := maxL (rankV f (upD f.tasks))
end Go.Proofs.YtkicanegjkemoaaDoor

