/- Layer 7: of a longest way: what lies ahead and behind is never more than the length; its tasks take the length; all together take no less. No program. -/
import Derived.Test.YtaiolhanbjndcaaDoorMBst
import Derived.Test.YtaiolhanbjndcaaDoorMLen
import Derived.Test.YtaiolhanbjndcaaDoorMSum
namespace Go.Proofs.YtaiolhanbjndcaaDoor
open Go.RowKit
open Dag (behL befL beh_mem bef_mem arc order num)
set_option linter.unusedVariables false
set_option linter.unusedSectionVars false
section
variable {ts : List TaskD} (hf : (order (afterL ts)).length = ts.length) (hV : Dag.Valid (afterL ts)) (hW : Wts ts)
include hf hV hW
theorem up_dn : ∀ k v, v < ts.length → posD ts v < k → upD ts v + dnD ts v ≤ maxL ((List.range ts.length).map (upD ts))
  | 0, v, _, h => absurd h (Nat.not_lt_zero _)
  | k + 1, v, hv, h => by
    have hup : upD ts v ≤ maxL ((List.range ts.length).map (upD ts)) := maxL_ge (List.mem_map.2 ⟨v, List.mem_range.2 hv, rfl⟩)
    rw [dnD_step hf hv]
    unfold dnS
    rcases maxL_cases ((befL (afterL ts) v).map fun w => dnD ts w + wtAt ts w) with e | e
    · rw [e]; omega
    · obtain ⟨u, hu, e2⟩ := List.mem_map.1 e
      rw [← e2]
      have h1 := up_ge hf hV hu
      have h2 := pos_arc hf hv hu
      have h3 : u < ts.length := by have := (bef_mem.1 hu).1; rwa [afterL_len] at this
      have h4 := up_dn k u h3 (by omega)
      omega
end
theorem down_ok {f : FlowD} (h : rankE f (upD f.tasks) = 0) : rankE f (dnD f.tasks) = 0 ∧ ∀ v, v < f.tasks.length → upD f.tasks v + dnD f.tasks v ≤ lengthV f := by
  obtain ⟨hc, ho⟩ := rank_yes h
  obtain ⟨hf, hV, hW⟩ := chk_facts hc
  have key : ∀ v, v < f.tasks.length → upD f.tasks v + dnD f.tasks v ≤ lengthV f := fun v hv => by
    rw [lenV_yes h]
    exact up_dn hf hV hW _ v hv (Nat.lt_succ_self _)
  refine ⟨?_, key⟩
  unfold rankE
  rw [hc, if_neg (fun e => e rfl)]
  have : okU f.tasks.length (dnD f.tasks) = true := okU_iff.2 fun v hv => by
    have h1 := key v hv
    have h2 := (upD_bd hf hV hW _ v hv (Nat.lt_succ_self _)).1
    have h3 := (lenV_bd f).2
    omega
  rw [this]; rfl
theorem bst_top (U : Nat → Int) : ∀ (T : List Nat) (k b : Nat), k ≤ T.length → bstT U (T.take k) = some b → ∀ x ∈ T.take k, U x ≤ U b
  | T, 0, b, _, h => by simp [bstT] at h
  | T, k + 1, b, hk, h => by
    obtain ⟨y, hy⟩ : ∃ y, T[k]? = some y := ⟨_, List.getElem?_eq_getElem (by omega)⟩
    rw [bstT_take U hy] at h
    intro x hx
    rw [List.take_add_one, hy, Option.toList_some] at hx
    cases e : bstT U (T.take k) with
    | none =>
      rw [e] at h
      have hb : y = b := by simpa [bstS] using h
      by_cases h0 : T.take k = []
      · rw [h0] at hx
        simp at hx
        rw [hx, hb]; exact Int.le_refl _
      · obtain ⟨z, hz, _⟩ := bstT_nil (U := U) h0
        rw [e] at hz; cases hz
    | some b0 =>
      have ih := bst_top U T k b0 (by omega) e
      rw [e] at h
      simp only [bstS] at h
      rcases List.mem_append.1 hx with q | q
      · have := ih x q
        split at h <;> injection h with h <;> subst h <;> omega
      · simp at q
        subst q
        split at h <;> injection h with h <;> subst h <;> omega
theorem bst_max {U : Nat → Int} {T : List Nat} {b : Nat} (h : bstT U T = some b) : ∀ x ∈ T, U x ≤ U b := by
  have := bst_top U T T.length b (Nat.le_refl _)
  rw [List.take_length] at this
  exact this h
def wsum (ts : List TaskD) (P : List Nat) : Int := Clk.sumL (P.map (wtAt ts))
theorem wsum_take {ts : List TaskD} {P : List Nat} {k v : Nat} (h : P[k]? = some v) : wsum ts (P.take (k + 1)) = wsum ts (P.take k) + wtAt ts v := by
  unfold wsum
  rw [List.take_add_one, h, Option.toList_some, List.map_append, List.map_cons, List.map_nil, Clk.sumL_snoc]
theorem wsum_cons (ts : List TaskD) (b : Nat) (P : List Nat) : wsum ts (b :: P) = wtAt ts b + wsum ts P := by
  unfold wsum
  rw [List.map_cons]
  rfl
theorem wsum_bd {ts : List TaskD} (hW : Wts ts) : ∀ (P : List Nat) (k : Nat), 0 ≤ wsum ts (P.take k) ∧ wsum ts (P.take k) ≤ wsum ts P
  | [], k => by simp [wsum, Clk.sumL]
  | b :: P, 0 => by
    have := wsum_bd hW P 0
    have h0 := (hW b).1
    rw [List.take_zero] at this ⊢
    rw [wsum_cons]
    omega
  | b :: P, k + 1 => by
    have := wsum_bd hW P k
    have h0 := (hW b).1
    rw [List.take_succ_cons, wsum_cons, wsum_cons]
    omega
section
variable {ts : List TaskD} (hf : (order (afterL ts)).length = ts.length) (hV : Dag.Valid (afterL ts)) (hW : Wts ts) (U : Nat → Int) (hU : ∀ v, v < ts.length → U v = upD ts v)
include hf hV hW hU
theorem tail_sum : ∀ n (b : Nat), leftD ts (some b) ≤ n → b < ts.length → wsum ts (tailD ts U (some b)) = upD ts b
  | 0, b, h, _ => by simp [leftD] at h
  | n + 1, b, h, hb => by
    rw [tail_step hf hV U hb, wsum_cons, upD_step hf hV hb]
    unfold upS
    have hbl : ∀ x ∈ behL (afterL ts) b, x < ts.length := fun x hx => by have := (beh_mem.1 hx).1; rwa [afterL_len] at this
    cases e : nxtD ts U b with
    | none =>
      have h0 : behL (afterL ts) b = [] := by
        by_cases q : behL (afterL ts) b = []
        · exact q
        · obtain ⟨z, hz, _⟩ := bstT_nil (U := U) q
          rw [nxt_of, hz] at e; cases e
      rw [h0]
      show wtAt ts b + 0 = 0 + wtAt ts b
      omega
    | some b' =>
      have hls := left_step hf hV U (b := b)
      rw [e] at hls
      have hb' := nxt_lt e
      rw [tail_sum n b' (by omega) hb']
      have e2 := e
      rw [nxt_of] at e2
      have hmx := bst_max e2
      have hmem := nxt_beh e
      have hge := maxL_ge (List.mem_map.2 ⟨b', hmem, rfl⟩ : upD ts b' ∈ (behL (afterL ts) b).map (upD ts))
      have hle : maxL ((behL (afterL ts) b).map (upD ts)) ≤ upD ts b' := maxL_le (upD_bd hf hV hW _ b' hb' (Nat.lt_succ_self _)).1 fun y hy => by
        obtain ⟨x, hx, rfl⟩ := List.mem_map.1 hy
        have := hmx x hx
        rw [hU x (hbl x hx), hU b' hb'] at this
        exact this
      omega
theorem tail_next : ∀ n (o : Option Nat), leftD ts o ≤ n → (∀ b, o = some b → b < ts.length) → ∀ (i x y : Nat), (tailD ts U o)[i]? = some x → (tailD ts U o)[i + 1]? = some y → y ∈ behL (afterL ts) x
  | n, none, _, _, i, x, y, h, _ => by simp [tailD] at h
  | 0, some b, h, _, _, _, _, _, _ => by simp [leftD] at h
  | n + 1, some b, h, hb, i, x, y, hx, hy => by
    rw [tail_step hf hV U (hb b rfl)] at hx hy
    have hls := left_step hf hV U (b := b)
    cases i with
    | zero =>
      simp only [List.getElem?_cons_zero, Option.some.injEq] at hx
      subst hx
      rw [List.getElem?_cons_succ] at hy
      cases e : nxtD ts U b with
      | none => rw [e] at hy; simp [tailD] at hy
      | some b' =>
        rw [e, tail_step hf hV U (nxt_lt e)] at hy
        simp only [List.getElem?_cons_zero, Option.some.injEq] at hy
        subst hy
        exact nxt_beh e
    | succ i =>
      rw [List.getElem?_cons_succ] at hx hy
      exact tail_next n (nxtD ts U b) (by omega) (fun b' e => nxt_lt e) i x y hx hy
theorem tail_in : ∀ n (o : Option Nat), leftD ts o ≤ n → (∀ b, o = some b → b < ts.length) → ∀ x ∈ tailD ts U o, x < ts.length
  | n, none, _, _, x, h => by simp [tailD] at h
  | 0, some b, h, _, _, _ => by simp [leftD] at h
  | n + 1, some b, h, hb, x, hx => by
    rw [tail_step hf hV U (hb b rfl)] at hx
    have hls := left_step hf hV U (b := b)
    rcases List.mem_cons.1 hx with q | q
    · rw [q]; exact hb b rfl
    · exact tail_in n (nxtD ts U b) (by omega) (fun b' e => nxt_lt e) x q
end
theorem sum_ind (g h : Nat → Int) (v : Nat) (c : Int) : ∀ n, (∀ x, x < n → g x + (if x = v then c else 0) ≤ h x) → Clk.sumL ((List.range n).map g) + (if v < n then c else 0) ≤ Clk.sumL ((List.range n).map h)
  | 0, _ => by simp [Clk.sumL]
  | n + 1, hh => by
    have ih := sum_ind g h v c n fun x hx => hh x (by omega)
    have h1 := hh n (by omega)
    rw [List.range_succ, List.map_append, List.map_append, List.map_cons, List.map_cons, List.map_nil, List.map_nil, Clk.sumL_snoc, Clk.sumL_snoc]
    by_cases e : n = v
    · subst e
      rw [if_pos rfl] at h1
      rw [if_neg (by omega)] at ih
      rw [if_pos (by omega)]
      omega
    · rw [if_neg e] at h1
      by_cases q : v < n
      · rw [if_pos q] at ih
        rw [if_pos (by omega)]
        omega
      · rw [if_neg q] at ih
        rw [if_neg (by omega)]
        omega
theorem zero_sum : ∀ n : Nat, Clk.sumL ((List.range n).map fun _ => (0 : Int)) = 0
  | 0 => rfl
  | n + 1 => by rw [List.range_succ, List.map_append, List.map_cons, List.map_nil, Clk.sumL_snoc, zero_sum n]; rfl
def partS (ts : List TaskD) (m : Nat) : Int := Clk.sumL ((List.range ts.length).map fun x => if upM ts x < m then wtAt ts x else 0)
theorem part_lo {ts : List TaskD} (hW : Wts ts) (m : Nat) : 0 ≤ partS ts m := by
  have h := sum_ind (fun _ => 0) (fun x => if upM ts x < m then wtAt ts x else 0) ts.length 0 ts.length fun x _ => by
    have h0 := (hW x).1
    repeat' split
    all_goals omega
  rw [zero_sum, if_neg (Nat.lt_irrefl _)] at h
  unfold partS
  omega
section
variable {ts : List TaskD} (hf : (order (afterL ts)).length = ts.length) (hV : Dag.Valid (afterL ts)) (hW : Wts ts)
include hf hV hW
theorem up_part : ∀ n v, v < ts.length → upM ts v < n → ∀ m, upM ts v < m → upD ts v ≤ partS ts m
  | 0, v, _, h, _, _ => absurd h (Nat.not_lt_zero _)
  | n + 1, v, hv, h, m, hm => by
    have h1 := sum_ind (fun x => if upM ts x < upM ts v then wtAt ts x else 0) (fun x => if upM ts x < m then wtAt ts x else 0) v (wtAt ts v) ts.length fun x _ => by
      have h0 := (hW x).1
      by_cases e : x = v
      · subst e
        rw [if_pos rfl, if_neg (Nat.lt_irrefl _), if_pos hm]; omega
      · rw [if_neg e]
        repeat' split
        all_goals omega
    rw [if_pos hv] at h1
    have h2 : maxL ((behL (afterL ts) v).map (upD ts)) ≤ partS ts (upM ts v) := by
      refine maxL_le (part_lo hW _) fun y hy => ?_
      obtain ⟨w, hw, rfl⟩ := List.mem_map.1 hy
      obtain ⟨_, q1, q2⟩ := up_arc hf hV hw
      exact up_part n w q1 (by omega) _ q2
    rw [upD_step hf hV hv]
    unfold upS
    unfold partS at h2 ⊢
    omega
end
theorem sum_all (ts : List TaskD) : sumD false ts = Clk.sumL ((List.range ts.length).map (wtAt ts)) := by
  unfold sumD
  congr 1
  apply List.ext_getElem?
  intro i
  rw [List.getElem?_map, List.getElem?_map]
  by_cases h : i < ts.length
  · obtain ⟨t, ht⟩ : ∃ t, ts[i]? = some t := ⟨_, List.getElem?_eq_getElem h⟩
    rw [ht, List.getElem?_range h, Option.map_some, Option.map_some, wtAt_some ht]
    show some (wgt t * 1) = some (wgt t)
    rw [Int.mul_one]
  · rw [List.getElem?_eq_none (by omega), List.getElem?_eq_none (by simp; omega)]; rfl
theorem len_total {f : FlowD} (h : rankE f (upD f.tasks) = 0) : lengthV f ≤ sumD false f.tasks := by
  obtain ⟨hc, ho⟩ := rank_yes h
  obtain ⟨hf, hV, hW⟩ := chk_facts hc
  have h1 := sum_ind (fun x => if upM f.tasks x < f.tasks.length + 1 then wtAt f.tasks x else 0) (wtAt f.tasks) f.tasks.length 0 f.tasks.length fun x _ => by
    have h0 := (hW x).1
    repeat' split
    all_goals omega
  rw [if_neg (Nat.lt_irrefl _)] at h1
  have h2 := part_lo hW (f.tasks.length + 1)
  unfold partS at h2
  rw [sum_all, lenV_yes h]
  refine maxL_le (by omega) fun y hy => ?_
  unfold numsU at hy
  obtain ⟨v, hv, rfl⟩ := List.mem_map.1 hy
  have h3 := up_part hf hV hW _ v (List.mem_range.1 hv) (Nat.lt_succ_self _) (f.tasks.length + 1) (by unfold upM; omega)
  unfold partS at h3
  omega
/-- what is to be known of a longest way -/
theorem way_facts {f : FlowD} {P : List Nat} (hP : pathV f = P) (h : rankE f (upD f.tasks) = 0) : (∀ x ∈ P, x < f.tasks.length) ∧ wsum f.tasks P = lengthV f ∧
    (∀ (i x y : Nat) (t : TaskD), P[i]? = some x → P[i + 1]? = some y → f.tasks[y]? = some t → decide ((x : Int) ∈ t.after) = true) := by
  obtain ⟨hc, ho⟩ := rank_yes h
  obtain ⟨hf, hV, hW⟩ := chk_facts hc
  have hp : P = tailD f.tasks (atL (rankV f (upD f.tasks))) (nxtD f.tasks (atL (rankV f (upD f.tasks))) (-1)) := by rw [← hP]; unfold pathV; rw [if_pos h]; rfl
  have hU : ∀ v, v < f.tasks.length → atL (rankV f (upD f.tasks)) v = upD f.tasks v := fun v hv => by
    have e : rankV f (upD f.tasks) = numsU f.tasks.length (upD f.tasks) := by unfold rankV; rw [if_pos h]
    rw [e]
    exact atL_some (by unfold numsU; rw [List.getElem?_map, List.getElem?_range hv]; rfl)
  generalize atL (rankV f (upD f.tasks)) = U at hp hU
  have hlt : ∀ b, nxtD f.tasks U (-1) = some b → b < f.tasks.length := fun b e => nxt_lt e
  refine ⟨fun x hx => ?_, ?_, fun i x y t hx hy ht => ?_⟩
  · rw [hp] at hx
    exact tail_in hf hV hW U hU _ _ (Nat.le_refl _) hlt x hx
  · rw [lenV_yes h, hp]
    cases e : nxtD f.tasks U (-1) with
    | none =>
      have h0 : f.tasks.length = 0 := by
        by_cases q : List.range f.tasks.length = []
        · simpa using q
        · obtain ⟨z, hz, _⟩ := bstT_nil (U := U) q
          rw [nxt_all, hz] at e; cases e
      unfold numsU
      rw [h0]; rfl
    | some b =>
      have hb := hlt b e
      rw [tail_sum hf hV hW U hU _ b (Nat.le_refl _) hb]
      rw [nxt_all] at e
      have hmx := bst_max e
      unfold numsU
      have h1 := maxL_ge (List.mem_map.2 ⟨b, List.mem_range.2 hb, rfl⟩ : upD f.tasks b ∈ (List.range f.tasks.length).map (upD f.tasks))
      have h2 : maxL ((List.range f.tasks.length).map (upD f.tasks)) ≤ upD f.tasks b := maxL_le (upD_bd hf hV hW _ b hb (Nat.lt_succ_self _)).1 fun y hy => by
        obtain ⟨x, hx, rfl⟩ := List.mem_map.1 hy
        have := hmx x hx
        rwa [hU x (List.mem_range.1 hx), hU b hb] at this
      omega
  · rw [hp] at hx hy
    have := tail_next hf hV hW U hU _ _ (Nat.le_refl _) hlt i x y hx hy
    have h2 := (beh_mem.1 this).2
    unfold arc at h2
    rwa [show Dag.row (afterL f.tasks) y = t.after from by simp [Dag.row, afterL, ht]] at h2
end Go.Proofs.YtaiolhanbjndcaaDoor

