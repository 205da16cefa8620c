/- Layer 7: one task more that is done: how long each is then; tasks in a row of one's own. -/
import Derived.Test.YtaiolhanbjndcaaDoorMLen
import Derived.Test.YtaiolhanbjndcaaDoorRnkF
import Derived.Test.YtaiolhanbjndcaaDoorMTel
namespace Go.Proofs.YtaiolhanbjndcaaDoor.Rdn
open Go.RowKit Go.Shelf
open Dag (Ints ints num behL beh_mem order Sl)
set_option linter.unusedVariables false
set_option maxRecDepth 100000
/-! in plain words -/
theorem set_map {α : Type} (F : TaskD → α) {ts : List TaskD} {k : Nat} {t t' : TaskD} (ht : ts[k]? = some t) (hF : F t' = F t) : (ts.set k t').map F = ts.map F := by
  apply List.ext_getElem?
  intro i
  rw [List.getElem?_map, List.getElem?_map, List.getElem?_set]
  by_cases e : k = i
  · subst e
    have hk := (List.getElem?_eq_some_iff.1 ht).1
    rw [if_pos rfl, if_pos hk, ht]
    simp [hF]
  · rw [if_neg e]
theorem all_by {p : TaskD → Bool} (ts : List TaskD) : ts.all p = (ts.map p).all id := by rw [List.all_map]; rfl
def doneT (t : TaskD) : TaskD := ⟨t.name, t.nodes, t.wall, t.retry, true, t.after⟩
def doneF (f : FlowD) (k : Nat) (t : TaskD) : FlowD := ⟨f.name, f.deadline, f.priority, f.tasks.set k (doneT t)⟩
theorem after_done {ts : List TaskD} {k : Nat} {t : TaskD} (ht : ts[k]? = some t) : afterL (ts.set k (doneT t)) = afterL ts := set_map TaskD.after ht rfl
theorem check_done {f : FlowD} {k : Nat} {t : TaskD} (ht : f.tasks[k]? = some t) : checkE (doneF f k t) = checkE f := by
  have e1 : namesOK (doneF f k t) = namesOK f := by
    have m := set_map (t' := doneT t) (fun t => taskName t.name) ht rfl
    show ((f.tasks.set k (doneT t)).all (fun t => taskName t.name) && Txt.nameD f.name) = (f.tasks.all (fun t => taskName t.name) && Txt.nameD f.name)
    rw [all_by (p := fun t => taskName t.name) (f.tasks.set k (doneT t)), all_by (p := fun t => taskName t.name) f.tasks, m]
  have e2 : numbersOK (doneF f k t) = numbersOK f := by
    have m := set_map (t' := doneT t) numsOK ht rfl
    show ((f.tasks.set k (doneT t)).all numsOK && (inR 0 maxT f.deadline && inR 0 1000 f.priority)) = (f.tasks.all numsOK && (inR 0 maxT f.deadline && inR 0 1000 f.priority))
    rw [all_by (p := numsOK) (f.tasks.set k (doneT t)), all_by (p := numsOK) f.tasks, m]
  have e3 : twins (doneF f k t).tasks = twins f.tasks := by
    have m := set_map (t' := doneT t) TaskD.name ht rfl
    show (!decide ((f.tasks.set k (doneT t)).map TaskD.name).Nodup) = (!decide (f.tasks.map TaskD.name).Nodup)
    rw [m]
  have e4 : (doneF f k t).tasks.length = f.tasks.length := by simp [doneF]
  have e5 : linksOK (doneF f k t).tasks = linksOK f.tasks := by
    have m := set_map (t' := doneT t) (fun t => linkOK f.tasks.length t.after) ht rfl
    unfold linksOK
    rw [e4]
    show (f.tasks.set k (doneT t)).all (fun t => linkOK f.tasks.length t.after) = f.tasks.all (fun t => linkOK f.tasks.length t.after)
    rw [all_by (p := fun t => linkOK f.tasks.length t.after) (f.tasks.set k (doneT t)), all_by (p := fun t => linkOK f.tasks.length t.after) f.tasks, m]
  have e6 : afterL (doneF f k t).tasks = afterL f.tasks := after_done ht
  unfold checkE
  rw [e1, e2, e3, e4, e5, e6]
section
variable {ts ts' : List TaskD} (hA : afterL ts' = afterL ts) (hl : ts'.length = ts.length) (hf : (order (afterL ts)).length = ts.length) (hV : Dag.Valid (afterL ts))
include hA hl hf hV
theorem up_mono (hw : ∀ v, wtAt ts' v ≤ wtAt ts v) : ∀ n v, v < ts.length → upM ts v < n → upD ts' v ≤ upD ts v
  | 0, v, h, h2 => by omega
  | n + 1, v, h, h2 => by
    rw [upD_step hf hV h, upD_step (ts := ts') (by rw [hA, hl]; exact hf) (by rw [hA]; exact hV) (by rw [hl]; exact h)]
    unfold upS
    rw [hA]
    have h3 : maxL ((behL (afterL ts) v).map (upD ts')) ≤ maxL ((behL (afterL ts) v).map (upD ts)) := maxL_map_le fun x hx => by
      obtain ⟨_, p1, p2⟩ := up_arc hf hV hx
      exact up_mono hw n x p1 (by omega)
    have := hw v
    omega
theorem up_keep {m : Nat} (hw : ∀ v, upM ts v < m → v < ts.length → wtAt ts' v = wtAt ts v) : ∀ n v, v < ts.length → upM ts v < n → upM ts v < m → upD ts' v = upD ts v
  | 0, v, h, h2, _ => by omega
  | n + 1, v, h, h2, h3 => by
    rw [upD_step hf hV h, upD_step (ts := ts') (by rw [hA, hl]; exact hf) (by rw [hA]; exact hV) (by rw [hl]; exact h)]
    unfold upS
    rw [hA, hw v h3 h]
    congr 2
    refine List.map_congr_left fun x hx => ?_
    obtain ⟨_, p1, p2⟩ := up_arc hf hV hx
    exact up_keep hw n x p1 (by omega) (by omega)
end
theorem wt_done {ts : List TaskD} {k : Nat} {t : TaskD} (ht : ts[k]? = some t) (v : Nat) : wtAt (ts.set k (doneT t)) v = if v = k then 0 else wtAt ts v := by
  have hk := (List.getElem?_eq_some_iff.1 ht).1
  unfold wtAt
  rw [List.getElem?_set]
  by_cases e : k = v
  · subst e; rw [if_pos rfl, if_pos hk, if_pos rfl]; rfl
  · rw [if_neg e, if_neg (fun q => e q.symm)]
/-- with one more done no rank is greater; its own is less by what it weighed -/
theorem done_facts {f : FlowD} {k : Nat} {t : TaskD} (ht : f.tasks[k]? = some t) (h : rankE f (upD f.tasks) = 0) :
    rankE (doneF f k t) (upD (doneF f k t).tasks) = 0 ∧ (rankV (doneF f k t) (upD (doneF f k t).tasks)).length = f.tasks.length ∧
    (∀ i x y, (rankV f (upD f.tasks))[i]? = some x → (rankV (doneF f k t) (upD (doneF f k t).tasks))[i]? = some y → y ≤ x ∧ (i = k → x - y = wgt t)) := by
  obtain ⟨hc, ho⟩ := rank_yes h
  obtain ⟨hf, hV, hW⟩ := chk_facts hc
  have hk := (List.getElem?_eq_some_iff.1 ht).1
  have hA : afterL (doneF f k t).tasks = afterL f.tasks := after_done ht
  have hl : (doneF f k t).tasks.length = f.tasks.length := by simp [doneF]
  have hwt : ∀ v, wtAt (doneF f k t).tasks v = if v = k then 0 else wtAt f.tasks v := fun v => wt_done ht v
  have hmono : ∀ v, v < f.tasks.length → upD (doneF f k t).tasks v ≤ upD f.tasks v := fun v hv => up_mono hA hl hf hV (fun x => by
    rw [hwt]
    split
    · exact (hW x).1
    · exact Int.le_refl _) _ v hv (Nat.lt_succ_self _)
  have hke : upD f.tasks k - upD (doneF f k t).tasks k = wgt t := by
    rw [upD_step hf hV hk, upD_step (ts := (doneF f k t).tasks) (by rw [hA, hl]; exact hf) (by rw [hA]; exact hV) (by rw [hl]; exact hk)]
    unfold upS
    rw [hA, hwt k, if_pos rfl, wtAt_some ht]
    have : (behL (afterL f.tasks) k).map (upD (doneF f k t).tasks) = (behL (afterL f.tasks) k).map (upD f.tasks) := List.map_congr_left fun x hx => by
      obtain ⟨_, p1, p2⟩ := up_arc hf hV hx
      exact up_keep hA hl hf hV (m := upM f.tasks k) (fun v hv _ => by rw [hwt, if_neg (fun e => by subst e; omega)]) _ x p1 (Nat.lt_succ_self _) p2
    rw [this]; omega
  have hE : rankE (doneF f k t) (upD (doneF f k t).tasks) = 0 := by
    unfold rankE
    rw [check_done ht, hc, if_neg (fun e => e rfl), hl]
    have : okU f.tasks.length (upD (doneF f k t).tasks) = true := okU_iff.2 fun v hv => Int.le_trans (hmono v hv) (okU_iff.1 ho v hv)
    rw [this]; rfl
  have v1 : rankV f (upD f.tasks) = numsU f.tasks.length (upD f.tasks) := by unfold rankV; rw [if_pos h]
  have v2 : rankV (doneF f k t) (upD (doneF f k t).tasks) = numsU f.tasks.length (upD (doneF f k t).tasks) := by unfold rankV; rw [if_pos hE, hl]
  refine ⟨hE, by rw [v2]; simp [numsU], fun i x y hx hy => ?_⟩
  rw [v1] at hx
  rw [v2] at hy
  have hil : i < f.tasks.length := by have := (List.getElem?_eq_some_iff.1 hx).1; simpa [numsU] using this
  unfold numsU at hx hy
  rw [List.getElem?_map, List.getElem?_range hil] at hx hy
  simp only [Option.map_some, Option.some.injEq] at hx hy
  subst hx hy
  exact ⟨hmono i hil, fun e => by subst e; exact hke⟩
theorem done_err {f : FlowD} {k : Nat} {t : TaskD} (ht : f.tasks[k]? = some t) (h : rankE f (upD f.tasks) ≠ 0) : rankE (doneF f k t) (upD (doneF f k t).tasks) = rankE f (upD f.tasks) ∨ rankE (doneF f k t) (upD (doneF f k t).tasks) = 0 := by
  unfold rankE at h ⊢
  rw [check_done ht]
  by_cases hc : checkE f ≠ 0
  · rw [if_pos hc, if_pos hc]; exact Or.inl rfl
  · rw [if_neg hc] at h ⊢
    rw [if_neg hc]
    split
    · exact Or.inr rfl
    · rename_i q
      split
      · rename_i q2; rw [if_pos q2] at h; exact absurd rfl h
      · exact Or.inl rfl
/-! in memory -/
/-- a task, and where its links lie -/
abbrev TaskA := TaskD × Option Addr × Nat
def tkC (x : TaskA) : List Value := [.string (sb x.1.name), .int .i64 x.1.nodes, .int .i64 x.1.wall, .int .i64 x.1.retry, .bool x.1.done, .slice x.2.1 x.1.after.length x.2.2]
theorem tkC_len (x : TaskA) : (tkC x).length = 6 := rfl
theorem tkC_one (x : TaskA) : ∀ u ∈ tkC x, u.oneCell' = true := by
  intro u hu
  simp only [tkC, List.mem_cons, List.mem_nil_iff, or_false] at hu
  rcases hu with rfl | rfl | rfl | rfl | rfl | rfl <;> rfl
theorem flat_one {α : Type} {c : α → List Value} (h : ∀ x, ∀ u ∈ c x, u.oneCell' = true) : ∀ l : List α, ∀ u ∈ flat c l, u.oneCell' = true
  | [], u, hu => by cases hu
  | x :: l, u, hu => by
    rw [flat] at hu
    rcases List.mem_append.1 hu with hu | hu
    · exact h x u hu
    · exact flat_one h l u hu
theorem flat_split {α : Type} {c : α → List Value} {sz : Nat} (hc : ∀ a, (c a).length = sz) (hsz : 0 < sz) : ∀ (l : List α) (i : Nat) (u : Value), (flat c l)[i]? = some u → ∃ k j a, i = k * sz + j ∧ j < sz ∧ l[k]? = some a ∧ (c a)[j]? = some u
  | [], i, u, h => by simp [flat] at h
  | x :: l, i, u, h => by
    rw [flat] at h
    rcases Nat.lt_or_ge i sz with hi | hi
    · rw [List.getElem?_append_left (by rw [hc]; exact hi)] at h
      exact ⟨0, i, x, by omega, hi, rfl, h⟩
    · rw [List.getElem?_append_right (by rw [hc]; exact hi), hc] at h
      obtain ⟨k, j, a, e, hj, ha, hu⟩ := flat_split hc hsz l (i - sz) u h
      exact ⟨k + 1, j, a, by rw [Nat.succ_mul]; omega, hj, by simpa using ha, hu⟩
/-- the tasks of a slice, and where each one's links lie -/
theorem Tasks.list {w : World} {A : Option Addr} {c : Nat} {ts : List TaskD} (h : Tasks w A c ts) : ∃ L : List TaskA, L.map Prod.fst = ts ∧ (∀ x ∈ L, Ints w x.2.1 x.2.2 x.1.after) ∧ ∀ k x, L[k]? = some x → ∃ b off, A = some ⟨b, off, none⟩ ∧ ∀ j u, (tkC x)[j]? = some u → w.cell? ⟨b, off + k * 6 + j, none⟩ = some u := by
  have hc := h.cells
  have key : ∀ n, n ≤ ts.length → ∃ L : List TaskA, L.map Prod.fst = ts.take n ∧ (∀ x ∈ L, Ints w x.2.1 x.2.2 x.1.after) ∧ ∀ k x, L[k]? = some x → ∃ b off, A = some ⟨b, off, none⟩ ∧ ∀ j u, (tkC x)[j]? = some u → w.cell? ⟨b, off + k * 6 + j, none⟩ = some u := by
    intro n
    induction n with
    | zero => intro _; exact ⟨[], by simp, (fun x hx => by cases hx), (fun k x hx => by simp at hx)⟩
    | succ n ih =>
      intro hn
      obtain ⟨L, h1, h2, h3⟩ := ih (by omega)
      obtain ⟨t, ht⟩ : ∃ t, ts[n]? = some t := ⟨_, List.getElem?_eq_getElem (by omega)⟩
      obtain ⟨b, off, A', c', e, g0, g1, g2, g3, g4, g5, hi⟩ := hc n t ht
      have hl : L.length = n := by have := congrArg List.length h1; simpa [Nat.min_eq_left (show n ≤ ts.length by omega)] using this
      refine ⟨L ++ [(t, A', c')], ?_, fun x hx => ?_, fun k x hx => ?_⟩
      · rw [List.map_append, h1, List.take_add_one, ht]; rfl
      · rcases List.mem_append.1 hx with hx | hx
        · exact h2 x hx
        · simp at hx; subst hx; exact hi
      · rcases Nat.lt_or_ge k L.length with hk | hk
        · rw [List.getElem?_append_left hk] at hx
          exact h3 k x hx
        · rw [List.getElem?_append_right hk] at hx
          have hz : k - L.length = 0 := by
            have := (List.getElem?_eq_some_iff.1 hx).1
            simp at this; omega
          rw [hz] at hx
          simp at hx
          obtain rfl : k = n := by omega
          subst hx
          refine ⟨b, off, e, fun j u hu => ?_⟩
          match j, hu with
          | 0, hu => simp [tkC] at hu; subst hu; exact g0
          | 1, hu => simp [tkC] at hu; subst hu; exact g1
          | 2, hu => simp [tkC] at hu; subst hu; exact g2
          | 3, hu => simp [tkC] at hu; subst hu; exact g3
          | 4, hu => simp [tkC] at hu; subst hu; exact g4
          | 5, hu => simp [tkC] at hu; subst hu; exact g5
          | j + 6, hu => simp [tkC] at hu
  obtain ⟨L, h1, h2, h3⟩ := key ts.length (Nat.le_refl _)
  rw [List.take_length] at h1
  exact ⟨L, h1, h2, h3⟩

/-- a row of tasks that is written in place -/
structure RowT (w : World) (g c : Nat) (L : List TaskA) : Prop where
  blk : ∃ cur : Array Value, w.heap[g]? = some (Obj.cells cur 32 (0, 0)) ∧ cur.size = c * 6 ∧ ∀ (k : Nat) (x : TaskA), L[k]? = some x → ∀ (j : Nat) (u : Value), (tkC x)[j]? = some u → cur[k * 6 + j]? = some u
  cap : L.length ≤ c
  top : c ≤ maxLen
theorem flat_at : ∀ (L : List TaskA) (k : Nat) (x : TaskA), L[k]? = some x → ∀ (j : Nat) (u : Value), (tkC x)[j]? = some u → (flat tkC L)[k * 6 + j]? = some u
  | [], k, x, h, _, _, _ => by simp at h
  | y :: L, 0, x, h, j, u, hu => by
    simp only [List.getElem?_cons_zero, Option.some.injEq] at h
    subst h
    rw [flat, Nat.zero_mul, Nat.zero_add, List.getElem?_append_left (List.getElem?_eq_some_iff.1 hu).1]
    exact hu
  | y :: L, k + 1, x, h, j, u, hu => by
    rw [List.getElem?_cons_succ] at h
    rw [flat, List.getElem?_append_right (by rw [tkC_len]; omega), tkC_len, show (k + 1) * 6 + j - 6 = k * 6 + j from by omega]
    exact flat_at L k x h j u hu
theorem RowT.of_own {w : World} {base n : Nat} {A : Option Addr} {c : Nat} {L : List TaskA} (hn : L.length = n) (h0 : 0 < n) (h : OwnN w base 32 6 A n c (flat tkC L)) : ∃ g, A = some ⟨g, 0, none⟩ ∧ base ≤ g ∧ RowT w g c L := by
  have hfl : (flat tkC L).length = n * 6 := by rw [flat_len tkC_len, hn]
  rcases h.2 with ⟨hv, hl⟩ | ⟨g, cap, cur, hv, hbg, hh, h1, h2, h3, h4⟩
  · omega
  · injection hv with e1 e2 e3
    subst e1 e3
    refine ⟨g, rfl, hbg, ⟨⟨cur, hh, h3, fun k x hk j u hu => ?_⟩, by omega, h2⟩⟩
    have hf := flat_at L k x hk j u hu
    have hlt := (List.getElem?_eq_some_iff.1 hf).1
    have e' : (cur.toList.take (n * 6))[k * 6 + j]? = some u := by rw [h4]; exact hf
    rw [List.getElem?_take, if_pos (by omega)] at e'
    rw [← e', Array.getElem?_toList]
/-- one of them set to done -/
theorem RowT.done {w : World} {g c k : Nat} {L : List TaskA} {x : TaskA} (h : RowT w g c L) (hx : L[k]? = some x) : RowT (w.setCell ⟨g, k * 6 + 4, none⟩ (.bool true)) g c (L.set k (doneT x.1, x.2)) := by
  obtain ⟨cur, h1, h2, h3⟩ := h.blk
  have hk := (List.getElem?_eq_some_iff.1 hx).1
  refine ⟨⟨_, Dag.blk_set h1 (k * 6 + 4) _, by rw [Array.size_setIfInBounds]; exact h2, fun i y hy j u hu => ?_⟩, by rw [List.length_set]; exact h.cap, h.top⟩
  have hj : j < 6 := (List.getElem?_eq_some_iff.1 hu).1
  have hc := h.cap
  rw [List.getElem?_set] at hy
  by_cases e : k = i
  · subst e
    rw [if_pos rfl, if_pos hk] at hy
    injection hy with hy
    subst hy
    by_cases e4 : j = 4
    · subst e4
      rw [Array.getElem?_setIfInBounds_self_of_lt (by omega)]
      simpa [tkC, doneT] using hu
    · rw [Array.getElem?_setIfInBounds_ne (by omega)]
      refine h3 k x hx j u ?_
      match j, hj, e4, hu with
      | 0, _, _, hu => exact hu
      | 1, _, _, hu => exact hu
      | 2, _, _, hu => exact hu
      | 3, _, _, hu => exact hu
      | 4, _, e4, _ => exact absurd rfl e4
      | 5, _, _, hu => exact hu
      | j + 6, hj, _, _ => omega
  · rw [if_neg e] at hy
    rw [Array.getElem?_setIfInBounds_ne (by omega)]
    exact h3 i y hy j u hu
theorem RowT.below {w w' : World} {g c : Nat} {L : List TaskA} (h : RowT w g c L) (hb : Below w.heap.size w w') : RowT w' g c L := by
  obtain ⟨cur, h1, h2, h3⟩ := h.blk
  exact ⟨⟨cur, by rw [hb.block g (Dag.blk_lt h1)]; exact h1, h2, h3⟩, h.cap, h.top⟩
theorem RowT.tasks {w : World} {g c : Nat} {L : List TaskA} {ts : List TaskD} (h : RowT w g c L) (hL : L.map Prod.fst = ts) (hI : ∀ x ∈ L, Ints w x.2.1 x.2.2 x.1.after) (hn : ∀ t ∈ ts, t.name.length ≤ maxLen) : Tasks w (some ⟨g, 0, none⟩) c ts := by
  obtain ⟨cur, h1, h2, h3⟩ := h.blk
  have hl : L.length = ts.length := by rw [← hL, List.length_map]
  refine ⟨fun k t ht => ?_, by have := h.cap; omega, h.top, fun e => (by cases e), hn⟩
  obtain ⟨x, hx⟩ : ∃ x, L[k]? = some x := ⟨_, List.getElem?_eq_getElem (by have := (List.getElem?_eq_some_iff.1 ht).1; omega)⟩
  have hxt : x.1 = t := by
    rw [← hL, List.getElem?_map, hx] at ht
    simpa using ht
  subst hxt
  have hc := fun j u (hu : (tkC x)[j]? = some u) => (show w.cell? ⟨g, 0 + k * 6 + j, none⟩ = some u from by rw [Nat.zero_add, Dag.blk_cell h1]; exact h3 k x hx j u hu)
  exact ⟨g, 0, x.2.1, x.2.2, rfl, hc 0 _ rfl, hc 1 _ rfl, hc 2 _ rfl, hc 3 _ rfl, hc 4 _ rfl, hc 5 _ rfl, hI x (List.mem_of_getElem? hx)⟩
end Go.Proofs.YtaiolhanbjndcaaDoor.Rdn

