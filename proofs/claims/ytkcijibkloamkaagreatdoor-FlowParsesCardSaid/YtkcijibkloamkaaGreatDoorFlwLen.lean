/- How long the text of a workflow is that was read from a short text: in plain words. No program. -/
import Derived.Test.YtkcijibkloamkaaGreatDoorFlwBk3
namespace Go.Proofs.YtkcijibkloamkaaGreatDoor
open Txt (nameD dec sameS joinL linesA wordsA linesE linesV wordsE wordsV catL Word gap ctl ctlL)
open Clk (isT readE readV textL txt)
open Dag (num)
open Go.Lib (validD decodeL)
set_option linter.unusedVariables false
set_option maxRecDepth 100000

/-! words and lines are no longer than their text -/
theorem wordsA_sum : ∀ l cur : List UInt8, sumW (wordsA l cur) ≤ l.length + cur.length + 1
  | [], cur => by
    unfold wordsA
    split
    · simp [sumW]
    · simp [sumW]; omega
  | b :: t, cur => by
    have h1 := wordsA_sum t []
    have h2 := wordsA_sum t (cur ++ [b])
    simp only [List.length_append, List.length_cons, List.length_nil] at h1 h2 ⊢
    unfold wordsA
    split
    · split
      · omega
      · simp only [sumW]; omega
    · split
      · simp [sumW]
      · omega
theorem wordsV_sum (l : List UInt8) : sumW (wordsV l) ≤ l.length + 1 := by
  unfold wordsV
  split
  · have := wordsA_sum l []; simpa using this
  · simp [sumW]
theorem linesA_sum : ∀ l cur : List UInt8, sumW (linesA l cur) ≤ l.length + cur.length + 1
  | [], cur => by
    unfold linesA
    split
    · simp [sumW]
    · simp [sumW]; omega
  | b :: t, cur => by
    have h1 := linesA_sum t []
    have h2 := linesA_sum t (cur ++ [b])
    simp only [List.length_append, List.length_cons, List.length_nil] at h1 h2 ⊢
    unfold linesA
    split
    · simp only [sumW]; omega
    · omega
theorem linesV_sum (l : List UInt8) : sumW (linesV l) ≤ l.length + 1 := by
  unfold linesV
  split
  · simp [sumW]
  · split
    · have := linesA_sum l []; simpa using this
    · simp [sumW]

/-! sums over indices -/
def sumF (g : Nat → Nat) : List Nat → Nat
  | [] => 0
  | v :: l => g v + sumF g l
theorem sumF_app (g : Nat → Nat) (a b : List Nat) : sumF g (a ++ b) = sumF g a + sumF g b := by
  induction a with
  | nil => simp [sumF]
  | cons x a ih => simp only [List.cons_append, sumF, ih]; omega
theorem sumF_sub (g : Nat → Nat) : ∀ (a L : List Nat), a.Nodup → (∀ v ∈ a, v ∈ L) → sumF g a ≤ sumF g L
  | [], L, _, _ => Nat.zero_le _
  | v :: a, L, hn, hs => by
    obtain ⟨p, q, rfl⟩ := List.append_of_mem (hs v (by simp))
    have hv := (List.nodup_cons.1 hn)
    have ih := sumF_sub g a (p ++ q) hv.2 fun u hu => by
      have h1 := hs u (List.mem_cons_of_mem _ hu)
      have h2 : u ≠ v := fun e => hv.1 (e ▸ hu)
      simp only [List.mem_append, List.mem_cons] at h1 ⊢
      rcases h1 with h1 | h1 | h1
      · exact Or.inl h1
      · exact absurd h1 h2
      · exact Or.inr h1
    rw [sumF_app] at ih ⊢
    simp only [sumF]
    omega
theorem sumF_one (l : List Nat) : sumF (fun _ => 1) l = l.length := by
  induction l with
  | nil => rfl
  | cons x l ih => simp only [sumF, ih, List.length_cons]; omega
theorem sumF_congr {g h : Nat → Nat} : ∀ {l : List Nat}, (∀ v ∈ l, g v = h v) → sumF g l = sumF h l
  | [], _ => rfl
  | v :: l, e => by simp only [sumF]; rw [e v (by simp), sumF_congr fun u hu => e u (List.mem_cons_of_mem _ hu)]
/-- the weight of a name -/
def wt (ns : List (List UInt8)) (v : Nat) : Nat := match ns[v]? with
  | some s => 1 + s.length
  | none => 0
theorem wt_range (ns : List (List UInt8)) : sumF (wt ns) (List.range ns.length) = sumW ns := by
  have : ∀ k, k ≤ ns.length → sumF (wt ns) (List.range k) = sumW (ns.take k) := by
    intro k
    induction k with
    | zero => intro _; rfl
    | succ k ih =>
      intro hk
      obtain ⟨s, hs⟩ : ∃ s, ns[k]? = some s := ⟨_, List.getElem?_eq_getElem (by omega)⟩
      rw [List.range_succ, sumF_app, ih (by omega), List.take_add_one, hs, sumW_app]
      congr 1
      simp [sumF, wt, hs, sumW]
  have h := this ns.length (Nat.le_refl _)
  rwa [List.take_length] at h
theorem wt_app {ns m : List (List UInt8)} {v : Nat} (h : v < ns.length) : wt (ns ++ m) v = wt ns v := by
  unfold wt; rw [List.getElem?_append_left h]

/-! what a text of some bytes can say -/
def lkP (l : List (List Nat × List Nat)) : List Nat := l.flatMap Prod.fst
def lkC (l : List (List Nat × List Nat)) : List Nat := l.flatMap Prod.snd
def pot (s : St) : Nat := (sumW (namesP s.tasks) + 4 * s.tasks.length) + sumF (wt (namesP s.tasks)) (lkP s.links) + 2 * (lkC s.links).length
theorem lkP_in {n : Nat} {l : List (List Nat × List Nat)} (h : LinksIn n l) : ∀ v ∈ lkP l, v < n := fun v hv => by
  obtain ⟨k, hk, hv⟩ := List.mem_flatMap.1 hv
  exact (h k hk).1 v hv
theorem idxs_sum {ns : List (List UInt8)} {l : List (List UInt8)} {p : List Nat} (h : idxs ns l = some p) : sumF (wt ns) p = sumW l ∧ p.length = l.length ∧ ∀ s ∈ l, s ∈ ns := by
  unfold idxs at h
  split at h
  · rename_i ha
    injection h with h
    subst h
    have hm : ∀ s ∈ l, s ∈ ns := fun s hs => by have := List.all_eq_true.1 ha s hs; simpa using this
    refine ⟨?_, by simp, hm⟩
    clear ha
    induction l with
    | nil => rfl
    | cons s l ih =>
      have hs := hm s (by simp)
      have hlt := List.idxOf_lt_length_of_mem hs
      simp only [List.map_cons, sumF, sumW]
      rw [ih fun x hx => hm x (List.mem_cons_of_mem _ hx)]
      congr 1
      unfold wt
      rw [List.getElem?_eq_getElem hlt, List.getElem_idxOf hlt]
  · cases h
theorem nameD_pos {s : List UInt8} (h : nameD s = true) : 1 ≤ s.length := by
  have := (name_gw h).word.ne
  cases s with
  | nil => exact absurd rfl this
  | cons x s => simp
theorem sumW_two {l : List (List UInt8)} (h : ∀ s ∈ l, 1 ≤ s.length) : 2 * l.length ≤ sumW l := by
  induction l with
  | nil => simp
  | cons x l ih =>
    have := h x (by simp)
    have := ih fun y hy => h y (List.mem_cons_of_mem _ hy)
    simp only [sumW, List.length_cons]; omega
theorem pot_set {s : St} {v : Nat} {t t' : TaskP} (ht : s.tasks[v]? = some t) (hn : t'.name = t.name) : pot { s with tasks := s.tasks.set v t' } = pot s := by
  have : namesP (s.tasks.set v t') = namesP s.tasks := by
    unfold namesP
    rw [List.map_set, hn]
    apply List.ext_getElem?
    intro j
    by_cases e : v = j
    · subst e
      rw [List.getElem?_set_self (by rw [List.length_map]; exact (List.getElem?_eq_some_iff.1 ht).1), List.getElem?_map, ht]; rfl
    · rw [List.getElem?_set_ne e]
  unfold pot
  simp only [this, List.length_set]
theorem key_len {h : List UInt8} {k : Nat} (e : keyOf? h = some k) : h.length = (kwB k).length := by
  have := List.find?_some e
  unfold isKw at this
  have h2 : Txt.lowL (kwB k) = Txt.lowL h := by unfold sameS at this; simpa using this
  have := congrArg List.length h2
  unfold Txt.lowL at this
  simpa using this.symm
theorem idxOf_split {x : List (List UInt8)} (h : childW ∈ x) : sumW (x.take (x.idxOf childW)) + 6 + sumW (x.drop (x.idxOf childW + 1)) = sumW x := by
  have hlt := List.idxOf_lt_length_of_mem h
  have e : x = x.take (x.idxOf childW) ++ childW :: x.drop (x.idxOf childW + 1) := by
    conv => lhs; rw [← List.take_append_drop (x.idxOf childW) x, List.drop_eq_getElem_cons hlt, List.getElem_idxOf hlt]
  conv => rhs; rw [e, sumW_app]
  simp only [sumW]
  have : childW.length = 5 := rfl
  omega
theorem upL_len (s : List UInt8) : (isChild s = true → s.length = 5) := fun h => by
  unfold isChild sameS at h
  have h2 : Txt.lowL s = Txt.lowL childW := by simpa using h
  have := congrArg List.length h2
  unfold Txt.lowL at this
  simp only [List.length_map] at this
  rw [this]; rfl
theorem fam_sum {l x : List (List UInt8)} (h : famD l = some x) : sumW x = sumW l ∧ childW ∈ x := by
  obtain ⟨q, hq, h0, h1, ha, rfl, hix⟩ := famD_some h
  have hlt : q < l.length := by omega
  have hc : isChild l[q] = true := by
    have := @List.findIdx_getElem _ isChild l (by rw [hq]; exact hlt)
    simpa [hq] using this
  have e : l = l.take q ++ l[q] :: l.drop (q + 1) := by
    conv => lhs; rw [← List.take_append_drop q l, List.drop_eq_getElem_cons hlt]
  have e2 : l.set q childW = l.take q ++ childW :: l.drop (q + 1) := by
    rw [List.set_eq_take_append_cons_drop, if_pos hlt]
  refine ⟨?_, by rw [e2]; simp⟩
  rw [e2]
  conv => rhs; rw [e]
  rw [sumW_app, sumW_app]
  simp only [sumW]
  have := upL_len _ hc
  have : childW.length = 5 := rfl
  omega
theorem pot_add {s s' : St} {k : Nat} {h : List UInt8} {t x : List (List UInt8)} (hI : Inv s) (hc : classD h t = some (k, x)) (he : addSt s k x = .ok s') : pot s' ≤ pot s + sumW (h :: t) := by
  unfold addSt at he
  split at he
  · cases he
  split at he
  · rename_i hk8
    subst hk8
    have hx : famD t = some x := by
      unfold classD at hc
      split at hc
      · cases hc
      · rw [Option.map_eq_some_iff] at hc
        obtain ⟨y, hy, e⟩ := hc
        injection e with _ e; subst e; exact hy
      · rename_i k2 h2 h3
        split at hc
        · injection hc with hc; injection hc with hc1 hc; subst hc1; exact (h2 rfl).elim
        · cases hc
    obtain ⟨hs, hm⟩ := fam_sum hx
    have hsp := idxOf_split hm
    unfold parSt at he
    split at he
    · rename_i p c hp hcc
      injection he with he; subst he
      obtain ⟨p1, p2, _⟩ := idxs_sum hp
      obtain ⟨c1, c2, c3⟩ := idxs_sum hcc
      have h2 : 2 * (x.drop (x.idxOf childW + 1)).length ≤ sumW (x.drop (x.idxOf childW + 1)) := sumW_two fun s hs => by
        have := c3 s hs
        unfold namesP at this
        obtain ⟨q, hq, rfl⟩ := List.mem_map.1 this
        exact nameD_pos (hI.names q hq)
      unfold pot lkP lkC
      simp only [List.flatMap_append, List.flatMap_cons, List.flatMap_nil, List.append_nil, sumF_app, List.length_append]
      simp only [sumW]
      omega
    · cases he
  · split at he
    · cases he
    · rename_i a r
      split at he
      · unfold beginSt at he
        split at he
        · cases he
        split at he
        · cases he
        injection he with he; subst he
        exact Nat.le_add_right _ _
      split at he
      · unfold setSt at he
        split at he
        · cases he
        split at he
        · cases he
        injection he with he
        split at he <;> (subst he; exact Nat.le_add_right _ _)
      split at he
      · rename_i hk3
        subst hk3
        have hk : h.length = 3 ∧ t = a :: r := by
          unfold classD at hc
          split at hc
          · cases hc
          · rw [Option.map_eq_some_iff] at hc
            obtain ⟨y, hy, e⟩ := hc
            injection e with e; exact absurd e (by decide)
          · rename_i k2 h2 h3
            split at hc
            · injection hc with hc; injection hc with hc1 hc; subst hc1; exact ⟨key_len h3, hc⟩
            · cases hc
        unfold jobSt at he
        split at he
        · cases he
        split at he
        · cases he
        injection he with he; subst he
        unfold pot
        have e1 : namesP (s.tasks ++ [newTask a]) = namesP s.tasks ++ [a] := by unfold namesP newTask; simp
        have e2 : sumF (wt (namesP s.tasks ++ [a])) (lkP s.links) = sumF (wt (namesP s.tasks)) (lkP s.links) := sumF_congr fun v hv => wt_app (by
          have := lkP_in hI.links v hv
          unfold namesP; rw [List.length_map]; exact this)
        simp only [e1, e2, sumW_app, List.length_append, List.length_cons, List.length_nil]
        rw [hk.2]
        simp only [sumW]
        omega
      · refine Nat.le_trans (Nat.le_of_eq ?_) (Nat.le_add_right _ _)
        unfold taskSt at he
        split at he
        · split at he
          · cases he
          · rename_i t htk
            unfold telSt at he
            split at he
            · cases he
            split at he
            · injection he with he; subst he; exact pot_set htk (put_name _ _ _)
            split at he
            · cases he
            · split at he
              · cases he
              · injection he with he; subst he; exact pot_set htk (put_name _ _ _)
        · cases he
theorem pot_line {s s' : St} {l : List UInt8} (hI : Inv s) (he : lineSt s l = .ok s') : pot s' ≤ pot s + (1 + l.length) := by
  have hw := wordsV_sum l
  unfold lineSt at he
  split at he
  · cases he
  split at he
  · injection he with he; subst he; omega
  · rename_i h t hv
    rw [hv] at hw
    unfold addW at he
    split at he
    · cases he
    · rename_i k x hc
      have := pot_add hI hc he
      omega
theorem pot_feed : ∀ (ls : List (List UInt8)) {s s' : St} {i : Nat}, Inv s → feed s i ls = .inr s' → pot s' ≤ pot s + sumW ls
  | [], s, s', i, hI, he => by unfold feed at he; injection he with he; subst he; exact Nat.le_add_right _ _
  | l :: ls, s, s', i, hI, he => by
    unfold feed at he
    split at he
    · cases he
    · rename_i s2 hl
      have h1 := pot_line hI hl
      have h2 := pot_feed ls (hI.line hl).1 he
      simp only [sumW]
      omega

theorem add_ne {s : St} {k : Nat} {x : List (List UInt8)} {e : Int} (he : addSt s k x = .error e) : e ≠ 0 := by
  unfold addSt at he
  split at he
  · injection he with he; subst he; decide
  split at he
  · unfold parSt at he
    split at he
    · cases he
    · injection he with he; subst he; decide
  · split at he
    · injection he with he; subst he; decide
    · split at he
      · unfold beginSt at he
        split at he
        · injection he with he; subst he; decide
        split at he
        · injection he with he; subst he; decide
        cases he
      split at he
      · unfold setSt at he
        split at he
        · injection he with he; subst he; decide
        split at he
        · rename_i h0; injection he with he; subst he; exact h0
        cases he
      split at he
      · unfold jobSt at he
        split at he
        · injection he with he; subst he; decide
        split at he
        · injection he with he; subst he; decide
        cases he
      · unfold taskSt at he
        split at he
        · split at he
          · injection he with he; subst he; decide
          · unfold telSt at he
            split at he
            · injection he with he; subst he; decide
            split at he
            · cases he
            split at he
            · injection he with he; subst he; decide
            · split at he
              · rename_i h0; injection he with he; subst he; exact h0
              · cases he
        · injection he with he; subst he; decide
theorem line_ne {s : St} {l : List UInt8} {e : Int} (he : lineSt s l = .error e) : e ≠ 0 := by
  unfold lineSt at he
  split at he
  · rename_i h0; injection he with he; subst he; exact h0
  split at he
  · cases he
  · unfold addW at he
    split at he
    · injection he with he; subst he; decide
    · exact add_ne he
theorem feed_ne : ∀ (ls : List (List UInt8)) {s : St} {i j : Nat} {e : Int}, feed s i ls = .inl (j, e) → e ≠ 0
  | [], s, i, j, e, h => by unfold feed at h; cases h
  | l :: ls, s, i, j, e, h => by
    unfold feed at h
    split at h
    · rename_i e2 hl
      injection h with h
      injection h with _ h
      subst h
      exact line_ne hl
    · exact feed_ne ls h

/-! so long is its text -/
theorem txt_pow : ∀ (k n : Nat), 1 ≤ k → n < 10 ^ k → (txt n).length ≤ k
  | 0, n, h, _ => by omega
  | k + 1, n, _, hn => by
    by_cases h : n < 10
    · rw [Clk.txt_small h]; simp
    · rw [Clk.txt_more h, List.length_append]
      have hk : 1 ≤ k := by
        rcases Nat.eq_zero_or_pos k with rfl | hp
        · simp at hn; omega
        · exact hp
      have := txt_pow k (n / 10) hk (by rw [Nat.pow_succ] at hn; omega)
      simp only [List.length_cons, List.length_nil]; omega
theorem text_pow {x : Int} {k : Nat} (hk : 1 ≤ k) (h0 : 0 ≤ x) (h : x < (10 ^ k : Nat)) : (textL x).length ≤ k := by
  unfold textL
  split
  · exact txt_pow k _ hk (by omega)
  · exact Nat.zero_le _
theorem numL_at {k j : Nat} (hk : k < 9) {x : Int} (m : List UInt8) (h : (textL x).length ≤ j) : (numL k x [m]).length ≤ (kwB k).length + m.length + j + 3 := by
  unfold numL
  split
  · unfold lnL
    simp [joinL]; omega
  · exact Nat.zero_le _
theorem task58 {t : TaskD} (h : NumT t) : (taskL t).length ≤ 5 * t.name.length + 58 := by
  have hw := inR_T h.w (by decide) (by decide)
  have hn := h.n; have hr := h.r
  unfold inR at hn hr
  simp only [Bool.and_eq_true, decide_eq_true_eq] at hn hr
  have h4 := numL_at (k := 4) (j := 5) (by decide) t.name (text_pow (x := t.nodes) (by decide) (by omega) (by omega))
  have h5 := numL_at (k := 5) (j := 13) (by decide) t.name (textL13 hw)
  have h6 := numL_at (k := 6) (j := 2) (by decide) t.name (text_pow (x := t.retry) (by decide) (by omega) (by omega))
  have e4 : (kwB 4).length = 5 := rfl
  have e5 : (kwB 5).length = 8 := rfl
  have e6 : (kwB 6).length = 5 := rfl
  have h3 : (lnL 3 [t.name]).length = 5 + t.name.length := by unfold lnL; simp [joinL, kwB]; omega
  have h7 : (lnL 7 [t.name]).length = 6 + t.name.length := by unfold lnL; simp [joinL, kwB]; omega
  unfold taskL
  simp only [List.length_append]
  split
  · omega
  · simp only [List.length_nil]; omega
theorem tasks58 {l : List TaskD} (h : ∀ t ∈ l, NumT t) : (flatL taskL l).length ≤ 5 * nmS l + 58 * l.length := by
  induction l with
  | nil => simp [flatL]
  | cons t l ih =>
    have h1 := task58 (h t (by simp))
    have h2 := ih fun x hx => h x (List.mem_cons_of_mem _ hx)
    simp only [flatL, nmS, List.length_append, List.length_cons]
    omega
def cntA (l : List TaskD) : Nat := (l.filter fun t => decide (t.after ≠ [])).length
theorem joinL_sub : ∀ l : List (List UInt8), l ≠ [] → (joinL l).length + 1 = sumW l
  | [], h => absurd rfl h
  | [w], _ => by simp [joinL, sumW]; omega
  | w :: z :: l, _ => by
    have := joinL_sub (z :: l) (by simp)
    simp only [joinL, List.length_append, List.length_cons, sumW] at this ⊢
    omega
theorem pars_sum {ts : List TaskD} {X : Nat} : ∀ {l : List TaskD}, (∀ t ∈ l, sumW (t.after.map (nameAt ts)) ≤ X) → (flatL (parL ts) l).length ≤ cntA l * (X + 14) + nmS l
  | [], _ => by simp [flatL]
  | t :: l, h => by
    have h1 := h t (by simp)
    have h2 := pars_sum (ts := ts) (X := X) (l := l) fun x hx => h x (List.mem_cons_of_mem _ hx)
    simp only [flatL, nmS, List.length_append]
    by_cases he : t.after = []
    · have e1 : cntA (t :: l) = cntA l := by unfold cntA; rw [List.filter_cons_of_neg (by simp [he])]
      have e2 : parL ts t = [] := if_pos he
      rw [e1, e2, List.length_nil]; omega
    · have e1 : cntA (t :: l) = cntA l + 1 := by unfold cntA; rw [List.filter_cons_of_pos (by simp [he]), List.length_cons]
      have e2 : (parL ts t).length + 1 = 8 + (sumW (t.after.map (nameAt ts)) + 6 + (1 + t.name.length)) := by
        unfold parL
        rw [if_neg he]
        unfold lnL
        have := joinL_sub (t.after.map (nameAt ts) ++ [childW, t.name]) (by simp)
        rw [sumW_app] at this
        simp only [sumW, show childW.length = 5 from rfl, List.length_append, List.length_cons, List.length_nil, show (kwB 8).length = 6 from rfl] at this ⊢
        omega
      rw [e1, Nat.add_mul, Nat.one_mul]
      omega
theorem mul_sq (a b : Nat) : 4 * (a * b) ≤ (a + b) * (a + b) := by
  rcases Nat.le_total a b with h | h
  · obtain ⟨d, rfl⟩ := Nat.exists_eq_add_of_le h
    have e1 : (a + (a + d)) * (a + (a + d)) = 4 * (a * a) + 4 * (a * d) + d * d := by
      simp only [Nat.add_mul, Nat.mul_add, Nat.mul_comm d a]; omega
    rw [e1, Nat.mul_add]; omega
  · obtain ⟨d, rfl⟩ := Nat.exists_eq_add_of_le h
    have e1 : (b + d + b) * (b + d + b) = 4 * (b * b) + 4 * (b * d) + d * d := by
      simp only [Nat.add_mul, Nat.mul_add, Nat.mul_comm d b]; omega
    rw [e1, Nat.add_mul, Nat.mul_comm d b]; omega
/-- the greatest that it can be -/
theorem best {n N X C : Nat} (h : 5 * n + N + X + 2 * C ≤ 1501) (h1 : C ≤ n) (h2 : X ≤ N + n) : 58 * n + 6 * N + C * (X + 14) ≤ 58000 := by
  obtain ⟨a, rfl⟩ := Nat.exists_eq_add_of_le h1
  obtain ⟨b, hb⟩ := Nat.exists_eq_add_of_le h2
  have hm := mul_sq (2 * (X + 66)) (6 * (C + 6))
  obtain ⟨u, hu⟩ : ∃ u, u = 2 * (X + 66) + 6 * (C + 6) := ⟨_, rfl⟩
  rw [← hu] at hm
  obtain ⟨r, hr⟩ : ∃ r, u + r = 1669 := ⟨1669 - u, by omega⟩
  have hab : 4 * a + b ≤ r := by omega
  have hr2 : r ≤ 1501 := by omega
  have e1 : (u + r) * (u + r) = u * u + 2 * (u * r) + r * r := by
    simp only [Nat.add_mul, Nat.mul_add, Nat.mul_comm r u]; omega
  rw [hr] at e1
  have e2 : u * r + r * r = 1669 * r := by rw [← Nat.add_mul, hr]
  have e3 : r * r ≤ 1501 * r := Nat.mul_le_mul_right r hr2
  have e4 : 2 * (X + 66) * (6 * (C + 6)) = 12 * (C * X) + 72 * X + 792 * C + 4752 := by
    simp only [Nat.add_mul, Nat.mul_add, Nat.mul_assoc, Nat.mul_left_comm _ 6, Nat.mul_comm X C]; omega
  rw [e4] at hm
  rw [Nat.mul_add C X 14]
  omega
theorem num_name {ts : List TaskD} (l : List Nat) (ns : List (List UInt8)) (hn : ns = names ts) (hl : ∀ v ∈ l, v < ts.length) : sumW ((num l).map (nameAt ts)) = sumF (wt ns) l := by
  subst hn
  induction l with
  | nil => rfl
  | cons v l ih =>
    have hv := hl v (by simp)
    have := ih fun x hx => hl x (List.mem_cons_of_mem _ hx)
    unfold num at this ⊢
    simp only [List.map_cons, sumW, sumF, this]
    congr 1
    unfold nameAt wt names
    simp [List.getElem?_map, List.getElem?_eq_getElem hv]
theorem aft_mem {links : List (List Nat × List Nat)} {n w v : Nat} (h : v ∈ aft links n w) : v < n ∧ v ∈ lkP links ∧ w ∈ lkC links := by
  unfold aft at h
  rw [List.mem_filter, List.mem_range, List.any_eq_true] at h
  obtain ⟨h1, k, hk, h2⟩ := h
  rw [Bool.and_eq_true, decide_eq_true_eq, decide_eq_true_eq] at h2
  exact ⟨h1, List.mem_flatMap.2 ⟨k, hk, h2.1⟩, List.mem_flatMap.2 ⟨k, hk, h2.2⟩⟩
theorem full_names (links : List (List Nat × List Nat)) (n : Nat) : ∀ (w : Nat) (ts : List TaskP), names (fullL links n w ts) = namesP ts
  | _, [] => rfl
  | w, t :: ts => by
    have := full_names links n (w + 1) ts
    unfold names namesP at this ⊢
    rw [fullL, List.map_cons, List.map_cons, this]; rfl
theorem nm_sumW : ∀ ts : List TaskD, nmS ts + ts.length = sumW (names ts)
  | [] => rfl
  | t :: ts => by
    have := nm_sumW ts
    unfold names at this ⊢
    simp only [nmS, List.length_cons, List.map_cons, sumW]; omega
theorem cntA_le (links : List (List Nat × List Nat)) (n : Nat) : ∀ (w : Nat) (ts : List TaskP), cntA (fullL links n w ts) = ((List.range' w ts.length).filter fun v => decide (aft links n v ≠ [])).length
  | _, [] => rfl
  | w, t :: ts => by
    have ih := cntA_le links n (w + 1) ts
    unfold cntA at ih ⊢
    rw [fullL, List.length_cons, List.range'_succ]
    have e : (t.full links n w).after = num (aft links n w) := rfl
    by_cases h : aft links n w = []
    · rw [List.filter_cons_of_neg (by rw [e, h]; simp [num]), List.filter_cons_of_neg (by simp [h]), ih]
    · rw [List.filter_cons_of_pos (by rw [e]; simpa [num] using h), List.filter_cons_of_pos (by simp [h]), List.length_cons, List.length_cons, ih]
/-- a workflow that was read from a text of at most 1500 bytes has one of at most 60000 -/
theorem print_short {l : List UInt8} (hl : l.length ≤ 1500) {f : FlowD} {i : Nat} (h : parseD l = (f, i, 0)) : checkE f = 0 ∧ i = 0 ∧ (printL f).length ≤ 60000 := by
  unfold parseD at h
  split at h
  · rename_i h0; injection h with _ h; injection h with _ h; exact absurd h h0
  split at h
  · rename_i x e hf
    injection h with _ h; injection h with _ h
    exact absurd h (feed_ne _ hf)
  · rename_i s hf
    split at h
    · injection h with _ h; injection h with _ h; exact absurd h (by decide)
    split at h
    · rename_i h0; injection h with _ h; injection h with _ h; exact absurd h h0
    rename_i hc
    simp only [ne_eq, Classical.not_not] at hc
    injection h with h1 h2
    injection h2 with h2 _
    subst h1
    refine ⟨hc, h2.symm, ?_⟩
    have hp := pot_feed _ Inv.start hf
    have hI := (Inv.start.feed hf).1
    have hs := linesV_sum l
    have hp0 : pot St.start = 0 := rfl
    have hF := fine_of hc
    obtain ⟨n, hn⟩ : ∃ n, s.tasks.length = n := ⟨_, rfl⟩
    have hts : s.flow.tasks.length = n := by rw [← hn]; exact full_len _ _ _ _
    have hnm : names s.flow.tasks = namesP s.tasks := full_names _ _ _ _
    have hnl : (namesP s.tasks).length = n := by unfold namesP; rw [List.length_map, hn]
    have hms := nm_sumW s.flow.tasks
    rw [hnm, hts] at hms
    obtain ⟨X, hX1, hX2, hX3⟩ : ∃ X, X ≤ sumF (wt (namesP s.tasks)) (lkP s.links) ∧ X ≤ sumW (namesP s.tasks) ∧ ∀ t ∈ s.flow.tasks, sumW (t.after.map (nameAt s.flow.tasks)) ≤ X := by
      refine ⟨min (sumF (wt (namesP s.tasks)) (lkP s.links)) (sumW (namesP s.tasks)), Nat.min_le_left _ _, Nat.min_le_right _ _, fun t ht => ?_⟩
      obtain ⟨w, hw⟩ := List.getElem?_of_mem ht
      have hw2 : s.flow.tasks[w]? = (s.tasks[w]?).map (TaskP.full s.links s.tasks.length (0 + w)) := fullL_at _ _ _ _ _
      rw [hw2] at hw
      obtain ⟨p, hp, rfl⟩ := Option.map_eq_some_iff.1 hw
      have ha : (p.full s.links s.tasks.length (0 + w)).after = num (aft s.links n w) := by rw [Nat.zero_add, hn]; rfl
      have hnd : (aft s.links n w).Nodup := List.Pairwise.filter _ List.nodup_range
      rw [ha, num_name _ _ hnm.symm fun v hv => by rw [hts]; exact (aft_mem hv).1]
      refine Nat.le_min.2 ⟨sumF_sub _ _ _ hnd fun v hv => (aft_mem hv).2.1, ?_⟩
      rw [← wt_range, hnl]
      exact sumF_sub _ _ _ hnd fun v hv => List.mem_range.2 (aft_mem hv).1
    have hC : cntA s.flow.tasks ≤ n ∧ cntA s.flow.tasks ≤ (lkC s.links).length := by
      have e : cntA s.flow.tasks = ((List.range' 0 n).filter fun v => decide (aft s.links n v ≠ [])).length := by
        rw [← hn]; exact cntA_le s.links s.tasks.length 0 s.tasks
      rw [e]
      refine ⟨Nat.le_trans (List.length_filter_le _ _) (by simp), ?_⟩
      rw [← sumF_one, ← sumF_one]
      refine sumF_sub _ _ _ (List.Pairwise.filter _ (by rw [← List.range_eq_range']; exact List.nodup_range)) fun v hv => ?_
      have := (List.mem_filter.1 hv).2
      simp only [ne_eq, decide_eq_true_eq] at this
      obtain ⟨u, hu⟩ := List.exists_mem_of_ne_nil _ this
      exact (aft_mem hu).2.2
    have hpt : pot s = (sumW (namesP s.tasks) + 4 * n) + sumF (wt (namesP s.tasks)) (lkP s.links) + 2 * (lkC s.links).length := by unfold pot; rw [hn]
    have h3 := tasks58 (l := s.flow.tasks) fun t ht => hF.numT ht
    have h4 := pars_sum hX3
    rw [hts] at h3
    have h5 := best (n := n) (N := nmS s.flow.tasks) (X := X) (C := cntA s.flow.tasks) (by omega) hC.1 (by omega)
    have h0 := lnL_len 0 [s.flow.name]
    have h1 := numL13 (inR_T hF.dl.1 (by decide) (by decide)) 1 []
    have h2 := numL13 (inR_T hF.dl.2 (by decide) (by decide)) 2 []
    have hnl := nameD_len hF.name
    simp only [sumW] at h0 h1 h2
    unfold printL
    simp only [List.length_append]
    omega
/-- what is no workflow is an empty one -/
theorem parse_noFlow {l : List UInt8} {f : FlowD} {i : Nat} {e : Int} (h : parseD l = (f, i, e)) (he : e ≠ 0) : f = noFlow := by
  unfold parseD at h
  split at h
  · injection h with h _; exact h.symm
  split at h
  · injection h with h _; exact h.symm
  · split at h
    · injection h with h _; exact h.symm
    split at h
    · injection h with h _; exact h.symm
    · injection h with _ h; injection h with _ h; exact absurd h.symm he
end Go.Proofs.YtkcijibkloamkaaGreatDoor

