/- Layer 7: of the document's Path: best: of some tasks the first one with the greatest rank.
   Layer 7: of the document's Path: the chain of the best ones, and that it ends. No program.
   Layer 7: the document's Path.
   Layer 7: of the program's Path: the greatest one of some tasks, in order; what is in order and holds each number once. No program. -/
import Derived.Test.YtaiolhanbjndcaaDoorMRnk
namespace Go.Proofs.YtaiolhanbjndcaaDoor
open Go.RowKit
open Dag (Ints Own1 Sl num num_len)
set_option linter.unusedVariables false
set_option maxRecDepth 100000

/-- of the first k that p takes the first one with the greatest number -/
def bestN (U : Nat → Int) (p : Nat → Bool) : Nat → Option Nat
  | 0 => none
  | k + 1 => if p k = true then (match bestN U p k with
    | none => some k
    | some b => if U b < U k then some k else some b) else bestN U p k
def optI : Option Nat → Int
  | none => -1
  | some k => (k : Int)
theorem bestN_lt (U : Nat → Int) (p : Nat → Bool) : ∀ (k b : Nat), bestN U p k = some b → b < k
  | 0, b, h => by simp [bestN] at h
  | k + 1, b, h => by
    simp only [bestN] at h
    split at h
    · split at h
      · injection h with h; omega
      · rename_i b' hb'
        have := bestN_lt U p k b' hb'
        split at h <;> injection h with h <;> omega
    · have := bestN_lt U p k b h; omega
def takesB (ts : List TaskD) (v : Int) (w : Nat) : Bool := decide (v < 0) || (match ts[w]? with
  | some t => decide (v ∈ t.after)
  | none => false)

end Go.Proofs.YtaiolhanbjndcaaDoor
namespace Go.Proofs.YtaiolhanbjndcaaDoor
open Go.RowKit
open Dag (behL bef_mem beh_mem arc order)
set_option linter.unusedVariables false

theorem bestN_p (U : Nat → Int) (p : Nat → Bool) : ∀ (k b : Nat), bestN U p k = some b → p b = true
  | 0, b, h => by simp [bestN] at h
  | k + 1, b, h => by
    simp only [bestN] at h
    split at h
    · rename_i hp
      split at h
      · injection h with h; subst h; exact hp
      · rename_i b' hb'
        have := bestN_p U p k b' hb'
        split at h <;> injection h with h <;> subst h
        · exact hp
        · exact this
    · exact bestN_p U p k b h
/-- the next one behind v; below 0: the first one of all -/
def nxtD (ts : List TaskD) (U : Nat → Int) (v : Int) : Option Nat := bestN U (takesB ts v) ts.length
def chainD (ts : List TaskD) (U : Nat → Int) : Nat → Nat → List Nat
  | 0, _ => []
  | k + 1, v => match nxtD ts U v with
    | none => []
    | some b => b :: chainD ts U k b
def tailD (ts : List TaskD) (U : Nat → Int) : Option Nat → List Nat
  | none => []
  | some b => b :: chainD ts U ts.length b
/-- a longest way -/
def pathD (ts : List TaskD) (U : Nat → Int) : List Nat := tailD ts U (nxtD ts U (-1))
theorem nxt_lt {ts : List TaskD} {U : Nat → Int} {v : Int} {b : Nat} (h : nxtD ts U v = some b) : b < ts.length := bestN_lt _ _ _ _ h
theorem nxt_beh {ts : List TaskD} {U : Nat → Int} {v b : Nat} (h : nxtD ts U v = some b) : b ∈ behL (afterL ts) v := by
  have hl := nxt_lt h
  have hp := bestN_p _ _ _ _ h
  obtain ⟨t, ht⟩ : ∃ t, ts[b]? = some t := ⟨_, List.getElem?_eq_getElem hl⟩
  unfold takesB at hp
  rw [ht, show decide ((v : Int) < 0) = false from decide_eq_false (by omega)] at hp
  have hm : (v : Int) ∈ t.after := by simpa using hp
  refine beh_mem.2 ⟨by rw [afterL_len]; exact hl, ?_⟩
  unfold arc
  rw [show Dag.row (afterL ts) b = t.after from by simp [Dag.row, afterL, ht]]
  exact decide_eq_true hm
section
variable {ts : List TaskD} (hf : (order (afterL ts)).length = ts.length) (hV : Dag.Valid (afterL ts)) (U : Nat → Int)
include hf hV
theorem chain_fuel : ∀ (k k' v : Nat), upM ts v ≤ k → upM ts v ≤ k' → chainD ts U k v = chainD ts U k' v
  | 0, 0, v, h, h' => rfl
  | 0, k' + 1, v, h, h' => by
    simp only [chainD]
    cases e : nxtD ts U v with
    | none => rfl
    | some b => have := (up_arc hf hV (nxt_beh e)).2.2; omega
  | k + 1, 0, v, h, h' => by
    simp only [chainD]
    cases e : nxtD ts U v with
    | none => rfl
    | some b => have := (up_arc hf hV (nxt_beh e)).2.2; omega
  | k + 1, k' + 1, v, h, h' => by
    simp only [chainD]
    cases e : nxtD ts U v with
    | none => rfl
    | some b =>
      have := (up_arc hf hV (nxt_beh e)).2.2
      show b :: chainD ts U k b = b :: chainD ts U k' b
      rw [chain_fuel k k' b (by omega) (by omega)]
theorem tail_step {b : Nat} (hb : b < ts.length) : tailD ts U (some b) = b :: tailD ts U (nxtD ts U b) := by
  obtain ⟨m, hm⟩ : ∃ m, ts.length = m + 1 := ⟨ts.length - 1, by omega⟩
  show b :: chainD ts U ts.length b = _
  rw [hm]
  simp only [chainD]
  cases e : nxtD ts U b with
  | none => rfl
  | some b' =>
    have h1 := (up_arc hf hV (nxt_beh e)).2.2
    have h2 : upM ts b ≤ m := by unfold upM; omega
    show b :: b' :: chainD ts U m b' = b :: b' :: chainD ts U ts.length b'
    rw [chain_fuel hf hV U m ts.length b' (by omega) (by omega)]
/-- how many may still come -/
def leftD (ts : List TaskD) : Option Nat → Nat
  | none => 0
  | some b => upM ts b + 1
theorem left_step {b : Nat} : leftD ts (nxtD ts U b) < leftD ts (some b) := by
  cases e : nxtD ts U b with
  | none => show 0 < upM ts b + 1; omega
  | some b' => have := (up_arc hf hV (nxt_beh e)).2.2; show upM ts b' + 1 < upM ts b + 1; omega
end
end Go.Proofs.YtaiolhanbjndcaaDoor
namespace Go.Proofs.YtaiolhanbjndcaaDoor
open Go.RowKit
open Dag (Ints Own1 Sl num num_len)
set_option linter.unusedVariables false
set_option maxRecDepth 100000

/-- what Path returns -/
def pathV (f : FlowD) : List Nat := if rankE f (upD f.tasks) = 0 then pathD f.tasks (atL (rankV f (upD f.tasks))) else []
def leftI (ts : List TaskD) (x : Int) : Nat := if x < 0 then 0 else upM ts x.toNat + 1
theorem leftI_opt (ts : List TaskD) : ∀ o : Option Nat, leftI ts (optI o) = leftD ts o
  | none => rfl
  | some b => by
    show (if ((b : Nat) : Int) < 0 then 0 else _) = _
    rw [if_neg (by omega)]
    rfl
theorem rankE_chk {f : FlowD} {U : Nat → Int} (h : rankE f U = 0) : checkE f = 0 := by
  unfold rankE at h
  split at h
  · exact h
  · rename_i h1; exact Decidable.byContradiction fun h2 => h1 h2
theorem rankV_len {f : FlowD} {U : Nat → Int} (h : rankE f U = 0) : (rankV f U).length = f.tasks.length := by
  unfold rankV; rw [if_pos h]; simp [numsU]

end Go.Proofs.YtaiolhanbjndcaaDoor
namespace Go.Proofs.YtaiolhanbjndcaaDoor
open Go.RowKit
open Dag (behL beh_mem arc order num)
set_option linter.unusedVariables false
theorem srt_low {ys : List Int} {n : Nat} (hm : ∀ v : Nat, v < n → (v : Int) ∈ ys) (hs : ys.Pairwise (fun x y => x ≤ y)) : ∀ v : Nat, v < n → ∀ i : Nat, ys[i]? = some (v : Int) → v ≤ i
  | 0, _, _, _ => Nat.zero_le _
  | v + 1, hv, i, hi => by
    obtain ⟨j, hj⟩ := List.mem_iff_getElem?.1 (hm v (by omega))
    have h1 := srt_low hm hs v (by omega) j hj
    have hij : j < i := by
      obtain ⟨pi, ei⟩ := List.getElem?_eq_some_iff.1 hi
      obtain ⟨pj, ej⟩ := List.getElem?_eq_some_iff.1 hj
      rcases Nat.lt_trichotomy i j with q | q | q
      · have := (List.pairwise_iff_getElem.1 hs) i j pi pj q
        rw [ei, ej] at this; omega
      · subst q; rw [hi] at hj; injection hj with hj; omega
      · exact q
    omega
theorem srt_high {ys : List Int} {n : Nat} (hl : ys.length = n) (hm : ∀ v : Nat, v < n → (v : Int) ∈ ys) (hs : ys.Pairwise (fun x y => x ≤ y)) : ∀ d v : Nat, v + d + 1 = n → ∀ i : Nat, ys[i]? = some (v : Int) → i ≤ v
  | 0, v, hv, i, hi => by have := (List.getElem?_eq_some_iff.1 hi).1; omega
  | d + 1, v, hv, i, hi => by
    obtain ⟨j, hj⟩ := List.mem_iff_getElem?.1 (hm (v + 1) (by omega))
    have h1 := srt_high hl hm hs d (v + 1) (by omega) j hj
    have hij : i < j := by
      obtain ⟨pi, ei⟩ := List.getElem?_eq_some_iff.1 hi
      obtain ⟨pj, ej⟩ := List.getElem?_eq_some_iff.1 hj
      rcases Nat.lt_trichotomy i j with q | q | q
      · exact q
      · subst q; rw [hi] at hj; injection hj with hj; omega
      · have := (List.pairwise_iff_getElem.1 hs) j i pj pi q
        rw [ei, ej] at this; omega
    omega
theorem srt_range {ys : List Int} {n : Nat} (hl : ys.length = n) (hm : ∀ v : Nat, v < n → (v : Int) ∈ ys) (hs : ys.Pairwise (fun x y => x ≤ y)) : ys = num (List.range n) := by
  apply List.ext_getElem?
  intro k
  by_cases hk : k < n
  · obtain ⟨i, hi⟩ := List.mem_iff_getElem?.1 (hm k hk)
    have h1 := srt_low hm hs k hk i hi
    have h2 := srt_high hl hm hs (n - 1 - k) k (by omega) i hi
    obtain rfl : i = k := by omega
    rw [hi]
    simp [num, List.getElem?_range hk]
  · rw [List.getElem?_eq_none (by omega), List.getElem?_eq_none (by simp [num]; omega)]
/-- of a list the first one with the greatest number -/
def bstS (U : Nat → Int) (o : Option Nat) (x : Nat) : Option Nat := match o with
  | none => some x
  | some b => if U b < U x then some x else some b
def bstT (U : Nat → Int) (T : List Nat) : Option Nat := T.foldl (bstS U) none
theorem bstT_snoc (U : Nat → Int) (T : List Nat) (x : Nat) : bstT U (T ++ [x]) = bstS U (bstT U T) x := by simp [bstT, List.foldl_append]
theorem bstT_take (U : Nat → Int) {T : List Nat} {k x : Nat} (h : T[k]? = some x) : bstT U (T.take (k + 1)) = bstS U (bstT U (T.take k)) x := by
  rw [List.take_add_one, h, Option.toList_some, bstT_snoc]
theorem bstT_range (U : Nat → Int) (p : Nat → Bool) : ∀ n, bstT U ((List.range n).filter p) = bestN U p n
  | 0 => rfl
  | n + 1 => by
    rw [List.range_succ, List.filter_append]
    simp only [bestN]
    by_cases hp : p n = true
    · rw [if_pos hp, List.filter_cons_of_pos hp, List.filter_nil, bstT_snoc, bstT_range U p n]
      rfl
    · rw [if_neg hp, List.filter_cons_of_neg hp, List.filter_nil, List.append_nil, bstT_range U p n]
theorem bstT_nil {U : Nat → Int} {T : List Nat} (h : T ≠ []) : ∃ x, bstT U T = some x ∧ x ∈ T := by
  have key : ∀ k, 0 < k → k ≤ T.length → ∃ x, bstT U (T.take k) = some x ∧ x ∈ T := by
    intro k
    induction k with
    | zero => intro h; omega
    | succ k ih =>
      intro _ hk
      obtain ⟨x, hx⟩ : ∃ x, T[k]? = some x := ⟨_, List.getElem?_eq_getElem (by omega)⟩
      have hxm := List.mem_of_getElem? hx
      rw [bstT_take U hx]
      by_cases h0 : k = 0
      · subst h0; exact ⟨x, rfl, hxm⟩
      · obtain ⟨b, hb, hbm⟩ := ih (by omega) (by omega)
        rw [hb]
        by_cases c : U b < U x
        · exact ⟨x, by simp [bstS, c], hxm⟩
        · exact ⟨b, by simp [bstS, c], hbm⟩
  have := key T.length (List.length_pos_iff.2 h) (Nat.le_refl _)
  rwa [List.take_length] at this
theorem nxt_all (ts : List TaskD) (U : Nat → Int) : nxtD ts U (-1) = bstT U (List.range ts.length) := by
  unfold nxtD
  rw [← bstT_range]
  congr 1
  rw [List.filter_eq_self.2]
  intro v _
  simp [takesB]
theorem nxt_of (ts : List TaskD) (U : Nat → Int) (v : Nat) : nxtD ts U v = bstT U (behL (afterL ts) v) := by
  unfold nxtD behL
  rw [← bstT_range, afterL_len]
  congr 1
  refine List.filter_congr fun w hw => ?_
  have hl : w < ts.length := by simpa using hw
  obtain ⟨t, ht⟩ : ∃ t, ts[w]? = some t := ⟨_, List.getElem?_eq_getElem hl⟩
  unfold takesB arc
  rw [ht, show decide ((v : Int) < 0) = false from decide_eq_false (by omega), Bool.false_or, show Dag.row (afterL ts) w = t.after from by simp [Dag.row, afterL, ht]]
end Go.Proofs.YtaiolhanbjndcaaDoor

