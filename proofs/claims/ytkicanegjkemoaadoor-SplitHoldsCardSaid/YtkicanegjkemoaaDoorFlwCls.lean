/- Rows of words in memory; which keyword a word is. -/
import Derived.Test.YtkicanegjkemoaaDoorFlwCheck
import Derived.Deep.MidRow
import Derived.Lib.SliceRun
namespace Go.Proofs.YtkicanegjkemoaaDoor
open Go.RowKit
open Txt (sameS)
open Dag (Sl)
set_option linter.unusedVariables false
set_option maxRecDepth 100000

def strs (l : List (List UInt8)) : List Value := l.map fun s => Value.string (sb s)
theorem strs_len (l : List (List UInt8)) : (strs l).length = l.length := by simp [strs]
theorem strs_app (a b : List (List UInt8)) : strs (a ++ b) = strs a ++ strs b := by simp [strs]
theorem strs_get {l : List (List UInt8)} {k : Nat} {s : List UInt8} (h : l[k]? = some s) : (strs l)[k]? = some (.string (sb s)) := by simp [strs, h]
theorem strs_get' {l : List (List UInt8)} {k : Nat} {u : Value} (h : (strs l)[k]? = some u) : ∃ s, l[k]? = some s ∧ u = .string (sb s) := by
  unfold strs at h
  rw [List.getElem?_map] at h
  cases hx : l[k]? with
  | none => rw [hx] at h; cases h
  | some x => rw [hx] at h; injection h with h; exact ⟨x, rfl, h.symm⟩
theorem strs_one (l : List (List UInt8)) : ∀ u ∈ strs l, u.oneCell' = true := by
  intro u hu
  obtain ⟨y, _, rfl⟩ := List.mem_map.1 hu
  rfl
theorem strs_set (l : List (List UInt8)) (k : Nat) (s : List UInt8) : strs (l.set k s) = (strs l).set k (.string (sb s)) := by simp [strs, List.map_set]
/-- '.slice A l.length c' holds the words l -/
def Words (w : World) (A : Option Addr) (c : Nat) (l : List (List UInt8)) : Prop := Sl w A c (strs l)
section
variable {w w' : World} {A : Option Addr} {c : Nat} {l : List (List UInt8)}
theorem Words.below (h : Words w A c l) (hb : Below w.heap.size w w') : Words w' A c l := Sl.below h hb
theorem Words.len (h : Words w A c l) : l.length ≤ c := by have := Sl.cap h; rwa [strs_len] at this
theorem Words.lenI (h : Words w A c l) : l.length ≤ 9223372036854775807 := Nat.le_trans h.len (by have := Sl.top h; simpa [maxLen] using this)
theorem Words.at_ (h : Words w A c l) {k : Nat} (hk : k < l.length) : ∃ b off s, A = some ⟨b, off, none⟩ ∧ l[k]? = some s ∧ w.cell? ⟨b, off + k, none⟩ = some (.string (sb s)) := by
  obtain ⟨b, off, u, e, hu, hc⟩ := Sl.at_ h (k := k) (by rw [strs_len]; exact hk)
  obtain ⟨x, hx, rfl⟩ := strs_get' hu
  exact ⟨b, off, x, e, hx, hc⟩
/-- the part from k on -/
theorem Words.drop (h : Words w A c l) {b off k : Nat} (e : A = some ⟨b, off, none⟩) (hk : k ≤ l.length) : Words w (some ⟨b, off + k, none⟩) (c - k) (l.drop k) := by
  subst e
  refine ⟨fun j u hu => ?_, ?_, Nat.le_trans (Nat.sub_le _ _) h.top, fun e => by cases e⟩
  · obtain ⟨s, hs, rfl⟩ := strs_get' hu
    rw [List.getElem?_drop] at hs
    obtain ⟨b2, off2, e2, hc⟩ := h.cells (k + j) _ (strs_get hs)
    injection e2 with e2; injection e2 with e2 e3
    subst e2 e3
    exact ⟨_, _, rfl, by rw [Nat.add_assoc]; exact hc⟩
  · have := h.len
    rw [strs_len, List.length_drop]; omega
/-- the first k -/
theorem Words.take (h : Words w A c l) {b off k : Nat} (e : A = some ⟨b, off, none⟩) (hk : k ≤ l.length) : Words w A c (l.take k) := by
  refine ⟨fun j u hu => ?_, ?_, h.top, h.nil⟩
  · obtain ⟨s, hs, rfl⟩ := strs_get' hu
    rw [List.getElem?_take] at hs
    split at hs
    · exact h.cells j _ (strs_get hs)
    · cases hs
  · have := h.len
    rw [strs_len, List.length_take]; omega
end
/-- its block bears the type of words -/
def TypS (w : World) (A : Option Addr) : Prop := ∀ a, A = some a → ∃ cs, w.heap[a.block]? = some (Obj.cells cs 9 (0, 0))
theorem TypS.below {w w' : World} {A : Option Addr} (h : TypS w A) (hb : Below w.heap.size w w') : TypS w' A := fun a ha => by
  obtain ⟨cs, hc⟩ := h a ha
  exact ⟨cs, (hb.block _ (Array.getElem?_eq_some_iff.1 hc).1).trans hc⟩
theorem typS_own {w : World} {base n c : Nat} {A : Option Addr} {us : List Value} (h : Dag.Own1 w base 9 (.slice A n c) us) : TypS w A := fun a ha => by
  subst ha
  exact Dag.Own1.typed h (b := a.block) rfl
theorem words_of {w : World} {A : Option Addr} {c : Nat} {zs : List ByteArray} {l : List (List UInt8)} (h : Txt.Strs w A zs) (e : zs.map Txt.lst = l) (hl : zs.length ≤ c) (hd : Txt.Sd w A c) : Words w A c l := by
  subst e
  refine ⟨fun k u hu => ?_, by rw [strs_len, List.length_map]; exact hl, hd.2.1, hd.2.2⟩
  obtain ⟨s, hs, rfl⟩ := strs_get' hu
  rw [List.getElem?_map] at hs
  cases hz : zs[k]? with
  | none => rw [hz] at hs; cases hs
  | some z =>
    rw [hz] at hs
    injection hs with hs
    subst hs
    obtain ⟨b, off, e, _, hc⟩ := h k z hz
    exact ⟨b, off, e, by rw [show sb (Txt.lst z) = z from sb_data z]; exact hc⟩

/-! the keyword -/
theorem keyOf_lt {s : List UInt8} {k : Nat} (h : keyOf? s = some k) : k < 9 ∧ isKw k s = true := by
  unfold keyOf? at h
  have := List.find?_some h
  exact ⟨by simpa using List.mem_of_find?_eq_some h, this⟩
def keyN (s : List UInt8) : Int := match keyOf? s with
  | some k => (k : Int)
  | none => -1
theorem keyOf_none {s : List UInt8} (h : ∀ j, j < 9 → isKw j s = false) : keyOf? s = none := by
  unfold keyOf?
  rw [List.find?_eq_none]
  intro x hx
  rw [h x (by simpa using hx)]; simp
theorem keyOf_some {s : List UInt8} {k : Nat} (hk : k < 9) (h : isKw k s = true) (hlt : ∀ j, j < k → isKw j s = false) : keyOf? s = some k := by
  unfold keyOf?
  rw [List.find?_range_eq_some]
  exact ⟨h, by simpa using hk, fun j hj => by simp [hlt j hj]⟩
theorem kwB_len (k : Nat) : (kwB k).length ≤ 9000000000000000000 := by
  unfold kwB; split <;> simp

def rowK (k : Nat) : List Value := [.string (sb (kwB k)), .int .i64 (wordsN k), .int .i64 (leastN k), .int .i64 (mostN k)]
def tabL : List Value := rowK 0 ++ (rowK 1 ++ (rowK 2 ++ (rowK 3 ++ (rowK 4 ++ (rowK 5 ++ (rowK 6 ++ (rowK 7 ++ rowK 8)))))))
theorem tab_range {w : World} (h : TabS w) : w.rangeAt 0 0 tabL := by
  have key : ∀ k j : Nat, k < 9 → j < 4 → ∀ v, (rowK k)[j]? = some v → w.cell? ⟨0, k * 4 + j, none⟩ = some v := by
    intro k j hk hj v hv
    obtain ⟨h0, h1, h2, h3⟩ := h k hk
    match j, hj with
    | 0, _ => simp only [rowK, List.getElem?_cons_zero, Option.some.injEq] at hv; subst hv; exact h0
    | 1, _ => simp only [rowK, List.getElem?_cons_zero, List.getElem?_cons_succ, Option.some.injEq] at hv; subst hv; exact h1
    | 2, _ => simp only [rowK, List.getElem?_cons_zero, List.getElem?_cons_succ, Option.some.injEq] at hv; subst hv; exact h2
    | 3, _ => simp only [rowK, List.getElem?_cons_zero, List.getElem?_cons_succ, Option.some.injEq] at hv; subst hv; exact h3
  have hrow : ∀ j : Nat, j < 36 → tabL[j]? = (rowK (j / 4))[j % 4]? := by
    intro j hj
    have h9 : j / 4 < 9 := by omega
    have h4 : j % 4 < 4 := by omega
    have e : j = 4 * (j / 4) + j % 4 := by omega
    generalize j / 4 = q at *
    generalize j % 4 = r at *
    subst e
    clear hj
    match q, h9, r, h4 with
    | 0, _, 0, _ | 0, _, 1, _ | 0, _, 2, _ | 0, _, 3, _ => rfl
    | 1, _, 0, _ | 1, _, 1, _ | 1, _, 2, _ | 1, _, 3, _ => rfl
    | 2, _, 0, _ | 2, _, 1, _ | 2, _, 2, _ | 2, _, 3, _ => rfl
    | 3, _, 0, _ | 3, _, 1, _ | 3, _, 2, _ | 3, _, 3, _ => rfl
    | 4, _, 0, _ | 4, _, 1, _ | 4, _, 2, _ | 4, _, 3, _ => rfl
    | 5, _, 0, _ | 5, _, 1, _ | 5, _, 2, _ | 5, _, 3, _ => rfl
    | 6, _, 0, _ | 6, _, 1, _ | 6, _, 2, _ | 6, _, 3, _ => rfl
    | 7, _, 0, _ | 7, _, 1, _ | 7, _, 2, _ | 7, _, 3, _ => rfl
    | 8, _, 0, _ | 8, _, 1, _ | 8, _, 2, _ | 8, _, 3, _ => rfl
  intro j v hv
  have hj : j < 36 := (List.getElem?_eq_some_iff.1 hv).1
  rw [hrow j hj] at hv
  have := key (j / 4) (j % 4) (by omega) (by omega) v hv
  rw [Nat.zero_add]
  have e : j / 4 * 4 + j % 4 = j := by omega
  rwa [e] at this
theorem tab_ix0 (W : World) : (Instr.index 100 (.agg tabL.toArray) (.int .i64 ((0 : Nat) : Int))).run Tryd.prog W = .ok (.agg #[.string (sb (kwB 0)), .int .i64 (wordsN 0), .int .i64 (leastN 0), .int .i64 (mostN 0)]) W := by kernel_rfl
theorem tab_ix1 (W : World) : (Instr.index 100 (.agg tabL.toArray) (.int .i64 ((1 : Nat) : Int))).run Tryd.prog W = .ok (.agg #[.string (sb (kwB 1)), .int .i64 (wordsN 1), .int .i64 (leastN 1), .int .i64 (mostN 1)]) W := by kernel_rfl
theorem tab_ix2 (W : World) : (Instr.index 100 (.agg tabL.toArray) (.int .i64 ((2 : Nat) : Int))).run Tryd.prog W = .ok (.agg #[.string (sb (kwB 2)), .int .i64 (wordsN 2), .int .i64 (leastN 2), .int .i64 (mostN 2)]) W := by kernel_rfl
theorem tab_ix3 (W : World) : (Instr.index 100 (.agg tabL.toArray) (.int .i64 ((3 : Nat) : Int))).run Tryd.prog W = .ok (.agg #[.string (sb (kwB 3)), .int .i64 (wordsN 3), .int .i64 (leastN 3), .int .i64 (mostN 3)]) W := by kernel_rfl
theorem tab_ix4 (W : World) : (Instr.index 100 (.agg tabL.toArray) (.int .i64 ((4 : Nat) : Int))).run Tryd.prog W = .ok (.agg #[.string (sb (kwB 4)), .int .i64 (wordsN 4), .int .i64 (leastN 4), .int .i64 (mostN 4)]) W := by kernel_rfl
theorem tab_ix5 (W : World) : (Instr.index 100 (.agg tabL.toArray) (.int .i64 ((5 : Nat) : Int))).run Tryd.prog W = .ok (.agg #[.string (sb (kwB 5)), .int .i64 (wordsN 5), .int .i64 (leastN 5), .int .i64 (mostN 5)]) W := by kernel_rfl
theorem tab_ix6 (W : World) : (Instr.index 100 (.agg tabL.toArray) (.int .i64 ((6 : Nat) : Int))).run Tryd.prog W = .ok (.agg #[.string (sb (kwB 6)), .int .i64 (wordsN 6), .int .i64 (leastN 6), .int .i64 (mostN 6)]) W := by kernel_rfl
theorem tab_ix7 (W : World) : (Instr.index 100 (.agg tabL.toArray) (.int .i64 ((7 : Nat) : Int))).run Tryd.prog W = .ok (.agg #[.string (sb (kwB 7)), .int .i64 (wordsN 7), .int .i64 (leastN 7), .int .i64 (mostN 7)]) W := by kernel_rfl
theorem tab_ix8 (W : World) : (Instr.index 100 (.agg tabL.toArray) (.int .i64 ((8 : Nat) : Int))).run Tryd.prog W = .ok (.agg #[.string (sb (kwB 8)), .int .i64 (wordsN 8), .int .i64 (leastN 8), .int .i64 (mostN 8)]) W := by kernel_rfl
theorem tab_ix (k : Nat) (hk : k < 9) (W : World) : (Instr.index 100 (.agg tabL.toArray) (.int .i64 (k : Int))).run Tryd.prog W = .ok (.agg #[.string (sb (kwB k)), .int .i64 (wordsN k), .int .i64 (leastN k), .int .i64 (mostN k)]) W :=
  match k, hk with
  | 0, _ => tab_ix0 W
  | 1, _ => tab_ix1 W
  | 2, _ => tab_ix2 W
  | 3, _ => tab_ix3 W
  | 4, _ => tab_ix4 W
  | 5, _ => tab_ix5 W
  | 6, _ => tab_ix6 W
  | 7, _ => tab_ix7 W
  | 8, _ => tab_ix8 W

end Go.Proofs.YtkicanegjkemoaaDoor

/- A PARENT line's words: CHILD among them; parts and copies of rows of words. -/
namespace Go.Proofs.YtkicanegjkemoaaDoor
open Go.RowKit
open Txt (sameS)
open Dag (Sl Own1)
set_option linter.unusedVariables false
set_option maxRecDepth 100000

def Short (l : List (List UInt8)) : Prop := ∀ s ∈ l, s.length ≤ 9000000000000000000
theorem Short.drop {l : List (List UInt8)} (h : Short l) (k : Nat) : Short (l.drop k) := fun s hs => h s (List.mem_of_mem_drop hs)
theorem Short.at_ {l : List (List UInt8)} (h : Short l) {k : Nat} {s : List UInt8} (hk : l[k]? = some s) : s.length ≤ 9000000000000000000 := h s (List.mem_of_getElem? hk)
def cutA (A : Option Addr) (c lo : Nat) : Option Addr := if c = lo then A else A.map (·.add lo)
theorem info_str : (Tryd.prog.info? 9).map (fun i => (i.zero, i.size, i.bytes)) = some (some (.string ⟨#[]⟩), 1, 16) := by kernel_rfl
theorem Words.cut {w : World} {A : Option Addr} {c : Nat} {l : List (List UInt8)} (h : Words w A c l) {k : Nat} (hk : k ≤ l.length) : Words w (cutA A c k) (c - k) (l.drop k) := by
  have hlc := h.len
  unfold cutA
  split
  · rename_i e
    have : l.drop k = [] := List.drop_eq_nil_of_le (by omega)
    rw [this]
    exact Sl.nilAny w A _ (Nat.le_trans (Nat.sub_le _ _) (Sl.top h)) (fun e2 => by have := Sl.nil h e2; omega)
  · cases A with
    | none => have := Sl.nil h rfl; omega
    | some a =>
      by_cases hn : l = []
      · subst hn
        simp at hk; subst hk
        simp only [Option.map_some, Nat.sub_zero, List.drop_zero]
        obtain ⟨b, off, sp⟩ := a
        exact Sl.nilAny w _ _ (Sl.top h) (fun e => by cases e)
      · obtain ⟨b, off, s, e, _, _⟩ := h.at_ (k := 0) (List.length_pos_iff.2 hn)
        injection e with e
        subst e
        rw [Option.map_some, Go.WideShapes.add_plain]
        exact h.drop rfl hk

/-- the first place, or -1 -/
def ixI (p : List UInt8 → Bool) (l : List (List UInt8)) : Int := if l.findIdx p < l.length then (l.findIdx p : Int) else -1
theorem ix_hit {p : List UInt8 → Bool} {l : List (List UInt8)} {k : Nat} {s : List UInt8} (h : l[k]? = some s) (hp : p s = true) (hlt : ∀ j t, j < k → l[j]? = some t → p t = false) : ixI p l = (k : Int) := by
  obtain ⟨hk, e⟩ := List.getElem?_eq_some_iff.1 h
  have e1 : l.findIdx p = k := by
    refine (List.findIdx_eq hk).2 ⟨by rw [e]; exact hp, fun j hj => ?_⟩
    have hjl : j < l.length := by omega
    rw [hlt j _ hj (List.getElem?_eq_getElem hjl)]
  unfold ixI; rw [e1, if_pos hk]
theorem ix_miss {p : List UInt8 → Bool} {l : List (List UInt8)} (hlt : ∀ j t, j < l.length → l[j]? = some t → p t = false) : ixI p l = -1 := by
  unfold ixI
  rw [if_neg]
  intro h
  have h1 := List.findIdx_getElem (p := p) (w := h)
  rw [hlt _ _ h (List.getElem?_eq_getElem h)] at h1
  cases h1
theorem ix_any_iff (p : List UInt8 → Bool) (l : List (List UInt8)) : l.any p = decide (0 ≤ ixI p l) := by
  unfold ixI
  cases h : l.any p
  · have : ¬ l.findIdx p < l.length := by
      intro h1
      have h2 := List.findIdx_getElem (p := p) (w := h1)
      rw [List.any_eq_false] at h
      exact h _ (List.getElem_mem h1) h2
    rw [if_neg this]; simp
  · have : l.findIdx p < l.length := by
      rw [List.findIdx_lt_length]
      rw [List.any_eq_true] at h
      exact h
    rw [if_pos this]; simp

def RetW (w : World) (l : List (List UInt8)) (e : Ending) (w' : World) : Prop := ∃ A c, e = .returned (.slice A l.length c) ∧ Words w' A c l ∧ Below w.heap.size w w' ∧ Own1 w' w.heap.size 9 (.slice A l.length c) (strs l)
end Go.Proofs.YtkicanegjkemoaaDoor

/- Line: which one any words are. -/
namespace Go.Proofs.YtkicanegjkemoaaDoor
open Go.RowKit
open Txt (sameS)
open Dag (Sl Own1)
set_option linter.unusedVariables false
set_option maxRecDepth 100000

theorem famD_eq (l : List (List UInt8)) : famD l = if l.findIdx isChild = 0 ∨ l.length ≤ l.findIdx isChild + 1 ∨ (l.drop (l.findIdx isChild + 1)).any isChild = true then none else some (l.set (l.findIdx isChild) childW) := rfl
theorem famD_some {l x : List (List UInt8)} (h : famD l = some x) : ∃ q, l.findIdx isChild = q ∧ 0 < q ∧ q + 1 < l.length ∧ (l.drop (q + 1)).any isChild = false ∧ x = l.set q childW ∧ ixI isChild l = (q : Int) := by
  rw [famD_eq] at h
  split at h
  · cases h
  · rename_i hn
    injection h with h
    refine ⟨_, rfl, by omega, by omega, ?_, h.symm, ?_⟩
    · cases e : (l.drop (l.findIdx isChild + 1)).any isChild
      · rfl
      · exact absurd (Or.inr (Or.inr e)) hn
    · unfold ixI; rw [if_pos (by omega)]
def RetFam (x : List (List UInt8)) (w : World) (e : Ending) (w' : World) : Prop := (∃ A c, e = .returned (.tuple #[.slice A x.length c, .int .i64 0]) ∧ Words w' A c x ∧ TypS w' A) ∧ Below w.heap.size w w'

end Go.Proofs.YtkicanegjkemoaaDoor

/- classify and Line. -/
namespace Go.Proofs.YtkicanegjkemoaaDoor
open Go.RowKit
open Txt (sameS)
open Dag (Sl Own1)
set_option linter.unusedVariables false
set_option maxRecDepth 100000

def RetCls (h : List UInt8) (t : List (List UInt8)) (w : World) (e : Ending) (w' : World) : Prop := Below w.heap.size w w' ∧ (match classD h t with
  | none => ∃ k : Int, e = .returned (.tuple #[.int .i64 k, .slice none 0 0, .int .i64 50])
  | some (k, x) => k < 9 ∧ ∃ A c, e = .returned (.tuple #[.int .i64 (k : Int), .slice A x.length c, .int .i64 0]) ∧ Words w' A c x ∧ TypS w' A)
theorem cls_none {h : List UInt8} {t : List (List UInt8)} {w w' : World} (hc : classD h t = none) (hb : Below w.heap.size w w') (k : Int) : RetCls h t w (.returned (.tuple #[.int .i64 k, .slice none 0 0, .int .i64 50])) w' :=
  ⟨hb, by rw [hc]; exact ⟨k, rfl⟩⟩
theorem cls_some {h : List UInt8} {t x : List (List UInt8)} {k : Nat} {w w' : World} (hc : classD h t = some (k, x)) (hk : k < 9) (hb : Below w.heap.size w w') {A : Option Addr} {c : Nat} (hW : Words w' A c x) (hT : TypS w' A) : RetCls h t w (.returned (.tuple #[.int .i64 (k : Int), .slice A x.length c, .int .i64 0])) w' :=
  ⟨hb, by rw [hc]; exact ⟨hk, A, c, rfl, hW, hT⟩⟩
theorem classD_none {h : List UInt8} {t : List (List UInt8)} (hk : keyOf? h = none) : classD h t = none := by unfold classD; rw [hk]
theorem classD_8 {h : List UInt8} {t : List (List UInt8)} (hk : keyOf? h = some 8) : classD h t = (famD t).map fun x => (8, x) := by unfold classD; rw [hk]; rfl
theorem classD_k {h : List UInt8} {t : List (List UInt8)} {k : Nat} (hk : keyOf? h = some k) (h8 : k ≠ 8) : classD h t = if (t.length : Int) = wordsN k then some (k, t) else none := by
  unfold classD
  rw [hk]
  split
  · rename_i e; cases e
  · rename_i e; injection e with e; exact absurd e h8
  · rename_i e; injection e with e; subst e; rfl

def RetLine (l : List (List UInt8)) (w : World) (e : Ending) (w' : World) : Prop := Below w.heap.size w w' ∧ ∃ A c, e = .returned (.tuple #[.string (sb (lineKw l)), .slice A (lineWs l).length c, .int .i64 (lineE l)]) ∧ Words w' A c (lineWs l)

end Go.Proofs.YtkicanegjkemoaaDoor


