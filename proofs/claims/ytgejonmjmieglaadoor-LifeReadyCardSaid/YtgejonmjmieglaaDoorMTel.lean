/- Rows of words in memory; which keyword a word is.
   Rows of elements of several cells; a draft in memory: what the lines up to some line say.
   A number of the whole workflow; a task more.
   Lines that tell something of one task. -/
import Derived.Test.YtgejonmjmieglaaDoorMFlw
import Derived.Deep.MidRow
import Derived.Lib.SliceRun
import Derived.OrdersHeld
import Derived.StillTail
import Derived.Deep.RegionHeld
import Derived.StillTailTactics
import Derived.Deep.RegionHeld3
import Derived.Deep.QuietTactic
import Derived.BigQuiet
namespace Go.Proofs.YtgejonmjmieglaaDoor
open Go.RowKit
open Txt (sameS)
open Dag (Sl)
set_option linter.unusedVariables false
set_option maxRecDepth 100000

def strs (l : List (List UInt8)) : List Value := l.map fun s => Value.string (sb s)
theorem strs_len (l : List (List UInt8)) : (strs l).length = l.length := by simp [strs]
theorem strs_app (a b : List (List UInt8)) : strs (a ++ b) = strs a ++ strs b := by simp [strs]
theorem strs_get {l : List (List UInt8)} {k : Nat} {s : List UInt8} (h : l[k]? = some s) : (strs l)[k]? = some (.string (sb s)) := by simp [strs, h]
theorem strs_get' {l : List (List UInt8)} {k : Nat} {u : Value} (h : (strs l)[k]? = some u) : ∃ s, l[k]? = some s ∧ u = .string (sb s) := by
  unfold strs at h
  rw [List.getElem?_map] at h
  cases hx : l[k]? with
  | none => rw [hx] at h; cases h
  | some x => rw [hx] at h; injection h with h; exact ⟨x, rfl, h.symm⟩
theorem strs_one (l : List (List UInt8)) : ∀ u ∈ strs l, u.oneCell' = true := by
  intro u hu
  obtain ⟨y, _, rfl⟩ := List.mem_map.1 hu
  rfl
theorem strs_set (l : List (List UInt8)) (k : Nat) (s : List UInt8) : strs (l.set k s) = (strs l).set k (.string (sb s)) := by simp [strs, List.map_set]
/-- '.slice A l.length c' holds the words l -/
def Words (w : World) (A : Option Addr) (c : Nat) (l : List (List UInt8)) : Prop := Sl w A c (strs l)
section
variable {w w' : World} {A : Option Addr} {c : Nat} {l : List (List UInt8)}
theorem Words.below (h : Words w A c l) (hb : Below w.heap.size w w') : Words w' A c l := Sl.below h hb
theorem Words.len (h : Words w A c l) : l.length ≤ c := by have := Sl.cap h; rwa [strs_len] at this
theorem Words.lenI (h : Words w A c l) : l.length ≤ 9223372036854775807 := Nat.le_trans h.len (by have := Sl.top h; simpa [maxLen] using this)
theorem Words.at_ (h : Words w A c l) {k : Nat} (hk : k < l.length) : ∃ b off s, A = some ⟨b, off, none⟩ ∧ l[k]? = some s ∧ w.cell? ⟨b, off + k, none⟩ = some (.string (sb s)) := by
  obtain ⟨b, off, u, e, hu, hc⟩ := Sl.at_ h (k := k) (by rw [strs_len]; exact hk)
  obtain ⟨x, hx, rfl⟩ := strs_get' hu
  exact ⟨b, off, x, e, hx, hc⟩
/-- the part from k on -/
theorem Words.drop (h : Words w A c l) {b off k : Nat} (e : A = some ⟨b, off, none⟩) (hk : k ≤ l.length) : Words w (some ⟨b, off + k, none⟩) (c - k) (l.drop k) := by
  subst e
  refine ⟨fun j u hu => ?_, ?_, Nat.le_trans (Nat.sub_le _ _) h.top, fun e => by cases e⟩
  · obtain ⟨s, hs, rfl⟩ := strs_get' hu
    rw [List.getElem?_drop] at hs
    obtain ⟨b2, off2, e2, hc⟩ := h.cells (k + j) _ (strs_get hs)
    injection e2 with e2; injection e2 with e2 e3
    subst e2 e3
    exact ⟨_, _, rfl, by rw [Nat.add_assoc]; exact hc⟩
  · have := h.len
    rw [strs_len, List.length_drop]; omega
/-- the first k -/
theorem Words.take (h : Words w A c l) {b off k : Nat} (e : A = some ⟨b, off, none⟩) (hk : k ≤ l.length) : Words w A c (l.take k) := by
  refine ⟨fun j u hu => ?_, ?_, h.top, h.nil⟩
  · obtain ⟨s, hs, rfl⟩ := strs_get' hu
    rw [List.getElem?_take] at hs
    split at hs
    · exact h.cells j _ (strs_get hs)
    · cases hs
  · have := h.len
    rw [strs_len, List.length_take]; omega
end
/-- its block bears the type of words -/
def TypS (w : World) (A : Option Addr) : Prop := ∀ a, A = some a → ∃ cs, w.heap[a.block]? = some (Obj.cells cs 9 (0, 0))
theorem TypS.below {w w' : World} {A : Option Addr} (h : TypS w A) (hb : Below w.heap.size w w') : TypS w' A := fun a ha => by
  obtain ⟨cs, hc⟩ := h a ha
  exact ⟨cs, (hb.block _ (Array.getElem?_eq_some_iff.1 hc).1).trans hc⟩
theorem typS_own {w : World} {base n c : Nat} {A : Option Addr} {us : List Value} (h : Dag.Own1 w base 9 (.slice A n c) us) : TypS w A := fun a ha => by
  subst ha
  exact Dag.Own1.typed h (b := a.block) rfl
theorem words_of {w : World} {A : Option Addr} {c : Nat} {zs : List ByteArray} {l : List (List UInt8)} (h : Txt.Strs w A zs) (e : zs.map Txt.lst = l) (hl : zs.length ≤ c) (hd : Txt.Sd w A c) : Words w A c l := by
  subst e
  refine ⟨fun k u hu => ?_, by rw [strs_len, List.length_map]; exact hl, hd.2.1, hd.2.2⟩
  obtain ⟨s, hs, rfl⟩ := strs_get' hu
  rw [List.getElem?_map] at hs
  cases hz : zs[k]? with
  | none => rw [hz] at hs; cases hs
  | some z =>
    rw [hz] at hs
    injection hs with hs
    subst hs
    obtain ⟨b, off, e, _, hc⟩ := h k z hz
    exact ⟨b, off, e, by rw [show sb (Txt.lst z) = z from sb_data z]; exact hc⟩

/-! the keyword -/
theorem keyOf_lt {s : List UInt8} {k : Nat} (h : keyOf? s = some k) : k < 9 ∧ isKw k s = true := by
  unfold keyOf? at h
  have := List.find?_some h
  exact ⟨by simpa using List.mem_of_find?_eq_some h, this⟩
def keyN (s : List UInt8) : Int := match keyOf? s with
  | some k => (k : Int)
  | none => -1
theorem keyOf_none {s : List UInt8} (h : ∀ j, j < 9 → isKw j s = false) : keyOf? s = none := by
  unfold keyOf?
  rw [List.find?_eq_none]
  intro x hx
  rw [h x (by simpa using hx)]; simp
theorem keyOf_some {s : List UInt8} {k : Nat} (hk : k < 9) (h : isKw k s = true) (hlt : ∀ j, j < k → isKw j s = false) : keyOf? s = some k := by
  unfold keyOf?
  rw [List.find?_range_eq_some]
  exact ⟨h, by simpa using hk, fun j hj => by simp [hlt j hj]⟩
theorem kwB_len (k : Nat) : (kwB k).length ≤ 9000000000000000000 := by
  unfold kwB; split <;> simp

def rowK (k : Nat) : List Value := [.string (sb (kwB k)), .int .i64 (wordsN k), .int .i64 (leastN k), .int .i64 (mostN k)]
def tabL : List Value := rowK 0 ++ (rowK 1 ++ (rowK 2 ++ (rowK 3 ++ (rowK 4 ++ (rowK 5 ++ (rowK 6 ++ (rowK 7 ++ rowK 8)))))))
theorem tab_range {w : World} (h : TabS w) : w.rangeAt 0 0 tabL := by
  have key : ∀ k j : Nat, k < 9 → j < 4 → ∀ v, (rowK k)[j]? = some v → w.cell? ⟨0, k * 4 + j, none⟩ = some v := by
    intro k j hk hj v hv
    obtain ⟨h0, h1, h2, h3⟩ := h k hk
    match j, hj with
    | 0, _ => simp only [rowK, List.getElem?_cons_zero, Option.some.injEq] at hv; subst hv; exact h0
    | 1, _ => simp only [rowK, List.getElem?_cons_zero, List.getElem?_cons_succ, Option.some.injEq] at hv; subst hv; exact h1
    | 2, _ => simp only [rowK, List.getElem?_cons_zero, List.getElem?_cons_succ, Option.some.injEq] at hv; subst hv; exact h2
    | 3, _ => simp only [rowK, List.getElem?_cons_zero, List.getElem?_cons_succ, Option.some.injEq] at hv; subst hv; exact h3
  have hrow : ∀ j : Nat, j < 36 → tabL[j]? = (rowK (j / 4))[j % 4]? := by
    intro j hj
    have h9 : j / 4 < 9 := by omega
    have h4 : j % 4 < 4 := by omega
    have e : j = 4 * (j / 4) + j % 4 := by omega
    generalize j / 4 = q at *
    generalize j % 4 = r at *
    subst e
    clear hj
    match q, h9, r, h4 with
    | 0, _, 0, _ | 0, _, 1, _ | 0, _, 2, _ | 0, _, 3, _ => rfl
    | 1, _, 0, _ | 1, _, 1, _ | 1, _, 2, _ | 1, _, 3, _ => rfl
    | 2, _, 0, _ | 2, _, 1, _ | 2, _, 2, _ | 2, _, 3, _ => rfl
    | 3, _, 0, _ | 3, _, 1, _ | 3, _, 2, _ | 3, _, 3, _ => rfl
    | 4, _, 0, _ | 4, _, 1, _ | 4, _, 2, _ | 4, _, 3, _ => rfl
    | 5, _, 0, _ | 5, _, 1, _ | 5, _, 2, _ | 5, _, 3, _ => rfl
    | 6, _, 0, _ | 6, _, 1, _ | 6, _, 2, _ | 6, _, 3, _ => rfl
    | 7, _, 0, _ | 7, _, 1, _ | 7, _, 2, _ | 7, _, 3, _ => rfl
    | 8, _, 0, _ | 8, _, 1, _ | 8, _, 2, _ | 8, _, 3, _ => rfl
  intro j v hv
  have hj : j < 36 := (List.getElem?_eq_some_iff.1 hv).1
  rw [hrow j hj] at hv
  have := key (j / 4) (j % 4) (by omega) (by omega) v hv
  rw [Nat.zero_add]
  have e : j / 4 * 4 + j % 4 = j := by omega
  rwa [e] at this
theorem tab_ix0 (W : World) : (Instr.index 99 (.agg tabL.toArray) (.int .i64 ((0 : Nat) : Int))).run Tryd.prog W = .ok (.agg #[.string (sb (kwB 0)), .int .i64 (wordsN 0), .int .i64 (leastN 0), .int .i64 (mostN 0)]) W := by kernel_rfl
theorem tab_ix1 (W : World) : (Instr.index 99 (.agg tabL.toArray) (.int .i64 ((1 : Nat) : Int))).run Tryd.prog W = .ok (.agg #[.string (sb (kwB 1)), .int .i64 (wordsN 1), .int .i64 (leastN 1), .int .i64 (mostN 1)]) W := by kernel_rfl
theorem tab_ix2 (W : World) : (Instr.index 99 (.agg tabL.toArray) (.int .i64 ((2 : Nat) : Int))).run Tryd.prog W = .ok (.agg #[.string (sb (kwB 2)), .int .i64 (wordsN 2), .int .i64 (leastN 2), .int .i64 (mostN 2)]) W := by kernel_rfl
theorem tab_ix3 (W : World) : (Instr.index 99 (.agg tabL.toArray) (.int .i64 ((3 : Nat) : Int))).run Tryd.prog W = .ok (.agg #[.string (sb (kwB 3)), .int .i64 (wordsN 3), .int .i64 (leastN 3), .int .i64 (mostN 3)]) W := by kernel_rfl
theorem tab_ix4 (W : World) : (Instr.index 99 (.agg tabL.toArray) (.int .i64 ((4 : Nat) : Int))).run Tryd.prog W = .ok (.agg #[.string (sb (kwB 4)), .int .i64 (wordsN 4), .int .i64 (leastN 4), .int .i64 (mostN 4)]) W := by kernel_rfl
theorem tab_ix5 (W : World) : (Instr.index 99 (.agg tabL.toArray) (.int .i64 ((5 : Nat) : Int))).run Tryd.prog W = .ok (.agg #[.string (sb (kwB 5)), .int .i64 (wordsN 5), .int .i64 (leastN 5), .int .i64 (mostN 5)]) W := by kernel_rfl
theorem tab_ix6 (W : World) : (Instr.index 99 (.agg tabL.toArray) (.int .i64 ((6 : Nat) : Int))).run Tryd.prog W = .ok (.agg #[.string (sb (kwB 6)), .int .i64 (wordsN 6), .int .i64 (leastN 6), .int .i64 (mostN 6)]) W := by kernel_rfl
theorem tab_ix7 (W : World) : (Instr.index 99 (.agg tabL.toArray) (.int .i64 ((7 : Nat) : Int))).run Tryd.prog W = .ok (.agg #[.string (sb (kwB 7)), .int .i64 (wordsN 7), .int .i64 (leastN 7), .int .i64 (mostN 7)]) W := by kernel_rfl
theorem tab_ix8 (W : World) : (Instr.index 99 (.agg tabL.toArray) (.int .i64 ((8 : Nat) : Int))).run Tryd.prog W = .ok (.agg #[.string (sb (kwB 8)), .int .i64 (wordsN 8), .int .i64 (leastN 8), .int .i64 (mostN 8)]) W := by kernel_rfl
theorem tab_ix (k : Nat) (hk : k < 9) (W : World) : (Instr.index 99 (.agg tabL.toArray) (.int .i64 (k : Int))).run Tryd.prog W = .ok (.agg #[.string (sb (kwB k)), .int .i64 (wordsN k), .int .i64 (leastN k), .int .i64 (mostN k)]) W :=
  match k, hk with
  | 0, _ => tab_ix0 W
  | 1, _ => tab_ix1 W
  | 2, _ => tab_ix2 W
  | 3, _ => tab_ix3 W
  | 4, _ => tab_ix4 W
  | 5, _ => tab_ix5 W
  | 6, _ => tab_ix6 W
  | 7, _ => tab_ix7 W
  | 8, _ => tab_ix8 W

end Go.Proofs.YtgejonmjmieglaaDoor

/- A PARENT line's words: CHILD among them; parts and copies of rows of words. -/
namespace Go.Proofs.YtgejonmjmieglaaDoor
open Go.RowKit
open Txt (sameS)
open Dag (Sl Own1)
set_option linter.unusedVariables false
set_option maxRecDepth 100000

def Short (l : List (List UInt8)) : Prop := ∀ s ∈ l, s.length ≤ 9000000000000000000
theorem Short.drop {l : List (List UInt8)} (h : Short l) (k : Nat) : Short (l.drop k) := fun s hs => h s (List.mem_of_mem_drop hs)
theorem Short.at_ {l : List (List UInt8)} (h : Short l) {k : Nat} {s : List UInt8} (hk : l[k]? = some s) : s.length ≤ 9000000000000000000 := h s (List.mem_of_getElem? hk)
def cutA (A : Option Addr) (c lo : Nat) : Option Addr := if c = lo then A else A.map (·.add lo)
theorem info_str : (Tryd.prog.info? 9).map (fun i => (i.zero, i.size, i.bytes)) = some (some (.string ⟨#[]⟩), 1, 16) := by kernel_rfl
theorem Words.cut {w : World} {A : Option Addr} {c : Nat} {l : List (List UInt8)} (h : Words w A c l) {k : Nat} (hk : k ≤ l.length) : Words w (cutA A c k) (c - k) (l.drop k) := by
  have hlc := h.len
  unfold cutA
  split
  · rename_i e
    have : l.drop k = [] := List.drop_eq_nil_of_le (by omega)
    rw [this]
    exact Sl.nilAny w A _ (Nat.le_trans (Nat.sub_le _ _) (Sl.top h)) (fun e2 => by have := Sl.nil h e2; omega)
  · cases A with
    | none => have := Sl.nil h rfl; omega
    | some a =>
      by_cases hn : l = []
      · subst hn
        simp at hk; subst hk
        simp only [Option.map_some, Nat.sub_zero, List.drop_zero]
        obtain ⟨b, off, sp⟩ := a
        exact Sl.nilAny w _ _ (Sl.top h) (fun e => by cases e)
      · obtain ⟨b, off, s, e, _, _⟩ := h.at_ (k := 0) (List.length_pos_iff.2 hn)
        injection e with e
        subst e
        rw [Option.map_some, Go.WideShapes.add_plain]
        exact h.drop rfl hk

/-- the first place, or -1 -/
def ixI (p : List UInt8 → Bool) (l : List (List UInt8)) : Int := if l.findIdx p < l.length then (l.findIdx p : Int) else -1
theorem ix_hit {p : List UInt8 → Bool} {l : List (List UInt8)} {k : Nat} {s : List UInt8} (h : l[k]? = some s) (hp : p s = true) (hlt : ∀ j t, j < k → l[j]? = some t → p t = false) : ixI p l = (k : Int) := by
  obtain ⟨hk, e⟩ := List.getElem?_eq_some_iff.1 h
  have e1 : l.findIdx p = k := by
    refine (List.findIdx_eq hk).2 ⟨by rw [e]; exact hp, fun j hj => ?_⟩
    have hjl : j < l.length := by omega
    rw [hlt j _ hj (List.getElem?_eq_getElem hjl)]
  unfold ixI; rw [e1, if_pos hk]
theorem ix_miss {p : List UInt8 → Bool} {l : List (List UInt8)} (hlt : ∀ j t, j < l.length → l[j]? = some t → p t = false) : ixI p l = -1 := by
  unfold ixI
  rw [if_neg]
  intro h
  have h1 := List.findIdx_getElem (p := p) (w := h)
  rw [hlt _ _ h (List.getElem?_eq_getElem h)] at h1
  cases h1
theorem ix_any_iff (p : List UInt8 → Bool) (l : List (List UInt8)) : l.any p = decide (0 ≤ ixI p l) := by
  unfold ixI
  cases h : l.any p
  · have : ¬ l.findIdx p < l.length := by
      intro h1
      have h2 := List.findIdx_getElem (p := p) (w := h1)
      rw [List.any_eq_false] at h
      exact h _ (List.getElem_mem h1) h2
    rw [if_neg this]; simp
  · have : l.findIdx p < l.length := by
      rw [List.findIdx_lt_length]
      rw [List.any_eq_true] at h
      exact h
    rw [if_pos this]; simp

def RetW (w : World) (l : List (List UInt8)) (e : Ending) (w' : World) : Prop := ∃ A c, e = .returned (.slice A l.length c) ∧ Words w' A c l ∧ Below w.heap.size w w' ∧ Own1 w' w.heap.size 9 (.slice A l.length c) (strs l)
end Go.Proofs.YtgejonmjmieglaaDoor

/- Line: which one any words are. -/
namespace Go.Proofs.YtgejonmjmieglaaDoor
open Go.RowKit
open Txt (sameS)
open Dag (Sl Own1)
set_option linter.unusedVariables false
set_option maxRecDepth 100000

theorem famD_eq (l : List (List UInt8)) : famD l = if l.findIdx isChild = 0 ∨ l.length ≤ l.findIdx isChild + 1 ∨ (l.drop (l.findIdx isChild + 1)).any isChild = true then none else some (l.set (l.findIdx isChild) childW) := rfl
theorem famD_some {l x : List (List UInt8)} (h : famD l = some x) : ∃ q, l.findIdx isChild = q ∧ 0 < q ∧ q + 1 < l.length ∧ (l.drop (q + 1)).any isChild = false ∧ x = l.set q childW ∧ ixI isChild l = (q : Int) := by
  rw [famD_eq] at h
  split at h
  · cases h
  · rename_i hn
    injection h with h
    refine ⟨_, rfl, by omega, by omega, ?_, h.symm, ?_⟩
    · cases e : (l.drop (l.findIdx isChild + 1)).any isChild
      · rfl
      · exact absurd (Or.inr (Or.inr e)) hn
    · unfold ixI; rw [if_pos (by omega)]
def RetFam (x : List (List UInt8)) (w : World) (e : Ending) (w' : World) : Prop := (∃ A c, e = .returned (.tuple #[.slice A x.length c, .int .i64 0]) ∧ Words w' A c x ∧ TypS w' A) ∧ Below w.heap.size w w'

end Go.Proofs.YtgejonmjmieglaaDoor

/- classify and Line. -/
namespace Go.Proofs.YtgejonmjmieglaaDoor
open Go.RowKit
open Txt (sameS)
open Dag (Sl Own1)
set_option linter.unusedVariables false
set_option maxRecDepth 100000

def RetCls (h : List UInt8) (t : List (List UInt8)) (w : World) (e : Ending) (w' : World) : Prop := Below w.heap.size w w' ∧ (match classD h t with
  | none => ∃ k : Int, e = .returned (.tuple #[.int .i64 k, .slice none 0 0, .int .i64 50])
  | some (k, x) => k < 9 ∧ ∃ A c, e = .returned (.tuple #[.int .i64 (k : Int), .slice A x.length c, .int .i64 0]) ∧ Words w' A c x ∧ TypS w' A)
theorem cls_none {h : List UInt8} {t : List (List UInt8)} {w w' : World} (hc : classD h t = none) (hb : Below w.heap.size w w') (k : Int) : RetCls h t w (.returned (.tuple #[.int .i64 k, .slice none 0 0, .int .i64 50])) w' :=
  ⟨hb, by rw [hc]; exact ⟨k, rfl⟩⟩
theorem cls_some {h : List UInt8} {t x : List (List UInt8)} {k : Nat} {w w' : World} (hc : classD h t = some (k, x)) (hk : k < 9) (hb : Below w.heap.size w w') {A : Option Addr} {c : Nat} (hW : Words w' A c x) (hT : TypS w' A) : RetCls h t w (.returned (.tuple #[.int .i64 (k : Int), .slice A x.length c, .int .i64 0])) w' :=
  ⟨hb, by rw [hc]; exact ⟨hk, A, c, rfl, hW, hT⟩⟩
theorem classD_none {h : List UInt8} {t : List (List UInt8)} (hk : keyOf? h = none) : classD h t = none := by unfold classD; rw [hk]
theorem classD_8 {h : List UInt8} {t : List (List UInt8)} (hk : keyOf? h = some 8) : classD h t = (famD t).map fun x => (8, x) := by unfold classD; rw [hk]; rfl
theorem classD_k {h : List UInt8} {t : List (List UInt8)} {k : Nat} (hk : keyOf? h = some k) (h8 : k ≠ 8) : classD h t = if (t.length : Int) = wordsN k then some (k, t) else none := by
  unfold classD
  rw [hk]
  split
  · rename_i e; cases e
  · rename_i e; injection e with e; exact absurd e h8
  · rename_i e; injection e with e; subst e; rfl

def RetLine (l : List (List UInt8)) (w : World) (e : Ending) (w' : World) : Prop := Below w.heap.size w w' ∧ ∃ A c, e = .returned (.tuple #[.string (sb (lineKw l)), .slice A (lineWs l).length c, .int .i64 (lineE l)]) ∧ Words w' A c (lineWs l)

end Go.Proofs.YtgejonmjmieglaaDoor
namespace Go.Proofs.YtgejonmjmieglaaDoor
open Go.RowKit
open Dag (Sl Own1 Ints ints num)
set_option linter.unusedVariables false
set_option maxRecDepth 100000

def flat {α : Type} (c : α → List Value) : List α → List Value
  | [] => []
  | a :: l => c a ++ flat c l
section
variable {α : Type} {c : α → List Value} {sz : Nat}
theorem flat_len (hc : ∀ a, (c a).length = sz) : ∀ l : List α, (flat c l).length = l.length * sz
  | [] => by simp [flat]
  | a :: l => by rw [flat, List.length_append, hc, flat_len hc l, List.length_cons, Nat.succ_mul, Nat.add_comm]
theorem flat_app (l : List α) (a : α) : flat c (l ++ [a]) = flat c l ++ c a := by
  induction l with
  | nil => simp [flat]
  | cons b l ih => rw [List.cons_append, flat, ih, flat, List.append_assoc]
theorem flat_get (hc : ∀ a, (c a).length = sz) : ∀ (l : List α) (k j : Nat) (a : α), l[k]? = some a → j < sz → (flat c l)[k * sz + j]? = (c a)[j]?
  | [], k, j, a, h, _ => by simp at h
  | b :: l, 0, j, a, h, hj => by
    simp at h; subst h
    rw [flat, Nat.zero_mul, Nat.zero_add, List.getElem?_append_left (by rw [hc]; exact hj)]
  | b :: l, k + 1, j, a, h, hj => by
    rw [List.getElem?_cons_succ] at h
    rw [flat, List.getElem?_append_right (by rw [hc, Nat.succ_mul]; omega), hc]
    rw [show (k + 1) * sz + j - sz = k * sz + j from by rw [Nat.succ_mul]; omega]
    exact flat_get hc l k j a h hj
theorem flat_set (hc : ∀ a, (c a).length = sz) : ∀ (l : List α) (k j : Nat) (a a' : α) (x : Value), l[k]? = some a → j < sz → (c a).set j x = c a' → (flat c l).set (k * sz + j) x = flat c (l.set k a')
  | [], k, j, a, a', x, h, _, _ => by simp at h
  | b :: l, 0, j, a, a', x, h, hj, he => by
    simp at h; subst h
    rw [flat, Nat.zero_mul, Nat.zero_add, List.set_append, if_pos (by rw [hc]; exact hj), he, List.set_cons_zero, flat]
  | b :: l, k + 1, j, a, a', x, h, hj, he => by
    rw [List.getElem?_cons_succ] at h
    rw [flat, List.set_append, if_neg (by rw [hc, Nat.succ_mul]; omega), hc, List.set_cons_succ, flat]
    rw [show (k + 1) * sz + j - sz = k * sz + j from by rw [Nat.succ_mul]; omega]
    rw [flat_set hc l k j a a' x h hj he]
end

/-- a row of elements of sz cells that the call made -/
abbrev OwnN (w : World) (base : Nat) (e : TypeId) (sz : Nat) (A : Option Addr) (n c : Nat) (us : List Value) : Prop := w.ownsRow base e sz (.slice A n c) n us
section
variable {w w' : World} {base n c sz : Nat} {A : Option Addr} {e : TypeId} {us : List Value}
theorem OwnN.keep (h : OwnN w base e sz A n c us) (hk : ∀ (b : Nat) (cs : Array Value), w.heap[b]? = some (Obj.cells cs e (0, 0)) → w'.heap[b]? = w.heap[b]?) : OwnN w' base e sz A n c us := by
  refine ⟨h.1, ?_⟩
  rcases h.2 with h0 | ⟨g, cap, cur, hv, hbg, hh, rest⟩
  · exact Or.inl h0
  · exact Or.inr ⟨g, cap, cur, hv, hbg, by rw [hk g _ hh]; exact hh, rest⟩
theorem OwnN.lt (h : OwnN w base e sz A n c us) {a : Addr} (ha : A = some a) : base ≤ a.block ∧ a.block < w.heap.size ∧ ∃ cs, w.heap[a.block]? = some (Obj.cells cs e (0, 0)) := by
  subst ha
  rcases h.2 with ⟨hv, _⟩ | ⟨g, cap, cur, hv, hbg, hh, _⟩
  · cases hv
  · injection hv with hv; injection hv with hv; subst hv
    exact ⟨hbg, Dag.blk_lt hh, _, hh⟩
theorem OwnN.cap (h : OwnN w base e sz A n c us) : n ≤ c ∧ c ≤ maxLen ∧ (A = none → c = 0) := by
  rcases h.2 with ⟨hv, hn⟩ | ⟨g, cap, cur, hv, hbg, hh, h1, h2, _⟩
  · injection hv with h1 h2 h3; subst h1 h3; exact ⟨by omega, Nat.zero_le _, fun _ => rfl⟩
  · injection hv with e1 e2 e3; subst e1 e3; exact ⟨h1, h2, fun e => by cases e⟩
/-- one cell of it -/
theorem OwnN.at_ (h : OwnN w base e sz A n c us) {i : Nat} {u : Value} (hk : us[i]? = some u) :
    ∃ g, A = some ⟨g, 0, none⟩ ∧ base ≤ g ∧ g < w.heap.size ∧ w.cell? ⟨g, i, none⟩ = some u ∧ w.frozen? ⟨g, i, none⟩ = false ∧ (∃ cs, w.heap[g]? = some (Obj.cells cs e (0, 0))) ∧
      (∀ x, OwnN (w.setCell ⟨g, i, none⟩ x) base e sz A n c (us.set i x)) := by
  have hh := h
  rcases h.2 with ⟨hv, h0⟩ | ⟨g, cap, cur, hv, hbg, hg, h1, h2, h3, h4⟩
  · have := h.1; rw [h0, Nat.zero_mul] at this
    rw [List.eq_nil_of_length_eq_zero this] at hk; simp at hk
  · injection hv with a1 a2 a3
    subst a1 a3
    have hi : i < us.length := (List.getElem?_eq_some_iff.1 hk).1
    refine ⟨_, rfl, hbg, Dag.blk_lt hg, ?_, Dag.blk_frozen hg i, ⟨_, hg⟩, fun x => (World.ownsRow.stored hh i x).1⟩
    rw [cell_of_row w g i cur _ (0, 0) hg]
    have e' : (cur.toList.take (n * sz))[i]? = some u := by rw [h4]; exact hk
    rw [List.getElem?_take, if_pos (by have := h.1; omega)] at e'
    rw [← e', Array.getElem?_toList]
end

/-! a draft -/
def taskC (t : TaskP) : List Value := [.string (sb t.name), .int .i64 t.nodes, .int .i64 t.wall, .int .i64 t.retry, .bool t.done, .slice none 0 0]
def marksC (f : Nat → Bool) : List Value := [.bool (f 0), .bool (f 1), .bool (f 2), .bool (f 3), .bool (f 4), .bool (f 5), .bool (f 6), .bool (f 7), .bool (f 8)]
def toldC (t : TaskP) : List Value := marksC t.told
theorem taskC_len (t : TaskP) : (taskC t).length = 6 := rfl
theorem toldC_len (t : TaskP) : (toldC t).length = 9 := rfl
def draftC (s : St) (TA : Option Addr) (tc : Nat) (HA : Option Addr) (hc : Nat) (LA : Option Addr) (lc M : Nat) : Array Value :=
  #[.string (sb s.name), .int .i64 s.deadline, .int .i64 s.priority, .slice TA s.tasks.length tc, .bool (s.had 0), .bool (s.had 1), .bool (s.had 2), .bool (s.had 3), .bool (s.had 4), .bool (s.had 5), .bool (s.had 6), .bool (s.had 7), .bool (s.had 8), .map (some M), .slice HA s.tasks.length hc, .slice LA s.links.length lc]
/-- numbers in a block of numbers -/
structure IntsT (w : World) (A : Option Addr) (c : Nat) (xs : List Int) : Prop where
  ints : Ints w A c xs
  typ : ∀ a, A = some a → ∃ cs, w.heap[a.block]? = some (Obj.cells cs 3 (0, 0))
theorem IntsT.keep {w w' : World} {A : Option Addr} {c : Nat} {xs : List Int} (h : IntsT w A c xs) (hk : ∀ (b : Nat) (cs : Array Value), w.heap[b]? = some (Obj.cells cs 3 (0, 0)) → w'.heap[b]? = w.heap[b]?) : IntsT w' A c xs := by
  refine ⟨⟨fun k u hu => ?_, h.ints.cap, h.ints.top, h.ints.nil⟩, fun a ha => ?_⟩
  · obtain ⟨b, off, e, hc⟩ := h.ints.cells k u hu
    obtain ⟨cs, hcs⟩ := h.typ _ e
    exact ⟨b, off, e, (cell_keep (p := ⟨b, off + k, none⟩) (hk b cs hcs)).trans hc⟩
  · obtain ⟨cs, hcs⟩ := h.typ a ha
    exact ⟨cs, (hk _ cs hcs).trans hcs⟩
/-- the same numbers, in whatever order -/
def SameM (xs : List Int) (p : List Nat) : Prop := ∀ x : Int, x ∈ xs ↔ x ∈ num p
def LinksAt (w : World) (lv : List Value) (links : List (List Nat × List Nat)) : Prop := lv.length = links.length * 2 ∧ ∀ i p c, links[i]? = some (p, c) →
  ∃ A1 c1 xs A2 c2 ys, lv[i * 2]? = some (.slice A1 xs.length c1) ∧ lv[i * 2 + 1]? = some (.slice A2 ys.length c2) ∧ IntsT w A1 c1 xs ∧ IntsT w A2 c2 ys ∧ SameM xs p ∧ SameM ys c ∧ xs.length ≤ 1000000 ∧ ys.length ≤ 1000000 ∧ xs.Nodup ∧ ys.Nodup
theorem LinksAt.keep {w w' : World} {lv : List Value} {links : List (List Nat × List Nat)} (h : LinksAt w lv links) (hk : ∀ (b : Nat) (cs : Array Value), w.heap[b]? = some (Obj.cells cs 3 (0, 0)) → w'.heap[b]? = w.heap[b]?) : LinksAt w' lv links := by
  refine ⟨h.1, fun i p c hi => ?_⟩
  obtain ⟨A1, c1, xs, A2, c2, ys, h1, h2, h3, h4, r⟩ := h.2 i p c hi
  exact ⟨A1, c1, xs, A2, c2, ys, h1, h2, h3.keep hk, h4.keep hk, r⟩
def nameI (ts : List TaskP) (s : List UInt8) : Option Int := if s ∈ namesP ts then some ((namesP ts).idxOf s : Int) else none
/-- the blocks of all of these types are as they were -/
def Kept (tys : List TypeId) (w w' : World) : Prop := (∀ ty ∈ tys, ∀ (b : Nat) (cs : Array Value), w.heap[b]? = some (Obj.cells cs ty (0, 0)) → w'.heap[b]? = w.heap[b]?)
def KeptM (w w' : World) : Prop := ∀ (b : Nat) es n, w.heap[b]? = some (Obj.map es n) → w'.heap[b]? = w.heap[b]?
theorem MapAt.keepM {w w' : World} {b n m : Nat} {g : List UInt8 → Option Int} (h : MapAt w b n g m) (hk : KeptM w w') : MapAt w' b n g m := by
  obtain ⟨D, ⟨es, clock, hb, r⟩, rest⟩ := h.ex
  exact ⟨D, ⟨es, clock, by rw [hk b _ _ hb]; exact hb, r⟩, rest⟩
section
variable {w w' : World} {base : Nat} {ts : List TaskP} {links : List (List Nat × List Nat)} {TA : Option Addr} {tc : Nat} {HA : Option Addr} {hc : Nat} {LA : Option Addr} {lc M : Nat}
end
theorem Kept.below {tys : List TypeId} {w w' : World} (hb : Below w.heap.size w w') : Kept tys w w' := fun ty _ b cs h => hb.block b (Dag.blk_lt h)
theorem KeptM.below {w w' : World} (hb : Below w.heap.size w w') : KeptM w w' := fun b es n h => hb.block b (Array.getElem?_eq_some_iff.1 h).1
theorem ty_ne {w : World} {g b : Nat} {cs cs' : Array Value} {t t' : TypeId} (h : w.heap[g]? = some (Obj.cells cs t (0, 0))) (h' : w.heap[b]? = some (Obj.cells cs' t' (0, 0))) (ht : t ≠ t') : g ≠ b := by
  intro e; subst e; rw [h] at h'; injection h' with h'; injection h' with _ h'; exact ht h'
theorem Kept.set {tys : List TypeId} {w : World} {g i : Nat} {u : Value} {cs : Array Value} {t : TypeId} (h : w.heap[g]? = some (Obj.cells cs t (0, 0))) (ht : t ∉ tys) : Kept tys w (w.setCell ⟨g, i, none⟩ u) :=
  fun ty hty b cs' hb => Dag.blk_other (ty_ne hb h (fun e => ht (e ▸ hty)))
theorem KeptM.set {w : World} {g i : Nat} {u : Value} {cs : Array Value} {t : TypeId} (h : w.heap[g]? = some (Obj.cells cs t (0, 0))) : KeptM w (w.setCell ⟨g, i, none⟩ u) :=
  fun b es n hb => Dag.blk_other (fun e => by subst e; rw [h] at hb; cases hb)
theorem Kept.grown {tys : List TypeId} {w w' : World} {v : Value} {n : Nat} {us : List Value} {base sz : Nat} {e : TypeId} (hg : w.grownBy w' v.ownBlock) (ho : w.ownsRow base e sz v n us) (ht : e ∉ tys) : Kept tys w w' := by
  intro ty hty b cs hb
  refine hg.block b (Dag.blk_lt hb) fun e2 => ?_
  rcases ho.2 with ⟨hv, _⟩ | ⟨g, cap, cur, hv, _, hh, _⟩
  · rw [hv] at e2; cases e2
  · rw [hv] at e2; injection e2 with e2; subst e2
    exact ty_ne hb hh (fun e3 => ht (e3 ▸ hty)) rfl
theorem KeptM.grown {w w' : World} {v : Value} {n : Nat} {us : List Value} {base sz : Nat} {e : TypeId} (hg : w.grownBy w' v.ownBlock) (ho : w.ownsRow base e sz v n us) : KeptM w w' := by
  intro b es m hb
  refine hg.block b (Array.getElem?_eq_some_iff.1 hb).1 fun e2 => ?_
  rcases ho.2 with ⟨hv, _⟩ | ⟨g, cap, cur, hv, _, hh, _⟩
  · rw [hv] at e2; cases e2
  · rw [hv] at e2; injection e2 with e2; subst e2
    rw [hh] at hb; cases hb
theorem Kept.map {tys : List TypeId} {w w' : World} {M n m : Nat} {g : List UInt8 → Option Int} (hg : w.grownBy w' (some M)) (hm : MapAt w M n g m) : Kept tys w w' := by
  intro ty hty b cs hb
  obtain ⟨D, ⟨es, clock, hM, r⟩, rest⟩ := hm.ex
  refine hg.block b (Dag.blk_lt hb) fun e2 => ?_
  injection e2 with e2; subst e2
  rw [hM] at hb; cases hb

end Go.Proofs.YtgejonmjmieglaaDoor

/- A number of a line; the lines that name the workflow or tell its numbers. -/
namespace Go.Proofs.YtgejonmjmieglaaDoor
open Go.RowKit
open Clk (readE readV)
open Txt (nameD)
set_option linter.unusedVariables false
set_option maxRecDepth 100000

def numV (k : Nat) (s : List UInt8) : Int := if numE k s = 0 then readV s else 0
def RetNum (k : Nat) (s : List UInt8) (w : World) (e : Ending) (w' : World) : Prop := e = .returned (.tuple #[.int .i64 (numV k s), .int .i64 (numE k s)]) ∧ Below w.heap.size w w'
section
variable {w : World} {base D : Nat} {s : St} {TA HA LA : Option Addr} {tc hc lc M : Nat}
end
end Go.Proofs.YtgejonmjmieglaaDoor

/- Regions that draw their order: reads, one or two operations that make memory, and behind them what waits for all of these. -/
namespace Go.Proofs.YtgejonmjmieglaaDoor
set_option linter.unusedVariables false

section
variable {P : Program} {ops : Array Oper} {Q : Exit → Act → World → Prop} {md : Region.Mode} {S : World → Prop} {n : Nat}

/-- whatever order is picked from here on; S holds behind each operation ahead of number n -/
def wpAnyR (P : Program) (md : Region.Mode) (ops : Array Oper) (Q : Exit → Act → World → Prop) (S : World → Prop) (n : Nat) : Nat → Array Bool → Act → World → Prop
  | 0, listed, a, w => Region.ready md ops listed = [] ∧ Q .normal a w
  | fuel + 1, listed, a, w =>
    (Region.ready md ops listed = [] → Q .normal a w) ∧
    ∀ i ∈ Region.ready md ops listed, wpOp P ops Q i (fun a' w' => (n ≤ i ∨ S w') ∧ wpAnyR P md ops Q S n fuel (listed.setIfInBounds i true) a' w') a w

theorem wpAny_of_R : ∀ (fuel : Nat) (listed : Array Bool) (a : Act) (w : World), wpAnyR P md ops Q S n fuel listed a w → wpAny P md ops Q fuel listed a w
  | 0, _, _, _, h => h
  | fuel + 1, _, _, _, h => ⟨h.1, fun i hi => wpOp_mono (fun a' w' h' => wpAny_of_R fuel _ a' w' h'.2) (h.2 i hi)⟩

theorem wpAnyR_first {i : Nat} {oi : Oper} {v : Value} (hi : ops[i]? = some oi) (hsel : ∀ (j : Nat) (o : Oper) cs b, ops[j]? = some o → o.op ≠ .select cs b)
    (hQ : ∀ c a w, Q (.panic c) (a.put oi.dst v) w → Q (.panic c) a w)
    (hl : ∀ j oj, ops[j]? = some oj → n ≤ j → ∃ e ∈ oj.after, Region.binds md e = true ∧ e.on = i) :
    ∀ (fuel : Nat) (listed : Array Bool) (a : Act) (w : World),
      (∀ j oj, ops[j]? = some oj → j ≠ i → listed.getD j true = false → (∀ e ∈ oj.after, Region.binds md e = true → e.on ≠ i) → oi.apart ops oj = true) →
      i ∈ Region.ready md ops listed → YieldsIf P ops S oi v a → S w →
      wpAnyR P md ops Q S n fuel (listed.setIfInBounds i true) (a.put oi.dst v) w → wpAnyR P md ops Q S n (fuel + 1) listed a w := by
  intro fuel
  induction fuel with
  | zero =>
    intro listed a w _ hr hy hS H
    refine ⟨fun h => (by rw [h] at hr; cases hr), fun j hj => ?_⟩
    by_cases hji : j = i
    · subst hji; exact hy.wpOp hi hS ⟨Or.inr hS, H⟩
    · have := ready_mono hj hji
      rw [H.1] at this
      cases this
  | succ fuel ih =>
    intro listed a w hfree hr hy hS H
    refine ⟨fun h => (by rw [h] at hr; cases hr), fun j hj => ?_⟩
    by_cases hji : j = i
    · subst hji; exact hy.wpOp hi hS ⟨Or.inr hS, H⟩
    · have h1 := H.2 j (ready_mono hj hji)
      obtain ⟨hjun, oj, hoj, hall⟩ := mem_ready.1 hj
      have hnot : ∀ e ∈ oj.after, Region.binds md e = true → e.on ≠ i := fun e he hb heq => by
        have h1 := hall e he hb
        have h0 := (mem_ready.1 hr).1
        rw [heq] at h1
        rcases Nat.lt_or_ge i listed.size with h' | h'
        · simp [h'] at h0 h1; rw [h0] at h1; cases h1
        · simp [Array.getElem?_eq_none h'] at h1
      have h2 := wpOp_putIf hoj (hfree j oj hoj hji hjun hnot) (fun cs b => hsel i oi cs b hi) (fun cs b => hsel j oj cs b hoj) hQ hy h1
      have hfree' : ∀ k ok, ops[k]? = some ok → k ≠ i → (listed.setIfInBounds j true).getD k true = false →
          (∀ e ∈ ok.after, Region.binds md e = true → e.on ≠ i) → oi.apart ops ok = true := fun k ok hk hki hun hno => by
        refine hfree k ok hk hki ?_ hno
        by_cases hjk : j = k
        · subst hjk; exact hjun
        · rw [getD_set_ne true hjk] at hun; exact hun
      refine wpOp_mono (fun a' w' h3 => ?_) h2
      have hS' : S w' := by
        rcases h3.2.1 with h | h
        · obtain ⟨e, he, hb, hon⟩ := hl j oj hoj h
          exact absurd hon (hnot e he hb)
        · exact h
      refine ⟨Or.inr hS', ih (listed.setIfInBounds j true) a' w' hfree' (ready_mono hr (Ne.symm hji)) h3.1 hS' ?_⟩
      rw [Array.setIfInBounds_comm _ _ hji]
      exact h3.2.2

/-- all from number n on wait for number i -/
def lateB (md : Region.Mode) (ops : Array Oper) (n i : Nat) : Bool := (List.range ops.size).all fun j => decide (j < n) || Region.waitsFor md ops j i
theorem lateB_spec {i : Nat} (h : lateB md ops n i = true) (j : Nat) (oj : Oper) (hj : ops[j]? = some oj) (hn : n ≤ j) : ∃ e ∈ oj.after, Region.binds md e = true ∧ e.on = i := by
  have h1 := List.all_eq_true.1 h j (List.mem_range.2 (Array.getElem?_eq_some_iff.1 hj).1)
  rw [show decide (j < n) = false from decide_eq_false (by omega), Bool.false_or] at h1
  obtain ⟨oj', hoj', e, he, hb, hon⟩ := Region.waitsFor_spec h1
  rw [hj] at hoj'
  injection hoj' with hoj'
  subst hoj'
  exact ⟨e, he, hb, hon⟩
theorem wpAnyR_take {i : Nat} {oi : Oper} {v : Value} {fuel : Nat} {listed : Array Bool} {a : Act} {w : World} (hi : ops[i]? = some oi)
    (hs : Region.noSelect ops = true) (hf : Region.free md ops listed i = true) (hr : (Region.ready md ops listed).contains i = true) (hl : lateB md ops n i = true)
    (hQ : ∀ c a w, Q (.panic c) (a.put oi.dst v) w → Q (.panic c) a w) (hy : YieldsIf P ops S oi v a) (hS : S w)
    (h : wpAnyR P md ops Q S n fuel (listed.setIfInBounds i true) (a.put oi.dst v) w) : wpAnyR P md ops Q S n (fuel + 1) listed a w :=
  wpAnyR_first hi (Region.noSelect_spec hs) hQ (lateB_spec hl) fuel listed a w (Region.free_spec hi hf) (by simpa using hr) hy hS h
/-- the only one that may come up -/
theorem wpAnyR_one {i : Nat} {oi : Oper} {fuel : Nat} {listed : Array Bool} {a : Act} {w : World} (hi : ops[i]? = some oi) (hr : Region.ready md ops listed = [i])
    (h : ∀ K : Act → World → Prop, Shut (∀ a' w', S w' → wpAnyR P md ops Q S n fuel (listed.setIfInBounds i true) a' w' → K a' w') → if Region.wanted oi (yielded ops a.tmps) = true then Oper.wp P oi a w K Q else K (a.put oi.dst undef) w) :
    wpAnyR P md ops Q S n (fuel + 1) listed a w := by
  refine ⟨fun h1 => (by rw [hr] at h1; cases h1), fun j hj => ?_⟩
  rw [hr] at hj
  have hji : j = i := by simpa using hj
  subst hji
  exact wpOp_step hi fun K' hK => h K' (fun a' w' hS hW => hK a' w' ⟨Or.inr hS, hW⟩)
/-- what is left goes in one order -/
theorem wpAnyR_seq : ∀ (l : List Oper) (k : Nat) (listed : Array Bool) (a : Act) (w : World), n ≤ k → (∀ j, l[j]? = ops[k + j]?) →
    Region.seqB md ops l.length k listed = true → wpList P ops Q l a w → wpAnyR P md ops Q S n l.length listed a w
  | [], _, _, _, _, _, _, hB, h => ⟨by simpa [Region.seqB] using hB, h⟩
  | o :: l, k, listed, a, w, hn, hl, hB, h => by
    have h0 : ops[k]? = some o := by simpa using (hl 0).symm
    simp only [List.length_cons, Region.seqB, Bool.and_eq_true, decide_eq_true_eq] at hB
    refine ⟨fun h1 => (by rw [hB.1] at h1; cases h1), fun i hi => ?_⟩
    rw [hB.1] at hi
    have hik : i = k := by simpa using hi
    subst hik
    have hw : wpOp P ops Q i (wpList P ops Q l) a w := by unfold wpOp; simp only [h0]; exact h
    exact wpOp_mono (fun a' w' h' => ⟨Or.inl hn, wpAnyR_seq l (i + 1) _ a' w' (by omega) (fun j => by have := hl (j + 1); simpa [Nat.add_assoc, Nat.add_comm 1 j] using this) hB.2 h'⟩) hw
theorem wp_region_R {id : Nat} {a : Act} {w : World} (S : World → Prop) (n : Nat) (hm : P.follows .mixedOrders = true) (h : wpAnyR P .any ops Q S n ops.size (Array.replicate ops.size false) a w.drew) : (Code.region id ops true).wp P Q a w :=
  wp_region_any hm (wpAny_of_R _ _ _ _ h)
/-! the three parts of such a region -/
/-- reads, each of which yields in every world that meets S -/
def wpLead (P : Program) (ops : Array Oper) (S : World → Prop) (L : Act → Prop) : List Oper → Act → Prop
  | [], a => L a
  | o :: l, a => ∃ v, YieldsIf P ops S o v a ∧ wpLead P ops S L l (a.put o.dst v)
/-- operations behind each of which S holds -/
def wpMid (P : Program) (ops : Array Oper) (Q : Exit → Act → World → Prop) (S : World → Prop) (L : Act → World → Prop) : List Oper → Act → World → Prop
  | [], a, w => L a w
  | o :: l, a, w => ∀ K : Act → World → Prop, Shut (∀ a' w', S w' → wpMid P ops Q S L l a' w' → K a' w') → if Region.wanted o (yielded ops a.tmps) = true then Oper.wp P o a w K Q else K (a.put o.dst undef) w
def setAll : Nat → Nat → Array Bool → Array Bool
  | 0, _, listed => listed
  | f + 1, k, listed => setAll f (k + 1) (listed.setIfInBounds k true)
def leadB (md : Region.Mode) (ops : Array Oper) (n : Nat) : Nat → Nat → Array Bool → Bool
  | 0, _, _ => true
  | f + 1, k, listed => (Region.ready md ops listed).contains k && Region.free md ops listed k && lateB md ops n k && leadB md ops n f (k + 1) (listed.setIfInBounds k true)
def midB (md : Region.Mode) (ops : Array Oper) : Nat → Nat → Array Bool → Bool
  | 0, _, _ => true
  | f + 1, k, listed => decide (Region.ready md ops listed = [k]) && midB md ops f (k + 1) (listed.setIfInBounds k true)
theorem wpAnyR_lead (hs : Region.noSelect ops = true) (hQ : ∀ c a d v w, Q (.panic c) (Act.put a d v) w → Q (.panic c) a w) {w : World} (hS : S w) : ∀ (l : List Oper) (k g : Nat) (listed : Array Bool) (a : Act), (∀ j, j < l.length → l[j]? = ops[k + j]?) →
    leadB md ops n l.length k listed = true → wpLead P ops S (fun a' => wpAnyR P md ops Q S n g (setAll l.length k listed) a' w) l a → wpAnyR P md ops Q S n (l.length + g) listed a w
  | [], k, g, listed, a, _, _, h => by simpa [wpLead, setAll] using h
  | o :: l, k, g, listed, a, hl, hB, h => by
    have h0 : ops[k]? = some o := by simpa using (hl 0 (by simp)).symm
    simp only [List.length_cons, leadB, Bool.and_eq_true] at hB
    obtain ⟨⟨⟨b1, b2⟩, b3⟩, b4⟩ := hB
    obtain ⟨v, hy, h⟩ := h
    rw [List.length_cons, show l.length + 1 + g = (l.length + g) + 1 from by omega]
    refine wpAnyR_take h0 hs b2 b1 b3 (fun c a w => hQ c a _ _ w) hy hS ?_
    exact wpAnyR_lead hs hQ hS l (k + 1) g _ _ (fun j hj => by have := hl (j + 1) (by simp; omega); simpa [Nat.add_assoc, Nat.add_comm 1 j] using this) b4 h
theorem wpAnyR_mid : ∀ (l : List Oper) (k g : Nat) (listed : Array Bool) (a : Act) (w : World), (∀ j, j < l.length → l[j]? = ops[k + j]?) →
    midB md ops l.length k listed = true → wpMid P ops Q S (fun a' w' => wpAnyR P md ops Q S n g (setAll l.length k listed) a' w') l a w → wpAnyR P md ops Q S n (l.length + g) listed a w
  | [], k, g, listed, a, w, _, _, h => by simpa [wpMid, setAll] using h
  | o :: l, k, g, listed, a, w, hl, hB, h => by
    have h0 : ops[k]? = some o := by simpa using (hl 0 (by simp)).symm
    simp only [List.length_cons, midB, Bool.and_eq_true, decide_eq_true_eq] at hB
    rw [List.length_cons, show l.length + 1 + g = (l.length + g) + 1 from by omega]
    refine wpAnyR_one h0 hB.1 fun K hK => h K fun a' w' hS' hW => hK.out a' w' hS' ?_
    exact wpAnyR_mid l (k + 1) g _ _ _ (fun j hj => by have := hl (j + 1) (by simp; omega); simpa [Nat.add_assoc, Nat.add_comm 1 j] using this) hB.2 hW
def partsB (ops : Array Oper) (m n : Nat) : Bool :=
  Region.noSelect ops && decide (m ≤ n) && decide (n ≤ ops.size) && leadB .any ops n m 0 (Array.replicate ops.size false) && midB .any ops (n - m) m (setAll m 0 (Array.replicate ops.size false)) &&
    Region.seqB .any ops (ops.size - n) n (setAll (n - m) m (setAll m 0 (Array.replicate ops.size false)))
/-- m reads; then up to number n what makes memory; then what waits for all of these -/
theorem wp_region_parts {l : List Oper} {id : Nat} {a : Act} {w : World} (S : World → Prop) (m n : Nat) (hm : P.follows .mixedOrders = true) (hB : partsB l.toArray m n = true) (hQ : ∀ c a d v w, Q (.panic c) (Act.put a d v) w → Q (.panic c) a w) (hS : S w.drew)
    (h : wpLead P l.toArray S (fun a' => wpMid P l.toArray Q S (fun a2 w2 => wpList P l.toArray Q (l.drop n) a2 w2) ((l.take n).drop m) a' w.drew) (l.take m) a) : (Code.region id l.toArray true).wp P Q a w := by
  simp only [partsB, Bool.and_eq_true, decide_eq_true_eq] at hB
  obtain ⟨⟨⟨⟨⟨b0, b1⟩, b2⟩, b3⟩, b4⟩, b5⟩ := hB
  simp only [List.size_toArray] at b2 b3 b4 b5
  have e1 : (l.take m).length = m := by rw [List.length_take]; omega
  have e2 : ((l.take n).drop m).length = n - m := by rw [List.length_drop, List.length_take]; omega
  have e3 : (l.drop n).length = l.length - n := List.length_drop
  refine wp_region_R S n hm ?_
  rw [List.size_toArray, show l.length = (l.take m).length + (((l.take n).drop m).length + (l.drop n).length) from by rw [e1, e2, e3]; omega]
  refine wpAnyR_lead b0 hQ hS (l.take m) 0 _ _ a (fun j hj => by rw [e1] at hj; rw [List.getElem?_take, if_pos hj, List.getElem?_toArray, Nat.zero_add]) (by rw [e1, e2, e3, show m + (n - m + (l.length - n)) = l.length from by omega]; exact b3) ?_
  revert h
  have step : ∀ (L L' : Act → Prop), (∀ a, L a → L' a) → ∀ (q : List Oper) (a : Act), wpLead P l.toArray S L q a → wpLead P l.toArray S L' q a := by
    intro L L' hL q
    induction q with
    | nil => exact fun a h => hL a h
    | cons o q ih => exact fun a ⟨v, hy, h⟩ => ⟨v, hy, ih _ h⟩
  refine step _ _ (fun a' h => ?_) _ _
  refine wpAnyR_mid ((l.take n).drop m) m _ _ a' _ (fun j hj => by rw [e2] at hj; rw [List.getElem?_drop, List.getElem?_take, if_pos (by omega), List.getElem?_toArray]) (by rw [e1, e2, e3, show m + (n - m + (l.length - n)) = l.length from by omega]; exact b4) ?_
  revert h
  have step2 : ∀ (L L' : Act → World → Prop), (∀ a w, L a w → L' a w) → ∀ (q : List Oper) (a : Act) (w : World), wpMid P l.toArray Q S L q a w → wpMid P l.toArray Q S L' q a w := by
    intro L L' hL q
    induction q with
    | nil => exact fun a w h => hL a w h
    | cons o q ih => exact fun a w h K hK => h K fun a' w' hS' hW => hK.out a' w' hS' (ih _ _ hW)
  refine step2 _ _ (fun a2 w2 h => ?_) _ _ _
  refine wpAnyR_seq (l.drop n) n _ a2 w2 (Nat.le_refl _) (fun j => by rw [List.getElem?_drop, List.getElem?_toArray]) (by rw [e1, e2, e3, show m + (n - m + (l.length - n)) = l.length from by omega]; exact b5) h
theorem wpLead_step {L : Act → Prop} {o : Oper} {l : List Oper} {a : Act} {v : Value} (hw : Region.wanted o (yielded ops a.tmps) = true) (hy : ∀ w, S w → (execOp a.eval o).run P w = .ok (.value v) w) (h : wpLead P ops S L l (a.put o.dst v)) : wpLead P ops S L (o :: l) a := ⟨v, Or.inl ⟨hw, hy⟩, h⟩
theorem wpMid_nil {L : Act → World → Prop} {a : Act} {w : World} (h : L a w) : wpMid P ops Q S L [] a w := h
end

end Go.Proofs.YtgejonmjmieglaaDoor
namespace Go.Proofs.YtgejonmjmieglaaDoor
open Go.RowKit
open Clk (readE readV)
open Txt (nameD)
set_option linter.unusedVariables false
set_option maxRecDepth 100000

theorem taskC_one (t : TaskP) : ∀ u ∈ taskC t, u.oneCell' = true := by
  intro u hu
  simp only [taskC, List.mem_cons, List.mem_nil_iff, or_false] at hu
  rcases hu with rfl | rfl | rfl | rfl | rfl | rfl <;> rfl
theorem toldC_one (t : TaskP) : ∀ u ∈ toldC t, u.oneCell' = true := by
  intro u hu
  simp only [toldC, marksC, List.mem_cons, List.mem_nil_iff, or_false] at hu
  rcases hu with rfl | rfl | rfl | rfl | rfl | rfl | rfl | rfl | rfl <;> rfl
/-- append of one element of sz cells onto a row of one's own -/
theorem wpList_apn {w : World} {ops : Array Oper} {rest : List Oper} {o : Oper} {a : Act} {Q : Exit → Act → World → Prop} (hgd : o.guard = none) (s x : Operand) (t e : TypeId) (z : Value) (sz bytes : Nat)
    (hu : Tryd.prog.underlying t = some (.slice e)) (hinfo : (Tryd.prog.info? e).map (fun i => (i.zero, i.size, i.bytes)) = some (some z, sz, bytes)) (hz : z.cells.size = sz) (hsz : 0 < sz) (hby : bytes ≤ 100)
    (ho : o.op = .call { callee := .builtin .append, args := #[s, x], argTypes := #[t, t] })
    (base : Nat) (A : Option Addr) (n c : Nat) (us : List Value) (hs : a.eval s = .slice A n c) (hown : OwnN w base e sz A n c us) (g cx : Nat) (news : List Value) (hx : a.eval x = .slice (some ⟨g, 0, none⟩) 1 cx) (hl : news.length = sz)
    (hr : ∃ ty, w.heap[g]? = some (Obj.cells news.toArray ty (0, 0))) (hone : ∀ u ∈ news, u.oneCell' = true) (hlen : n ≤ 1000000) (hbase : base ≤ w.heap.size)
    (h : ∀ (A' : Option Addr) (c' : Nat) (w' : World), OwnN w' base e sz A' (n + 1) c' (us ++ news) → w.grownBy w' (Value.slice A n c).ownBlock → Below base w w' →
      wpList Tryd.prog ops Q rest (a.put o.dst (.slice A' (n + 1) c')) w') :
    wpList Tryd.prog ops Q (o :: rest) a w := by
  obtain ⟨i0, hi0, hz0, hz1, hz2⟩ := info_parts hinfo
  obtain ⟨ty, hr⟩ := hr
  refine wpList_append_own_at w hgd s x _ ho base _ i0 z sz bytes hu hi0 hz0 hz1 hz2 hz hsz _ n us hs hown ⟨g, 0, none⟩ 1 cx news hx (by omega) ?_ hone (by simp only [maxLen]; omega) ?_ hbase ?_
  · intro j u hu'
    rw [Go.WideShapes.add_plain, Nat.zero_add, Dag.blk_cell hr, List.getElem?_toArray]
    exact hu'
  · have : (n + 1) * bytes ≤ 1000001 * 100 := Nat.mul_le_mul (by omega) hby
    omega
  · intro v' w' hown' hg _ hb
    rcases hown'.2 with ⟨hv, h0⟩ | ⟨g2, cap, cur, hv, hbg, hh, rst⟩
    · omega
    · subst hv
      exact h _ _ w' hown' hg ((Below.refl _ _).grown hg hbase fun k hk => by
        cases A with
        | none => cases hk
        | some a' => injection hk with hk; subst hk; exact (OwnN.lt hown rfl).1)
theorem info_task : (Tryd.prog.info? 64).map (fun i => (i.zero, i.size, i.bytes)) = some (some (.agg #[.string ⟨#[]⟩, .int .i64 0, .int .i64 0, .int .i64 0, .bool false, .slice none 0 0]), 6, 72) := by kernel_rfl
theorem drew_below (w : World) : Below w.heap.size w w.drew := ⟨rfl, rfl, rfl, Nat.le_refl _, fun _ _ => rfl⟩
/-- the same, as one step of a region that draws -/
theorem step_apn {ops : Array Oper} {o : Oper} {a : Act} {w : World} {K : Act → World → Prop} {Q : Exit → Act → World → Prop} {E : Prop} (hgd : o.guard = none) (s x : Operand) (t e : TypeId) (z : Value) (sz bytes : Nat)
    (hu : Tryd.prog.underlying t = some (.slice e)) (hinfo : (Tryd.prog.info? e).map (fun i => (i.zero, i.size, i.bytes)) = some (some z, sz, bytes)) (hz : z.cells.size = sz) (hsz : 0 < sz) (hby : bytes ≤ 100)
    (ho : o.op = .call { callee := .builtin .append, args := #[s, x], argTypes := #[t, t] })
    (base : Nat) (A : Option Addr) (n c : Nat) (us : List Value) (hs : a.eval s = .slice A n c) (hown : OwnN w base e sz A n c us) (g cx : Nat) (news : List Value) (hx : a.eval x = .slice (some ⟨g, 0, none⟩) 1 cx) (hl : news.length = sz)
    (hr : ∃ ty, w.heap[g]? = some (Obj.cells news.toArray ty (0, 0))) (hone : ∀ u ∈ news, u.oneCell' = true) (hlen : n ≤ 1000000) (hbase : base ≤ w.heap.size)
    (h : ∀ (A' : Option Addr) (c' : Nat) (w' : World), OwnN w' base e sz A' (n + 1) c' (us ++ news) → w.grownBy w' (Value.slice A n c).ownBlock → Below base w w' → K (a.put o.dst (.slice A' (n + 1) c')) w') :
    if Region.wanted o (yielded ops a.tmps) = true then Oper.wp Tryd.prog o a w K Q else E := by
  have hw : Region.wanted o (yielded ops a.tmps) = true := by simp [Region.wanted, hgd]
  rw [if_pos hw]
  obtain ⟨i0, hi0, hz0, hz1, hz2⟩ := info_parts hinfo
  obtain ⟨ty, hr⟩ := hr
  have hby2 : (n + 1) * bytes ≤ 1000001 * 100 := Nat.mul_le_mul (by omega) hby
  obtain ⟨v', w', hrun, r1, r2, r3, r4⟩ := run_append_own_at (P := Tryd.prog) w base t o.type e i0 z sz bytes hu hi0 hz0 hz1 hz2 hz hsz (.slice A n c) n us hown ⟨g, 0, none⟩ 1 cx news (by omega) (fun j u hu' => by
    rw [Go.WideShapes.add_plain, Nat.zero_add, Dag.blk_cell hr, List.getElem?_toArray]; exact hu') hone (by simp only [maxLen]; omega) (by omega) hbase
  unfold Oper.wp
  simp [execOp, ho, resolve, invoke, builtin, hs, hx, hrun, Result.andThen]
  rcases r1.2 with ⟨hv, h0⟩ | ⟨g2, cap, cur, hv, hbg, hh, rst⟩
  · omega
  · subst hv
    exact h _ _ w' r1 r2 ((Below.refl _ _).grown r2 hbase fun k hk => by
      cases A with
      | none => cases hk
      | some a' => injection hk with hk; subst hk; exact (OwnN.lt hown rfl).1)
theorem push_lt {α : Type} {a : Array α} {b : Nat} {x y : α} (h : a[b]? = some x) : (a.push y)[b]? = a[b]? := by
  have := (Array.getElem?_eq_some_iff.1 h).1
  rw [Array.getElem?_push, if_neg (by omega)]
theorem pushed_new {w W : World} {o : Obj} {g : Nat} (h : W.heap = w.heap.push o) (hg : w.heap.size = g) : W.heap[g]? = some o := by subst hg; rw [h]; simp
theorem pushed_cell {w W : World} {o : Obj} {p : Addr} {v : Value} (h : W.heap = w.heap.push o) (hc : w.cell? p = some v) : W.cell? p = some v :=
  (cell_keep (by rw [h]; exact push_lt (Array.getElem?_eq_getElem (World.block_lt_of_cell? w _ hc)))).trans hc
theorem pushed_trans {w w3 W w4 : World} {base : Nat} (hb4 : Below base W w4) (hp : ∃ o, W.heap = w3.heap.push o) (h1 : W.os = w3.os) (h2 : W.tape = w3.tape) (h3 : W.output = w3.output) (hb3 : Below base w w3) (hle : base ≤ w3.heap.size) : Below base w w4 := by
  obtain ⟨o, ho⟩ := hp
  have hbW : Below base w3 W := ⟨h1, h2, h3, by rw [ho]; simp, fun k hk => by
    have hk' : k < w3.heap.size := by omega
    rw [ho, Array.getElem?_push, if_neg (by omega)]⟩
  exact (hb3.trans hbW).trans hb4
theorem pushed_kept {w3 W w4 : World} {A : Option Addr} {n c base sz : Nat} {e : TypeId} {us : List Value} (hp : ∃ o, W.heap = w3.heap.push o) (ho : OwnN w3 base e sz A n c us) (hg : W.grownBy w4 (Value.slice A n c).ownBlock) (tys : List TypeId) (ht : e ∉ tys) : Kept tys w3 w4 ∧ KeptM w3 w4 := by
  obtain ⟨o, ho'⟩ := hp
  have hW : OwnN W base e sz A n c us := ho.keep fun b cs hb => by rw [ho']; exact push_lt hb
  constructor
  · intro ty hty b cs hb
    have hb' : W.heap[b]? = some (Obj.cells cs ty (0, 0)) := by rw [ho', push_lt hb]; exact hb
    rw [Kept.grown (tys := tys) hg hW ht ty hty b cs hb', hb', hb]
  · intro b es m hb
    have hb' : W.heap[b]? = some (Obj.map es m) := by rw [ho', push_lt hb]; exact hb
    rw [KeptM.grown hg hW b es m hb', hb', hb]
/-- the index, with a task more -/
theorem nameI_app {ts : List TaskP} {a : List UInt8} (ha : a ∉ namesP ts) : updM (nameI ts) a (ts.length : Int) = nameI (ts ++ [newTask a]) := by
  have hn : namesP (ts ++ [newTask a]) = namesP ts ++ [a] := by simp [namesP, newTask]
  have hl : (namesP ts).length = ts.length := by simp [namesP]
  funext s
  unfold updM nameI
  rw [hn]
  by_cases e : s = a
  · subst e
    rw [if_pos rfl, if_pos (by simp), List.idxOf_append, if_neg ha]
    simp [hl]
  · rw [if_neg e]
    by_cases hs : s ∈ namesP ts
    · rw [if_pos hs, if_pos (by simp [hs]), List.idxOf_append, if_pos hs]
    · rw [if_neg hs, if_neg (by simp [hs, e])]
theorem nameI_none {ts : List TaskP} {a : List UInt8} (ha : a ∉ namesP ts) : nameI ts a = none := by unfold nameI; rw [if_neg ha]

end Go.Proofs.YtgejonmjmieglaaDoor
namespace Go.Proofs.YtgejonmjmieglaaDoor
open Go.RowKit
open Clk (readE readV)
set_option linter.unusedVariables false
set_option maxRecDepth 100000

theorem zero_intW (w : World) : (zeroValue 3).run Tryd.prog w = .ok (.int .i64 0) w := zero_int w
/-- a look into the index, as an equation -/
theorem run_getM {w : World} {b n m : Nat} {g : List UInt8 → Option Int} (h : MapAt w b n g m) (s : List UInt8) (hs : s.length ≤ maxLen) :
    (Instr.lookup 100 (.map (some b)) (.string (sb s)) true).run Tryd.prog w = .ok (.tuple #[.int .i64 ((g s).getD 0), .bool (g s).isSome]) w := by
  obtain ⟨D, ho, h1, h2, h3⟩ := h.ex
  obtain ⟨v, ps, hrun, hv⟩ := ho.look_ok keyed_str Tryd.underlying100 (zero_int w) (plainElem_int Tryd.underlying3 (by decide)) (keyL_of hs)
  rw [h2 s] at hv
  obtain ⟨c, rfl, hc, _⟩ := plainElem_int_inv Tryd.underlying3 hv
  have hc1 := congrArg Prod.fst hc
  injection hc1 with hc1
  injection hc1 with _ hc1
  rw [hrun, ← hc1, h1 s]
theorem getM_drew {w : World} {b n m : Nat} {g : List UInt8 → Option Int} (h : MapAt w b n g m) (s : List UInt8) (hs : s.length ≤ maxLen) {x : Int} {k : Bool} (hx : (g s).getD 0 = x) (hk : (g s).isSome = k) (q : Nat) :
    (Instr.lookup 100 (.map (some b)) (.string (sb s)) true).run Tryd.prog (w.drewN q) = .ok (.tuple #[.int .i64 x, .bool k]) (w.drewN q) := by
  subst hx hk
  exact run_getM (w := w.drewN q) (h.keep rfl) s hs
theorem bdrew (w : World) (n : Nat) : Below w.heap.size w (w.drewN n) := (Dag.Quiet.drew w n).below
theorem flat_same {α : Type} {c : α → List Value} : ∀ (l : List α) (k : Nat) (a a' : α), l[k]? = some a → c a = c a' → flat c (l.set k a') = flat c l
  | [], k, a, a', h, _ => by simp at h
  | b :: l, 0, a, a', h, he => by simp at h; subst h; simp [flat, he]
  | b :: l, k + 1, a, a', h, he => by
    rw [List.getElem?_cons_succ] at h
    rw [List.set_cons_succ, flat, flat, flat_same l k a a' h he]
theorem namesP_set {ts : List TaskP} {v : Nat} {t t' : TaskP} (h : ts[v]? = some t) (hn : t'.name = t.name) : namesP (ts.set v t') = namesP ts := by
  unfold namesP
  rw [List.map_set, hn]
  apply List.ext_getElem?
  intro i
  rw [List.getElem?_set]
  split
  · rename_i e; subst e
    split
    · rw [List.getElem?_map, h]; rfl
    · rename_i hlt; rw [List.getElem?_eq_none (by simpa using hlt)]
  · rfl
theorem nameI_set {ts : List TaskP} {v : Nat} {t t' : TaskP} (h : ts[v]? = some t) (hn : t'.name = t.name) : nameI (ts.set v t') = nameI ts := by
  funext s
  unfold nameI
  rw [namesP_set h hn]
theorem mem_set_nm {ts : List TaskP} {v : Nat} {t t' : TaskP} (h : ts[v]? = some t) (hn : t'.name = t.name) (hm : ∀ x ∈ ts, x.name.length ≤ maxLen) : ∀ x ∈ ts.set v t', x.name.length ≤ maxLen := by
  intro x hx
  rcases List.mem_or_eq_of_mem_set hx with hx | rfl
  · exact hm x hx
  · rw [hn]; exact hm t (List.mem_of_getElem? h)
theorem nameI_some {ts : List TaskP} {a : List UInt8} (ha : a ∈ namesP ts) : nameI ts a = some ((namesP ts).idxOf a : Int) := by unfold nameI; rw [if_pos ha]
theorem idx_lt {ts : List TaskP} {a : List UInt8} (ha : a ∈ namesP ts) : (namesP ts).idxOf a < ts.length := by
  have := List.idxOf_lt_length_of_mem ha
  simpa [namesP] using this
theorem mark_names (t : TaskP) (k : Nat) : (t.mark k).name = t.name := rfl

theorem telSt_ok {s : St} {k v : Nat} {t : TaskP} {b : List UInt8} (hto : t.told k = false) (h7 : k ≠ 7) (hn : numE k b = 0) : telSt s k v t [b] = .ok { s with tasks := s.tasks.set v ((t.mark k).put k (readV b)) } := by
  unfold telSt
  rw [if_neg (by rw [hto]; decide), if_neg h7]
  exact if_neg (fun h => h hn)
theorem telSt_err {s : St} {k v : Nat} {t : TaskP} {b : List UInt8} (hto : t.told k = false) (h7 : k ≠ 7) (hn : numE k b ≠ 0) : telSt s k v t [b] = .error (numE k b) := by
  unfold telSt
  rw [if_neg (by rw [hto]; decide), if_neg h7]
  exact if_pos hn
theorem Kept.trans {tys : List TypeId} {a b c : World} (h : Kept tys a b) (k : Kept tys b c) : Kept tys a c := fun ty hty i cs hi => by
  have h1 := h ty hty i cs hi
  exact (k ty hty i cs (h1.trans hi)).trans h1
theorem KeptM.trans {a b c : World} (h : KeptM a b) (k : KeptM b c) : KeptM a c := fun i es n hi => by
  have h1 := h i es n hi
  exact (k i es n (h1.trans hi)).trans h1
theorem Kept.sub {tys tys' : List TypeId} {a b : World} (h : Kept tys a b) (hs : ∀ t ∈ tys', t ∈ tys) : Kept tys' a b := fun ty hty => h ty (hs ty hty)

theorem mark_told (t : TaskP) {k : Nat} (hk : k < 9) : (toldC t).set k (.bool true) = toldC (t.mark k) := by
  match k, hk with
  | 0, _ | 1, _ | 2, _ | 3, _ | 4, _ | 5, _ | 6, _ | 7, _ | 8, _ => simp [toldC, marksC, TaskP.mark, upB]
theorem set_set (ts : List TaskP) (v : Nat) (a b : TaskP) : (ts.set v a).set v b = ts.set v b := by simp
theorem get_set {ts : List TaskP} {v : Nat} {t : TaskP} (h : ts[v]? = some t) (a : TaskP) : (ts.set v a)[v]? = some a := by
  rw [List.getElem?_set, if_pos rfl, if_pos (List.getElem?_eq_some_iff.1 h).1]

end Go.Proofs.YtgejonmjmieglaaDoor

