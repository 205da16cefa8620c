/- Layer Txt over, for a seat that needs several layers: TxtRLines, TxtRWords, TxtJoin. -/
import Derived.Test.YtkicanegjkemoaaDoorTxtD
namespace Go.Proofs.YtkicanegjkemoaaDoor.Txt
set_option maxRecDepth 100000
/-! Lines, and Words: the document's. -/
open Go.RowKit Go.Shelf Go.Lib
set_option linter.unusedVariables false

theorem lst_cat (a b : ByteArray) : lst (a ++ b) = lst a ++ lst b := by simp [lst]
theorem cat_size (a b : ByteArray) : (a ++ b).size = a.size + b.size := by simp
theorem lst_one {s : ByteArray} {k : Nat} (h : k < s.size) : lst (s.extract k (k + 1)) = [s[k]] := by
  rw [show lst (s.extract k (k + 1)) = ((lst s).drop k).take (k + 1 - k) from extract_data s k (k + 1), show k + 1 - k = 1 by omega, one_byte h]
theorem one_size {s : ByteArray} {k : Nat} (h : k < s.size) : (s.extract k (k + 1)).size = 1 := by rw [← lst_len, lst_one h]; rfl
theorem lines_byte {s : ByteArray} {k : Nat} (h : k < s.size) (h10 : s[k].toNat ≠ 10) (cur : List UInt8) : linesA ((lst s).drop k) cur = linesA ((lst s).drop (k + 1)) (cur ++ [s[k]]) := by
  rw [drop_byte s k h, linesA, if_neg (by intro e; exact h10 (by rw [e]; rfl))]

/-! The document's Words. -/
open Go.RowKit Go.Shelf Go.Lib
set_option linter.unusedVariables false

theorem words_last {cur : List UInt8} (h : cur ≠ []) : wordsA [] cur = [cur] := by rw [wordsA, if_neg h]
theorem gap_yes {b : UInt8} (h : gap b = true) : b.toNat = 32 ∨ b.toNat = 9 := by
  simp [gap] at h
  rcases h with rfl | rfl
  · exact Or.inl rfl
  · exact Or.inr rfl
theorem gap_no {b : UInt8} (h : gap b = false) : b.toNat ≠ 32 ∧ b.toNat ≠ 9 := by
  rw [gap_of, gapI, Bool.or_eq_false_iff, beq_eq_false_iff_ne, beq_eq_false_iff_ne] at h
  omega
theorem ctl_cases (b : UInt8) : (ctl b = true ∧ ((b.toNat < 32 ∧ b.toNat ≠ 9) ∨ b.toNat = 127)) ∨ (ctl b = false ∧ (32 ≤ b.toNat ∨ b.toNat = 9) ∧ b.toNat ≠ 127) := by
  rw [ctl_of]
  by_cases h1 : b.toNat < 32 <;> by_cases h2 : b.toNat = 9 <;> by_cases h3 : b.toNat = 127 <;> simp [h1, h2, h3] <;> omega

/-! Join: the program's, and the document's. -/
open Go.RowKit Go.Shelf Go.Lib
set_option linter.unusedVariables false

def sumZ : List ByteArray → Nat
  | [] => 0
  | x :: r => x.size + 1 + sumZ r
theorem sumZ_app (a b : List ByteArray) : sumZ (a ++ b) = sumZ a + sumZ b := by
  induction a with
  | nil => simp [sumZ]
  | cons x r ih => simp only [List.cons_append, sumZ, ih]; omega
theorem sumZ_take {zs : List ByteArray} {k : Nat} {x : ByteArray} (h : zs[k]? = some x) : sumZ (zs.take (k + 1)) = sumZ (zs.take k) + 1 + x.size := by
  rw [map_some h, sumZ_app]; simp only [sumZ]; omega
theorem sumZ_take_le (zs : List ByteArray) (k : Nat) : sumZ (zs.take k) ≤ sumZ zs := by
  have := sumZ_app (zs.take k) (zs.drop k)
  rw [List.take_append_drop] at this
  omega
theorem sumZ_len (zs : List ByteArray) : zs.length ≤ sumZ zs := by
  induction zs with
  | nil => simp
  | cons x r ih => simp only [sumZ, List.length_cons]; omega
theorem joinL_len : ∀ zs : List ByteArray, (joinL (zs.map lst)).length ≤ sumZ zs
  | [] => by simp [joinL]
  | [x] => by simp only [List.map_cons, List.map_nil, joinL, sumZ, lst_len]; omega
  | x :: y :: r => by
    have := joinL_len (y :: r)
    simp only [List.map_cons, joinL, sumZ, List.length_append, List.length_cons, lst_len] at this ⊢
    omega
theorem joinL_step {zs : List ByteArray} {k : Nat} {x : ByteArray} (hk : 1 ≤ k) (h : zs[k]? = some x) : joinL ((zs.take (k + 1)).map lst) = joinL ((zs.take k).map lst) ++ 32 :: lst x := by
  have hl : k < zs.length := (List.getElem?_eq_some_iff.1 h).1
  rw [map_some h, List.map_append, List.map_cons, List.map_nil, joinL_snoc _ _ (by intro e; have := congrArg List.length e; rw [List.length_map, List.length_take, List.length_nil] at this; omega)]
theorem joinA_len : ∀ (l cur : List UInt8), (joinL (wordsA l cur)).length ≤ cur.length + l.length
  | [], cur => by
    unfold wordsA
    split
    · simp [joinL]
    · simp [joinL]
  | b :: t, cur => by
    have h1 := joinA_len t []
    have h2 := joinA_len t (cur ++ [b])
    unfold wordsA
    split
    · split
      · simp at h1 ⊢; omega
      · cases hw : wordsA t [] with
        | nil => simp [joinL]
        | cons y r =>
          rw [hw] at h1
          simp only [joinL, List.length_append, List.length_cons, List.length_nil] at h1 ⊢
          omega
    · split
      · simp [joinL]
      · simp at h2 ⊢; omega
theorem bs_nil : bs [] = ⟨#[]⟩ := rfl
theorem strs_of {W : World} {a : Addr} {len m : Nat} {Sx : Nat → ByteArray} (hlm : len ≤ m) (hcell : ∀ i, i < m → W.cell? (a.add i) = some (.string (Sx i)) ∧ (Sx i).size ≤ maxLen) : Strs W (some a) ((List.range len).map Sx) := by
  intro k x hx
  rw [List.getElem?_map] at hx
  have hk : k < len := by
    rcases Nat.lt_or_ge k len with h | h
    · exact h
    · rw [List.getElem?_eq_none (by simpa using h)] at hx; cases hx
  rw [List.getElem?_range hk] at hx
  obtain rfl : Sx k = x := by simpa using hx
  obtain ⟨b, off, spot⟩ := a
  have h := (hcell k (by omega)).1
  have hspot : spot = none := by simpa [Addr.add] using World.cell?_spot (hcell 0 (by omega)).1
  subst hspot
  rw [Go.WideShapes.add_plain] at h
  exact ⟨b, off, rfl, World.block_lt_of_cell? W _ h, h⟩

end Go.Proofs.YtkicanegjkemoaaDoor.Txt

