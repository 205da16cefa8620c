/- Layer Txt over, for a seat that needs several layers: TxtRune, TxtRuneA, TxtRuneC, TxtRuneD, TxtAll.
   Layer Txt over, for a seat that needs several layers: TxtRName, TxtLines, TxtWords.
   Layer Txt over, for a seat that needs several layers: TxtRLines, TxtRWords, TxtJoin. -/
import Derived.Test.YtaiolhanbjndcaaDoorMTxt
import Derived.Handy
import Derived.WalkMore
namespace Go.Proofs.YtaiolhanbjndcaaDoor.Txt
set_option maxRecDepth 100000
/-! The document's Rune: one step of the decoder, as numbers. -/
open Go.RowKit Go.Shelf Go.Lib
set_option linter.unusedVariables false

def runeP (p : Nat × Nat) : Nat × Nat := if bad p then (0, 0) else p
def decB (s : ByteArray) (B : Nat → Nat) (i : Nat) : Nat × Nat := runeP (decodeN (s.size - i) (B i) (B (i + 1)) (B (i + 2)) (B (i + 3)))
theorem runeP_err {p : Nat × Nat} (h : p = (65533, 1)) : runeP p = (0, 0) := by rw [h]; rfl
theorem runeP_wide {p : Nat × Nat} {v k : Nat} (h : p = (v, k)) (hk : k ≠ 1) : runeP p = (v, k) := by rw [h]; simp [runeP, bad, hk]
theorem runeP_one {p : Nat × Nat} {v : Nat} (h : p = (v, 1)) (hv : v ≠ 65533) : runeP p = (v, 1) := by rw [h]; simp [runeP, bad, hv]
set_option maxHeartbeats 4000000 in
theorem dN_0 (n b0 b1 b2 b3 : Nat) (h : (128 ≤ b0 ∧ b0 < 192) ∨ 248 ≤ b0) : decodeN n b0 b1 b2 b3 = (65533, 1) := by
  unfold decodeN
  repeat' split
  all_goals first | rfl | (exfalso; omega)
set_option maxHeartbeats 4000000 in
theorem dN_2x (n b0 b1 b2 b3 : Nat) (h0 : 192 ≤ b0 ∧ b0 < 224) (h : n < 2 ∨ b1 < 128 ∨ 192 ≤ b1 ∨ b0 * 64 + b1 < 12544) : decodeN n b0 b1 b2 b3 = (65533, 1) := by
  unfold decodeN
  repeat' split
  all_goals first | rfl | (exfalso; omega)
set_option maxHeartbeats 4000000 in
theorem dN_2 (n b0 b1 b2 b3 v : Nat) (h0 : 192 ≤ b0 ∧ b0 < 224) (h : 2 ≤ n ∧ 128 ≤ b1 ∧ b1 < 192 ∧ 12544 ≤ b0 * 64 + b1) (hv : v + 12416 = b0 * 64 + b1) : decodeN n b0 b1 b2 b3 = (v, 2) := by
  unfold decodeN
  repeat' split
  all_goals first | (exfalso; omega) | (apply Prod.ext <;> simp only <;> omega)
set_option maxHeartbeats 4000000 in
theorem dN_3x (n b0 b1 b2 b3 : Nat) (h0 : 224 ≤ b0 ∧ b0 < 240) (h : n < 3 ∨ b1 < 128 ∨ 192 ≤ b1 ∨ b2 < 128 ∨ 192 ≤ b2 ∨ b0 * 4096 + b1 * 64 + b2 < 927872 ∨ (981120 ≤ b0 * 4096 + b1 * 64 + b2 ∧ b0 * 4096 + b1 * 64 + b2 < 983168)) : decodeN n b0 b1 b2 b3 = (65533, 1) := by
  unfold decodeN
  repeat' split
  all_goals first | rfl | (exfalso; omega)
set_option maxHeartbeats 4000000 in
theorem dN_3 (n b0 b1 b2 b3 v : Nat) (h0 : 224 ≤ b0 ∧ b0 < 240) (h : 3 ≤ n ∧ 128 ≤ b1 ∧ b1 < 192 ∧ 128 ≤ b2 ∧ b2 < 192) (hv : v + 925824 = b0 * 4096 + b1 * 64 + b2) (hr : (2048 ≤ v ∧ v < 55296) ∨ 57344 ≤ v) : decodeN n b0 b1 b2 b3 = (v, 3) := by
  unfold decodeN
  repeat' split
  all_goals first | (exfalso; omega) | (apply Prod.ext <;> simp only <;> omega)
set_option maxHeartbeats 4000000 in
theorem dN_4x (n b0 b1 b2 b3 : Nat) (h0 : 240 ≤ b0 ∧ b0 < 248) (h : n < 4 ∨ b1 < 128 ∨ 192 ≤ b1 ∨ b2 < 128 ∨ 192 ≤ b2 ∨ b3 < 128 ∨ 192 ≤ b3 ∨ b0 * 262144 + b1 * 4096 + b2 * 64 + b3 < 63512704 ∨ 64561279 < b0 * 262144 + b1 * 4096 + b2 * 64 + b3) : decodeN n b0 b1 b2 b3 = (65533, 1) := by
  unfold decodeN
  repeat' split
  all_goals first | rfl | (exfalso; omega)
set_option maxHeartbeats 4000000 in
theorem dN_4 (n b0 b1 b2 b3 v : Nat) (h0 : 240 ≤ b0 ∧ b0 < 248) (h : 4 ≤ n ∧ 128 ≤ b1 ∧ b1 < 192 ∧ 128 ≤ b2 ∧ b2 < 192 ∧ 128 ≤ b3 ∧ b3 < 192) (hv : v + 63447168 = b0 * 262144 + b1 * 4096 + b2 * 64 + b3) (hr : 65536 ≤ v ∧ v ≤ 1114111) : decodeN n b0 b1 b2 b3 = (v, 4) := by
  unfold decodeN
  repeat' split
  all_goals first | (exfalso; omega) | (apply Prod.ext <;> simp only <;> omega)
/-! The document's Rune: one byte, two bytes. -/
open Go.RowKit Go.Shelf Go.Lib
set_option linter.unusedVariables false

/-! The document's Rune: three bytes. -/
open Go.RowKit Go.Shelf Go.Lib
set_option linter.unusedVariables false

/-! The document's Rune: four bytes. -/
open Go.RowKit Go.Shelf Go.Lib
set_option linter.unusedVariables false

/-! The document's Rune at every place, and All: the runes of a text, and whether all are right. -/
open Go.RowKit Go.Shelf Go.Lib
set_option linter.unusedVariables false

def runeV (p : Nat × Nat) : Int := ((runeP p).1 : Nat)
def allI (l : List UInt8) : List Int := (dec l).map runeV
theorem bad_width {p : Nat × Nat} (h : bad p = true) : p.2 = 1 := by simp [bad] at h; exact h.2
theorem runeP_yes {p : Nat × Nat} (h : bad p = true) : runeP p = (0, 0) := by simp [runeP, h]
theorem runeP_no {p : Nat × Nat} (h : bad p = false) : runeP p = p := by simp [runeP, h]
theorem valid_at {s : ByteArray} {pos : Nat} (h : pos < s.size) : validD ((lst s).drop pos) = (!bad (Utf8.decode s pos) && validD ((lst s).drop (pos + (Utf8.decode s pos).2))) := by
  rw [valid_dec _ _ (Nat.le_refl _), valid_dec _ _ (Nat.le_refl _), dec_at h, List.all_cons]
theorem cell_new (w : World) (v : Value) (t : TypeId) : (w.alloc (.cells #[v] t)).cell? ⟨w.heap.size, 0, none⟩ = some v := by
  rw [cell_of_row (w.alloc (.cells #[v] t)) w.heap.size 0 #[v] t (0, 0) (by show (w.heap.push (Obj.cells #[v] t))[w.heap.size]? = _; simp)]
  rfl

end Go.Proofs.YtaiolhanbjndcaaDoor.Txt
namespace Go.Proofs.YtaiolhanbjndcaaDoor.Txt
set_option maxRecDepth 100000
/-! The document's Name. -/
open Go.RowKit Go.Shelf Go.Lib
set_option linter.unusedVariables false

theorem runeP_le (p : Nat × Nat) (h : p.1 ≤ 1114111) : (runeP p).1 ≤ 1114111 := by unfold runeP; split; simp; exact h
theorem dec_le : ∀ (n : Nat) (l : List UInt8), l.length ≤ n → ∀ p ∈ dec l, p.1 ≤ 1114111
  | 0, l, h, p, hp => by
    have : l = [] := List.eq_nil_of_length_eq_zero (by omega)
    subst this; simp [dec_nil] at hp
  | n + 1, l, h, p, hp => by
    by_cases hne : l = []
    · subst hne; simp [dec_nil] at hp
    · have hw := decodeL_width l
      have hl : 0 < l.length := List.length_pos_iff.2 hne
      rw [dec_step l hne] at hp
      rcases List.mem_cons.1 hp with rfl | hp
      · exact decodeL_rune l
      · exact dec_le n _ (by rw [List.length_drop]; omega) p hp
theorem good_step {D : List (Nat × Nat)} {k : Nat} {p : Nat × Nat} (h : D[k]? = some p) : goodFrom k (D.drop k) = (okAt k p.1 && goodFrom (k + 1) (D.drop (k + 1))) := by
  obtain ⟨hk, hp⟩ := List.getElem?_eq_some_iff.1 h
  rw [List.drop_eq_getElem_cons hk, hp, goodFrom]
theorem rname_elem {l : List UInt8} {k : Nat} {x : Int} (hv : validD l = true) (h : (allI l)[k]? = some x) : ∃ p : Nat × Nat, (dec l)[k]? = some p ∧ x = (p.1 : Int) ∧ p.1 ≤ 1114111 := by
  unfold allI at h
  rw [List.getElem?_map] at h
  cases hd : (dec l)[k]? with
  | none => rw [hd] at h; cases h
  | some p =>
    rw [hd] at h
    have hm := List.mem_of_getElem? hd
    rw [valid_dec _ _ (Nat.le_refl _), List.all_eq_true] at hv
    have hb := hv p hm
    simp only [Bool.not_eq_true'] at hb
    refine ⟨p, rfl, ?_, dec_le _ l (Nat.le_refl _) p hm⟩
    have := Option.some.inj h
    rw [← this, runeV, runeP_no hb]

/-! Lines: the program's, and the document's. -/
open Go.RowKit Go.Shelf Go.Lib
set_option linter.unusedVariables false

theorem lst_extract (s : ByteArray) (a b : Nat) : lst (s.extract a b) = ((lst s).take b).drop a := by
  rw [show lst (s.extract a b) = ((lst s).drop a).take (b - a) from extract_data s a b, List.drop_take]
theorem drop_split (l : List UInt8) (pos wd : Nat) : l.drop pos = (l.drop pos).take wd ++ l.drop (pos + wd) := by
  rw [← List.drop_drop, List.take_append_drop]
theorem take_drop_step (l : List UInt8) (pos wd bg : Nat) (hb : bg ≤ pos) (hp : pos ≤ l.length) : (l.take (pos + wd)).drop bg = (l.take pos).drop bg ++ (l.drop pos).take wd := by
  rw [take_step, List.drop_append_of_le_length (by rw [List.length_take]; omega)]
theorem take_drop_nil (l : List UInt8) (k : Nat) : (l.take k).drop k = [] := List.drop_eq_nil_of_le (by rw [List.length_take]; omega)
theorem lines_skip (l : List UInt8) (pos wd bg : Nat) (hb : bg ≤ pos) (hp : pos ≤ l.length) (h : ∀ b ∈ (l.drop pos).take wd, b ≠ 10) :
    linesA (l.drop pos) ((l.take pos).drop bg) = linesA (l.drop (pos + wd)) ((l.take (pos + wd)).drop bg) := by
  rw [take_drop_step l pos wd bg hb hp, ← linesA_run _ _ _ h, ← drop_split]
theorem drop_byte (s : ByteArray) (k : Nat) (h : k < s.size) : (lst s).drop k = s[k] :: (lst s).drop (k + 1) := by
  rw [List.drop_eq_getElem_cons (show k < (lst s).length from h)]; rfl
theorem lines_hit {s : ByteArray} {pos : Nat} (h : pos < s.size) (h10 : s[pos].toNat = 10) (cur : List UInt8) : linesA ((lst s).drop pos) cur = cur :: linesA ((lst s).drop (pos + 1)) [] := by
  rw [drop_byte s pos h, linesA, if_pos (UInt8.toNat_inj.1 (by rw [h10]; rfl))]
theorem one_byte {s : ByteArray} {pos : Nat} (h : pos < s.size) : ((lst s).drop pos).take 1 = [s[pos]] := by
  rw [drop_byte s pos h]; rfl
theorem keep_app {W w2 : World} {k : Nat} {o o2 : Obj} (h : W.heap[k]? = some o) (hb : Below (k + 1) (W.alloc o2) w2) : w2.heap[k]? = some o := by
  have hk := (Array.getElem?_eq_some_iff.1 h).1
  rw [hb.block k (by omega), Below.heap_alloc W o2 k hk, h]
theorem iter_pos {w : World} {k : Nat} {s : ByteArray} {p : Nat} (h : w.heap[k]? = some (.stringIter s p)) : w.iterPos k = p := by simp [World.iterPos, h]
theorem linesV_yes {l : List UInt8} (h : ¬ 60000 < l.length) (hv : validD l = true) : linesV l = linesA l [] ∧ linesE l = 0 := by
  constructor
  · rw [linesV, if_neg h, if_pos hv]
  · rw [linesE, if_neg h, if_pos hv]
theorem linesV_bad {l : List UInt8} (h : ¬ 60000 < l.length) (hv : validD l = false) : linesV l = [] ∧ linesE l = 5 := by
  constructor
  · rw [linesV, if_neg h, if_neg (by rw [hv]; simp)]
  · rw [linesE, if_neg h, if_neg (by rw [hv]; simp)]
theorem linesV_long {l : List UInt8} (h : 60000 < l.length) : linesV l = [] ∧ linesE l = 3 := by
  constructor
  · rw [linesV, if_pos h]
  · rw [linesE, if_pos h]

/-! Words: the program's. -/
open Go.RowKit Go.Shelf Go.Lib
set_option linter.unusedVariables false

theorem gap_of (b : UInt8) : gap b = gapI (b.toNat : Int) := by
  have e : ∀ k : UInt8, (b == k) = (((b.toNat : Nat) : Int) == ((k.toNat : Nat) : Int)) := fun k => by
    by_cases h : b = k
    · subst h; simp
    · rw [beq_eq_false_iff_ne.2 h]
      symm; rw [beq_eq_false_iff_ne]; intro e; exact h (UInt8.toNat_inj.1 (by omega))
  unfold gap gapI
  rw [e, e]; rfl
theorem gapI_high {r : Int} (h : 128 ≤ r) : gapI r = false := by
  unfold gapI
  rw [beq_eq_false_iff_ne.2 (show r ≠ 32 by omega), beq_eq_false_iff_ne.2 (show r ≠ 9 by omega)]; rfl
theorem gap_high {b : UInt8} (h : 128 ≤ b.toNat) : gap b = false := by rw [gap_of]; exact gapI_high (by omega)
theorem words_skip (l : List UInt8) (pos wd bg : Nat) (hb : bg < pos) (hp : pos ≤ l.length) (h : ∀ b ∈ (l.drop pos).take wd, gap b = false) :
    wordsA (l.drop pos) ((l.take pos).drop bg) = wordsA (l.drop (pos + wd)) ((l.take (pos + wd)).drop bg) := by
  rw [take_drop_step l pos wd bg (by omega) hp, ← wordsA_run _ _ _ (by intro e; have := congrArg List.length e; rw [List.length_drop, List.length_take] at this; simp at this; omega) h, ← drop_split]
theorem words_hit {s : ByteArray} {pos : Nat} (h : pos < s.size) (hg : gap s[pos] = true) {cur : List UInt8} (hc : cur ≠ []) : wordsA ((lst s).drop pos) cur = cur :: wordsA ((lst s).drop (pos + 1)) [] := by
  rw [drop_byte s pos h, wordsA, if_pos hg, if_neg hc]
theorem words_blank {s : ByteArray} {pos : Nat} (h : pos < s.size) (hg : gap s[pos] = true) : wordsA ((lst s).drop pos) [] = wordsA ((lst s).drop (pos + 1)) [] := by
  rw [drop_byte s pos h, wordsA, if_pos hg, if_pos rfl]
theorem words_note {s : ByteArray} {pos : Nat} (h : pos < s.size) (h35 : s[pos].toNat = 35) : wordsA ((lst s).drop pos) [] = [] := by
  have e : s[pos] = 35 := UInt8.toNat_inj.1 (by rw [h35]; rfl)
  rw [drop_byte s pos h, wordsA, if_neg (by rw [e]; decide), if_pos ⟨rfl, e⟩]
theorem words_open {l : List UInt8} {pos wd : Nat} (hp : pos + wd ≤ l.length) (h1 : 1 ≤ wd) (h : ∀ b ∈ (l.drop pos).take wd, gap b = false) (hh : ((l.drop pos).take wd).head? ≠ some 35) :
    wordsA (l.drop pos) [] = wordsA (l.drop (pos + wd)) ((l.take (pos + wd)).drop pos) := by
  have e : (l.take (pos + wd)).drop pos = (l.drop pos).take wd := by
    rw [take_drop_step l pos wd pos (Nat.le_refl _) (by omega), take_drop_nil, List.nil_append]
  rw [e, ← wordsA_word ((l.drop pos).take wd) (l.drop (pos + wd)) (by intro e; have := congrArg List.length e; rw [List.length_take, List.length_drop] at this; simp at this; omega) h hh, ← drop_split]
theorem cur_ne {s : ByteArray} {pos bg : Nat} (hb : bg < pos) (hp : pos ≤ s.size) : ((lst s).take pos).drop bg ≠ [] := by
  intro e; have := congrArg List.length e; rw [List.length_drop, List.length_take, lst_len] at this; simp at this; omega
theorem wordsV_yes {l : List UInt8} (hv : validD l = true) (hc : ctlL l = false) : wordsV l = wordsA l [] ∧ wordsE l = 0 := by
  constructor
  · rw [wordsV, if_pos ⟨hv, hc⟩]
  · rw [wordsE, if_pos ⟨hv, hc⟩]
theorem wordsV_bad {l : List UInt8} (hv : validD l = false ∨ ctlL l = true) : wordsV l = [] ∧ wordsE l = 5 := by
  have : ¬ (validD l = true ∧ ctlL l = false) := by rintro ⟨h1, h2⟩; rw [h1, h2] at hv; simp at hv
  constructor
  · rw [wordsV, if_neg this]
  · rw [wordsE, if_neg this]
def WordsAt (w' : World) (e : Ending) (l : List UInt8) : Prop := ∃ A c zs, e = .returned (.tuple #[.slice A zs.length c, .int .i64 (wordsE l)]) ∧ Strs w' A zs ∧ zs.map lst = wordsV l ∧ zs.length ≤ c ∧ Sd w' A c

end Go.Proofs.YtaiolhanbjndcaaDoor.Txt
namespace Go.Proofs.YtaiolhanbjndcaaDoor.Txt
set_option maxRecDepth 100000
/-! Lines, and Words: the document's. -/
open Go.RowKit Go.Shelf Go.Lib
set_option linter.unusedVariables false

theorem lst_cat (a b : ByteArray) : lst (a ++ b) = lst a ++ lst b := by simp [lst]
theorem cat_size (a b : ByteArray) : (a ++ b).size = a.size + b.size := by simp
theorem lst_one {s : ByteArray} {k : Nat} (h : k < s.size) : lst (s.extract k (k + 1)) = [s[k]] := by
  rw [show lst (s.extract k (k + 1)) = ((lst s).drop k).take (k + 1 - k) from extract_data s k (k + 1), show k + 1 - k = 1 by omega, one_byte h]
theorem one_size {s : ByteArray} {k : Nat} (h : k < s.size) : (s.extract k (k + 1)).size = 1 := by rw [← lst_len, lst_one h]; rfl
theorem lines_byte {s : ByteArray} {k : Nat} (h : k < s.size) (h10 : s[k].toNat ≠ 10) (cur : List UInt8) : linesA ((lst s).drop k) cur = linesA ((lst s).drop (k + 1)) (cur ++ [s[k]]) := by
  rw [drop_byte s k h, linesA, if_neg (by intro e; exact h10 (by rw [e]; rfl))]

/-! The document's Words. -/
open Go.RowKit Go.Shelf Go.Lib
set_option linter.unusedVariables false

theorem words_last {cur : List UInt8} (h : cur ≠ []) : wordsA [] cur = [cur] := by rw [wordsA, if_neg h]
theorem gap_yes {b : UInt8} (h : gap b = true) : b.toNat = 32 ∨ b.toNat = 9 := by
  simp [gap] at h
  rcases h with rfl | rfl
  · exact Or.inl rfl
  · exact Or.inr rfl
theorem gap_no {b : UInt8} (h : gap b = false) : b.toNat ≠ 32 ∧ b.toNat ≠ 9 := by
  rw [gap_of, gapI, Bool.or_eq_false_iff, beq_eq_false_iff_ne, beq_eq_false_iff_ne] at h
  omega
theorem ctl_cases (b : UInt8) : (ctl b = true ∧ ((b.toNat < 32 ∧ b.toNat ≠ 9) ∨ b.toNat = 127)) ∨ (ctl b = false ∧ (32 ≤ b.toNat ∨ b.toNat = 9) ∧ b.toNat ≠ 127) := by
  rw [ctl_of]
  by_cases h1 : b.toNat < 32 <;> by_cases h2 : b.toNat = 9 <;> by_cases h3 : b.toNat = 127 <;> simp [h1, h2, h3] <;> omega

/-! Join: the program's, and the document's. -/
open Go.RowKit Go.Shelf Go.Lib
set_option linter.unusedVariables false

def sumZ : List ByteArray → Nat
  | [] => 0
  | x :: r => x.size + 1 + sumZ r
theorem sumZ_app (a b : List ByteArray) : sumZ (a ++ b) = sumZ a + sumZ b := by
  induction a with
  | nil => simp [sumZ]
  | cons x r ih => simp only [List.cons_append, sumZ, ih]; omega
theorem sumZ_take {zs : List ByteArray} {k : Nat} {x : ByteArray} (h : zs[k]? = some x) : sumZ (zs.take (k + 1)) = sumZ (zs.take k) + 1 + x.size := by
  rw [map_some h, sumZ_app]; simp only [sumZ]; omega
theorem sumZ_take_le (zs : List ByteArray) (k : Nat) : sumZ (zs.take k) ≤ sumZ zs := by
  have := sumZ_app (zs.take k) (zs.drop k)
  rw [List.take_append_drop] at this
  omega
theorem sumZ_len (zs : List ByteArray) : zs.length ≤ sumZ zs := by
  induction zs with
  | nil => simp
  | cons x r ih => simp only [sumZ, List.length_cons]; omega
theorem joinL_len : ∀ zs : List ByteArray, (joinL (zs.map lst)).length ≤ sumZ zs
  | [] => by simp [joinL]
  | [x] => by simp only [List.map_cons, List.map_nil, joinL, sumZ, lst_len]; omega
  | x :: y :: r => by
    have := joinL_len (y :: r)
    simp only [List.map_cons, joinL, sumZ, List.length_append, List.length_cons, lst_len] at this ⊢
    omega
theorem joinL_step {zs : List ByteArray} {k : Nat} {x : ByteArray} (hk : 1 ≤ k) (h : zs[k]? = some x) : joinL ((zs.take (k + 1)).map lst) = joinL ((zs.take k).map lst) ++ 32 :: lst x := by
  have hl : k < zs.length := (List.getElem?_eq_some_iff.1 h).1
  rw [map_some h, List.map_append, List.map_cons, List.map_nil, joinL_snoc _ _ (by intro e; have := congrArg List.length e; rw [List.length_map, List.length_take, List.length_nil] at this; omega)]
theorem joinA_len : ∀ (l cur : List UInt8), (joinL (wordsA l cur)).length ≤ cur.length + l.length
  | [], cur => by
    unfold wordsA
    split
    · simp [joinL]
    · simp [joinL]
  | b :: t, cur => by
    have h1 := joinA_len t []
    have h2 := joinA_len t (cur ++ [b])
    unfold wordsA
    split
    · split
      · simp at h1 ⊢; omega
      · cases hw : wordsA t [] with
        | nil => simp [joinL]
        | cons y r =>
          rw [hw] at h1
          simp only [joinL, List.length_append, List.length_cons, List.length_nil] at h1 ⊢
          omega
    · split
      · simp [joinL]
      · simp at h2 ⊢; omega
theorem bs_nil : bs [] = ⟨#[]⟩ := rfl
theorem strs_of {W : World} {a : Addr} {len m : Nat} {Sx : Nat → ByteArray} (hlm : len ≤ m) (hcell : ∀ i, i < m → W.cell? (a.add i) = some (.string (Sx i)) ∧ (Sx i).size ≤ maxLen) : Strs W (some a) ((List.range len).map Sx) := by
  intro k x hx
  rw [List.getElem?_map] at hx
  have hk : k < len := by
    rcases Nat.lt_or_ge k len with h | h
    · exact h
    · rw [List.getElem?_eq_none (by simpa using h)] at hx; cases hx
  rw [List.getElem?_range hk] at hx
  obtain rfl : Sx k = x := by simpa using hx
  obtain ⟨b, off, spot⟩ := a
  have h := (hcell k (by omega)).1
  have hspot : spot = none := by simpa [Addr.add] using World.cell?_spot (hcell 0 (by omega)).1
  subst hspot
  rw [Go.WideShapes.add_plain] at h
  exact ⟨b, off, rfl, World.block_lt_of_cell? W _ h, h⟩

end Go.Proofs.YtaiolhanbjndcaaDoor.Txt

