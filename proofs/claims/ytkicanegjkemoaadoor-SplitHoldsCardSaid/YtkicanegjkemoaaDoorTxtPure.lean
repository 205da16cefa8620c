/- Layer Txt over, for a seat that needs several layers: TxtPure. -/
import Derived.Lib.ValidLaws
import Derived.Lib.TrimUEq
import Derived.Lib.MapLaws
import Derived.Lib.IsU
import Derived.Lib.Join
import Derived.KernelRfl
namespace Go.Proofs.YtkicanegjkemoaaDoor.Txt
set_option maxRecDepth 100000
/-! Texts as lists of bytes, rune by rune: what the calls of layer 2 answer, and the laws among these. No program here. -/
open Go.Lib
set_option linter.unusedVariables false

def decGo : Nat → List UInt8 → List (Nat × Nat)
  | 0, _ => []
  | n + 1, l => if l = [] then [] else decodeL l :: decGo n (l.drop (decodeL l).2)
def dec (l : List UInt8) : List (Nat × Nat) := decGo l.length l
def bad (p : Nat × Nat) : Bool := decide (p.1 = 65533 ∧ p.2 = 1)

theorem decGo_fuel : ∀ (n m : Nat) (l : List UInt8), l.length ≤ n → l.length ≤ m → decGo n l = decGo m l
  | 0, 0, _, _, _ => rfl
  | 0, m + 1, l, h, _ => by
    have : l = [] := List.eq_nil_of_length_eq_zero (by omega)
    simp [decGo, this]
  | n + 1, 0, l, _, h => by
    have : l = [] := List.eq_nil_of_length_eq_zero (by omega)
    simp [decGo, this]
  | n + 1, m + 1, l, h, h' => by
    unfold decGo
    split
    · rfl
    · rename_i hne
      have hw := decodeL_width l
      have hl : 0 < l.length := List.length_pos_iff.2 hne
      rw [decGo_fuel n m _ (by rw [List.length_drop]; omega) (by rw [List.length_drop]; omega)]
theorem dec_nil : dec [] = [] := rfl
theorem dec_step (l : List UInt8) (h : l ≠ []) : dec l = decodeL l :: dec (l.drop (decodeL l).2) := by
  have hw := decodeL_width l
  have hl : 0 < l.length := List.length_pos_iff.2 h
  unfold dec
  obtain ⟨n, hn⟩ : ∃ n, l.length = n + 1 := ⟨l.length - 1, by omega⟩
  rw [hn]
  rw [decGo, if_neg h]
  rw [decGo_fuel n (l.drop (decodeL l).2).length _ (by rw [List.length_drop]; omega) (Nat.le_refl _)]
theorem dec_len : ∀ (n : Nat) (l : List UInt8), l.length ≤ n → (dec l).length ≤ l.length
  | 0, l, h => by
    have : l = [] := List.eq_nil_of_length_eq_zero (by omega)
    subst this; simp [dec_nil]
  | n + 1, l, h => by
    by_cases hne : l = []
    · subst hne; simp [dec_nil]
    · have hw := decodeL_width l
      have hl : 0 < l.length := List.length_pos_iff.2 hne
      rw [dec_step l hne]
      have := dec_len n (l.drop (decodeL l).2) (by rw [List.length_drop]; omega)
      rw [List.length_drop] at this
      simp only [List.length_cons]
      omega
theorem valid_dec : ∀ (n : Nat) (l : List UInt8), l.length ≤ n → validD l = (dec l).all (fun p => !bad p)
  | 0, l, h => by
    have : l = [] := List.eq_nil_of_length_eq_zero (by omega)
    subst this; rfl
  | n + 1, l, h => by
    by_cases hne : l = []
    · subst hne; rfl
    · have hw := decodeL_width l
      have hl : 0 < l.length := List.length_pos_iff.2 hne
      rw [dec_step l hne, validD_step l hne, List.all_cons, ← valid_dec n (l.drop (decodeL l).2) (by rw [List.length_drop]; omega)]
      by_cases hb : (decodeL l).1 = 65533 ∧ (decodeL l).2 = 1
      · rw [if_pos hb]; simp [bad, hb]
      · rw [if_neg hb]; simp [bad, hb]

/-! what one step of the decoder takes -/
set_option maxHeartbeats 2000000 in
theorem decodeN_facts (n b0 b1 b2 b3 : Nat) (h0 : 128 ≤ b0) : 128 ≤ (decodeN n b0 b1 b2 b3).1 ∧ (decodeN n b0 b1 b2 b3).2 ≤ 4 ∧ ((decodeN n b0 b1 b2 b3).2 = 1 ∨ (decodeN n b0 b1 b2 b3).2 ≤ n) ∧
    (1 < (decodeN n b0 b1 b2 b3).2 → 128 ≤ b1) ∧ (2 < (decodeN n b0 b1 b2 b3).2 → 128 ≤ b2) ∧ (3 < (decodeN n b0 b1 b2 b3).2 → 128 ≤ b3) := by
  unfold decodeN
  repeat' split
  all_goals (refine ⟨?_, ?_, ?_, ?_, ?_, ?_⟩ <;> dsimp only <;> first | omega | (intro h; omega) | simp)
set_option maxHeartbeats 4000000 in
theorem decodeN_agree (n n' b0 b1 b2 b3 c1 c2 c3 : Nat) (hk : (decodeN n b0 b1 b2 b3).2 ≤ n') (h1 : 1 < (decodeN n b0 b1 b2 b3).2 → c1 = b1) (h2 : 2 < (decodeN n b0 b1 b2 b3).2 → c2 = b2) (h3 : 3 < (decodeN n b0 b1 b2 b3).2 → c3 = b3)
    (hv : ¬ ((decodeN n b0 b1 b2 b3).1 = 65533 ∧ (decodeN n b0 b1 b2 b3).2 = 1)) (hb : b0 < 256) : decodeN n' b0 c1 c2 c3 = decodeN n b0 b1 b2 b3 := by
  by_cases a0 : b0 < 128
  · rw [decodeN_ascii _ _ _ _ _ a0, decodeN_ascii _ _ _ _ _ a0]
  · by_cases a2 : b0 / 32 = 6 ∧ (1 < n ∧ b1 / 64 = 2)
    · have e : decodeN n b0 b1 b2 b3 = (if b0 % 32 * 64 + b1 % 64 ≥ 128 then (b0 % 32 * 64 + b1 % 64, 2) else (65533, 1)) := by unfold decodeN; rw [if_neg a0, if_pos a2]
      by_cases g : b0 % 32 * 64 + b1 % 64 ≥ 128
      · rw [if_pos g] at e
        rw [e] at hk h1 ⊢
        have := h1 (by simp)
        subst this
        simp only at hk
        unfold decodeN
        rw [if_neg a0, if_pos ⟨a2.1, by omega, a2.2.2⟩, if_pos g]
      · rw [if_neg g] at e; rw [e] at hv; simp at hv
    · by_cases a3 : b0 / 16 = 14 ∧ (1 < n ∧ b1 / 64 = 2) ∧ (2 < n ∧ b2 / 64 = 2)
      · have e : decodeN n b0 b1 b2 b3 = (if b0 % 16 * 4096 + b1 % 64 * 64 + b2 % 64 ≥ 2048 ∧ (b0 % 16 * 4096 + b1 % 64 * 64 + b2 % 64 < 55296 ∨ (57344 ≤ b0 % 16 * 4096 + b1 % 64 * 64 + b2 % 64 ∧ b0 % 16 * 4096 + b1 % 64 * 64 + b2 % 64 ≤ 1114111))
     then (b0 % 16 * 4096 + b1 % 64 * 64 + b2 % 64, 3) else (65533, 1)) := by unfold decodeN; rw [if_neg a0, if_neg a2, if_pos a3]
        split at e
        · rename_i g
          rw [e] at hk h1 h2 ⊢
          have := h1 (by simp)
          have := h2 (by simp)
          subst c1 c2
          simp only at hk
          unfold decodeN
          rw [if_neg a0, if_neg (by omega), if_pos ⟨a3.1, ⟨by omega, a3.2.1.2⟩, by omega, a3.2.2.2⟩, if_pos g]
        · rw [e] at hv; simp at hv
      · by_cases a4 : b0 / 8 = 30 ∧ (1 < n ∧ b1 / 64 = 2) ∧ (2 < n ∧ b2 / 64 = 2) ∧ (3 < n ∧ b3 / 64 = 2)
        · have e : decodeN n b0 b1 b2 b3 = (if b0 % 8 * 262144 + b1 % 64 * 4096 + b2 % 64 * 64 + b3 % 64 ≥ 65536 ∧ (b0 % 8 * 262144 + b1 % 64 * 4096 + b2 % 64 * 64 + b3 % 64 < 55296 ∨ (57344 ≤ b0 % 8 * 262144 + b1 % 64 * 4096 + b2 % 64 * 64 + b3 % 64 ∧ b0 % 8 * 262144 + b1 % 64 * 4096 + b2 % 64 * 64 + b3 % 64 ≤ 1114111))
     then (b0 % 8 * 262144 + b1 % 64 * 4096 + b2 % 64 * 64 + b3 % 64, 4) else (65533, 1)) := by unfold decodeN; rw [if_neg a0, if_neg a2, if_neg a3, if_pos a4]
          split at e
          · rename_i g
            rw [e] at hk h1 h2 h3 ⊢
            have := h1 (by simp)
            have := h2 (by simp)
            have := h3 (by simp)
            subst c1 c2 c3
            simp only at hk
            unfold decodeN
            rw [if_neg a0, if_neg (by omega), if_neg (by omega), if_pos ⟨a4.1, ⟨by omega, a4.2.1.2⟩, ⟨by omega, a4.2.2.1.2⟩, by omega, a4.2.2.2.2⟩, if_pos g]
          · rw [e] at hv; simp at hv
        · have e : decodeN n b0 b1 b2 b3 = (65533, 1) := by unfold decodeN; rw [if_neg a0, if_neg a2, if_neg a3, if_neg a4]
          rw [e] at hv; simp at hv

theorem getD_mem {l : List UInt8} {k : Nat} (h : k < l.length) : l.getD k 0 ∈ l := by
  rw [List.getD_eq_getElem?_getD, List.getElem?_eq_getElem h]
  exact List.getElem_mem h
theorem step_ascii {l : List UInt8} (h : l ≠ []) (ha : (l.getD 0 0).toNat < 128) : decodeL l = ((l.getD 0 0).toNat, 1) := by
  rw [decodeL_N, decodeN_ascii _ _ _ _ _ ha]
theorem step_high {l : List UInt8} (h : l ≠ []) (ha : 128 ≤ (l.getD 0 0).toNat) : 128 ≤ (decodeL l).1 ∧ ∀ b ∈ l.take (decodeL l).2, 128 ≤ b.toNat := by
  have hle := decodeL_le l h
  have hw := decodeL_width l
  have f := decodeN_facts l.length (l.getD 0 0).toNat (l.getD 1 0).toNat (l.getD 2 0).toNat (l.getD 3 0).toNat ha
  rw [← decodeL_N] at f
  obtain ⟨f1, f2, _, g1, g2, g3⟩ := f
  refine ⟨f1, fun b hb => ?_⟩
  generalize (decodeL l).2 = k at *
  rcases (show k = 1 ∨ k = 2 ∨ k = 3 ∨ k = 4 by omega) with rfl | rfl | rfl | rfl
  · rw [takeA l (by omega)] at hb; simp at hb; subst hb; simpa using ha
  · rw [takeB l (by omega)] at hb
    simp only [List.mem_cons, List.not_mem_nil, or_false] at hb
    rcases hb with rfl | rfl
    · exact ha
    · exact g1 (by omega)
  · rw [takeC l (by omega)] at hb
    simp only [List.mem_cons, List.not_mem_nil, or_false] at hb
    rcases hb with rfl | rfl | rfl
    · exact ha
    · exact g1 (by omega)
    · exact g2 (by omega)
  · rw [takeD l (by omega)] at hb
    simp only [List.mem_cons, List.not_mem_nil, or_false] at hb
    rcases hb with rfl | rfl | rfl | rfl
    · exact ha
    · exact g1 (by omega)
    · exact g2 (by omega)
    · exact g3 (by omega)

theorem getD_appL (a c : List UInt8) (k : Nat) (h : k < a.length) : (a ++ c).getD k 0 = a.getD k 0 := by
  rw [List.getD_eq_getElem?_getD, List.getD_eq_getElem?_getD, List.getElem?_append_left h]
theorem step_app {a c : List UInt8} (ha : a ≠ []) (hv : ¬ ((decodeL a).1 = 65533 ∧ (decodeL a).2 = 1)) : decodeL (a ++ c) = decodeL a := by
  have hle := decodeL_le a ha
  have hl : 0 < a.length := List.length_pos_iff.2 ha
  rw [decodeL_N] at hle
  rw [decodeL_N a] at hv
  rw [decodeL_N (a ++ c), decodeL_N a, getD_appL a c 0 hl]
  exact decodeN_agree _ _ _ _ _ _ _ _ _ (by rw [List.length_append]; omega) (fun h => by rw [getD_appL a c 1 (by omega)]) (fun h => by rw [getD_appL a c 2 (by omega)]) (fun h => by rw [getD_appL a c 3 (by omega)]) hv (UInt8.toNat_lt _)
theorem step_cut {a c : List UInt8} (ha : a ≠ []) (hk : (decodeL (a ++ c)).2 ≤ a.length) (hv : ¬ ((decodeL (a ++ c)).1 = 65533 ∧ (decodeL (a ++ c)).2 = 1)) : decodeL a = decodeL (a ++ c) := by
  have hl : 0 < a.length := List.length_pos_iff.2 ha
  rw [decodeL_N (a ++ c), getD_appL a c 0 hl] at hk hv
  rw [decodeL_N (a ++ c), decodeL_N a, getD_appL a c 0 hl]
  exact decodeN_agree _ _ _ _ _ _ _ _ _ hk (fun h => by rw [getD_appL a c 1 (by omega)]) (fun h => by rw [getD_appL a c 2 (by omega)]) (fun h => by rw [getD_appL a c 3 (by omega)]) hv (UInt8.toNat_lt _)

theorem dec_app : ∀ (n : Nat) (a c : List UInt8), a.length ≤ n → validD a = true → dec (a ++ c) = dec a ++ dec c
  | 0, a, c, h, _ => by
    have : a = [] := List.eq_nil_of_length_eq_zero (by omega)
    subst this; rfl
  | n + 1, a, c, h, hv => by
    by_cases hne : a = []
    · subst hne; rfl
    · have hw := decodeL_width a
      have hl : 0 < a.length := List.length_pos_iff.2 hne
      have hle := decodeL_le a hne
      rw [validD_step a hne] at hv
      by_cases hb : (decodeL a).1 = 65533 ∧ (decodeL a).2 = 1
      · rw [if_pos hb] at hv; cases hv
      · rw [if_neg hb] at hv
        rw [dec_step (a ++ c) (by simp [hne]), step_app hne hb, dec_step a hne, List.drop_append_of_le_length hle, dec_app n _ c (by rw [List.length_drop]; omega) hv]
        rfl
theorem valid_app {a : List UInt8} (c : List UInt8) (hv : validD a = true) : validD (a ++ c) = validD c := by
  rw [valid_dec _ _ (Nat.le_refl _), dec_app _ a c (Nat.le_refl _) hv, List.all_append, ← valid_dec _ _ (Nat.le_refl _), ← valid_dec _ _ (Nat.le_refl _), hv, Bool.true_and]
theorem valid_cut : ∀ (n : Nat) (a : List UInt8) (b : UInt8) (c : List UInt8), a.length ≤ n → b.toNat < 128 → validD (a ++ b :: c) = true → validD a = true
  | 0, a, b, c, h, _, _ => by
    have : a = [] := List.eq_nil_of_length_eq_zero (by omega)
    subst this; rfl
  | n + 1, a, b, c, h, hb, hv => by
    by_cases hne : a = []
    · subst hne; rfl
    · have hne' : a ++ b :: c ≠ [] := by simp
      have hl : 0 < a.length := List.length_pos_iff.2 hne
      have hw := decodeL_width (a ++ b :: c)
      rw [validD_step _ hne'] at hv
      by_cases hbad : (decodeL (a ++ b :: c)).1 = 65533 ∧ (decodeL (a ++ b :: c)).2 = 1
      · rw [if_pos hbad] at hv; cases hv
      · rw [if_neg hbad] at hv
        have hk : (decodeL (a ++ b :: c)).2 ≤ a.length := by
          by_cases hlow : ((a ++ b :: c).getD 0 0).toNat < 128
          · rw [step_ascii hne' hlow]; exact hl
          · refine Nat.le_of_not_lt fun hgt => ?_
            have hm : b ∈ (a ++ b :: c).take (decodeL (a ++ b :: c)).2 := by
              rw [List.take_append]
              refine List.mem_append_right _ ?_
              obtain ⟨j, hj⟩ : ∃ j, (decodeL (a ++ b :: c)).2 - a.length = j + 1 := ⟨(decodeL (a ++ b :: c)).2 - a.length - 1, by omega⟩
              rw [hj]; simp
            have := (step_high hne' (by omega)).2 b hm
            omega
        have e := step_cut hne hk hbad
        rw [List.drop_append_of_le_length hk] at hv
        rw [validD_step a hne, e, if_neg hbad]
        exact valid_cut n _ b c (by rw [List.length_drop]; omega) hb hv

/-! lines -/
def linesA : List UInt8 → List UInt8 → List (List UInt8)
  | [], cur => if cur = [] then [] else [cur]
  | b :: t, cur => if b = 10 then cur :: linesA t [] else linesA t (cur ++ [b])
theorem linesA_run : ∀ (a t cur : List UInt8), (∀ b ∈ a, b ≠ 10) → linesA (a ++ t) cur = linesA t (cur ++ a)
  | [], t, cur, _ => by simp
  | b :: a, t, cur, h => by
    rw [List.cons_append, linesA, if_neg (h b (by simp)), linesA_run a t _ (fun x hx => h x (List.mem_cons_of_mem _ hx))]
    simp
theorem linesA_free : ∀ (l cur : List UInt8), (∀ b ∈ cur, b ≠ 10) → ∀ w ∈ linesA l cur, ∀ b ∈ w, b ≠ 10
  | [], cur, h, w, hw => by
    unfold linesA at hw
    split at hw
    · simp at hw
    · simp at hw; subst hw; exact h
  | b :: t, cur, h, w, hw => by
    unfold linesA at hw
    split at hw
    · rcases List.mem_cons.1 hw with rfl | hw
      · exact h
      · exact linesA_free t [] (by simp) w hw
    · rename_i hb
      exact linesA_free t _ (fun x hx => by rcases List.mem_append.1 hx with hx | hx; exact h x hx; simp at hx; subst hx; exact hb) w hw
def catL : List (List UInt8) → List UInt8
  | [] => []
  | w :: ws => w ++ 10 :: catL ws
theorem linesA_cat : ∀ (l cur : List UInt8), catL (linesA l cur) = cur ++ l ∨ catL (linesA l cur) = cur ++ l ++ [10]
  | [], cur => by
    unfold linesA
    split
    · rename_i h; subst h; left; rfl
    · right; simp [catL]
  | b :: t, cur => by
    unfold linesA
    split
    · rename_i h; subst h
      rcases linesA_cat t [] with h | h <;> simp [catL, h]
    · rcases linesA_cat t (cur ++ [b]) with h | h <;> simp [h]
theorem linesA_of_cat : ∀ (ws : List (List UInt8)), (∀ w ∈ ws, ∀ b ∈ w, b ≠ 10) → linesA (catL ws) [] = ws
  | [], _ => rfl
  | w :: ws, h => by
    rw [catL, linesA_run w _ _ (h w (by simp)), linesA, if_pos rfl, linesA_of_cat ws (fun x hx => h x (List.mem_cons_of_mem _ hx))]
    simp
theorem catL_snoc (ws : List (List UInt8)) (w : List UInt8) : catL (ws ++ [w]) = catL ws ++ w ++ [10] := by
  induction ws with
  | nil => simp [catL]
  | cons x r ih => simp [catL, ih]

/-! words -/
def gap (b : UInt8) : Bool := b == 32 || b == 9
def wordsA : List UInt8 → List UInt8 → List (List UInt8)
  | [], cur => if cur = [] then [] else [cur]
  | b :: t, cur => if gap b = true then (if cur = [] then wordsA t [] else cur :: wordsA t []) else if cur = [] ∧ b = 35 then [] else wordsA t (cur ++ [b])
theorem wordsA_run : ∀ (a t cur : List UInt8), cur ≠ [] → (∀ b ∈ a, gap b = false) → wordsA (a ++ t) cur = wordsA t (cur ++ a)
  | [], t, cur, _, _ => by simp
  | b :: a, t, cur, hc, h => by
    rw [List.cons_append, wordsA, if_neg (by rw [h b (by simp)]; simp), if_neg (by simp [hc]), wordsA_run a t _ (by simp) (fun x hx => h x (List.mem_cons_of_mem _ hx))]
    simp
theorem wordsA_word (w t : List UInt8) (hw : w ≠ []) (h : ∀ b ∈ w, gap b = false) (hh : w.head? ≠ some 35) : wordsA (w ++ t) [] = wordsA t w := by
  cases w with
  | nil => exact absurd rfl hw
  | cons b a =>
    rw [List.cons_append, wordsA, if_neg (by rw [h b (by simp)]; simp), if_neg (by simp at hh; simp [hh]), wordsA_run a t _ (by simp) (fun x hx => h x (List.mem_cons_of_mem _ hx))]
    simp
structure Word (w : List UInt8) : Prop where
  ne : w ≠ []
  valid : validD w = true
  free : ∀ b ∈ w, gap b = false
  head : w.head? ≠ some 35
theorem gap_low {b : UInt8} (h : gap b = true) : b.toNat < 128 := by
  simp [gap] at h
  rcases h with rfl | rfl <;> decide
theorem wordsA_words : ∀ (l cur : List UInt8), validD (cur ++ l) = true → (∀ b ∈ cur, gap b = false) → cur.head? ≠ some 35 → ∀ w ∈ wordsA l cur, Word w ∧ ∀ b ∈ w, b ∈ cur ++ l
  | [], cur, hv, hf, hh, w, hw => by
    unfold wordsA at hw
    split at hw
    · simp at hw
    · rename_i hne
      simp at hw; subst hw
      exact ⟨⟨hne, by simpa using hv, hf, hh⟩, by simp⟩
  | b :: t, cur, hv, hf, hh, w, hw => by
    unfold wordsA at hw
    split at hw
    · rename_i hg
      have hvc := valid_cut _ cur b t (Nat.le_refl _) (gap_low hg) hv
      have hvt : validD t = true := by rw [valid_app _ hvc, validD_cons b t (gap_low hg)] at hv; exact hv
      split at hw
      · have := wordsA_words t [] hvt (by simp) (by simp) w hw
        exact ⟨this.1, fun x hx => by have := this.2 x hx; simp at this ⊢; simp [this]⟩
      · rename_i hne
        rcases List.mem_cons.1 hw with rfl | hw
        · exact ⟨⟨hne, hvc, hf, hh⟩, fun x hx => by simp [hx]⟩
        · have := wordsA_words t [] hvt (by simp) (by simp) w hw
          exact ⟨this.1, fun x hx => by have := this.2 x hx; simp at this ⊢; simp [this]⟩
    · rename_i hg
      split at hw
      · simp at hw
      · rename_i hn
        have := wordsA_words t (cur ++ [b]) (by simpa using hv) (fun x hx => by
          rcases List.mem_append.1 hx with hx | hx
          · exact hf x hx
          · simp at hx; subst hx; simpa using hg) (by
          cases cur with
          | nil => simp at hn ⊢; exact hn
          | cons y r => simpa using hh) w hw
        exact ⟨this.1, fun x hx => by have := this.2 x hx; simpa using this⟩
def joinL : List (List UInt8) → List UInt8
  | [] => []
  | [w] => w
  | w :: x :: ws => w ++ 32 :: joinL (x :: ws)
theorem joinL_eq : ∀ ws : List (List UInt8), joinL ws = Lib.join ws [32]
  | [] => by simp [joinL, Lib.join, List.intercalate]
  | [w] => by simp [joinL, Lib.join, List.intercalate]
  | w :: x :: ws => by
    rw [joinL, joinL_eq (x :: ws)]
    simp [Lib.join, List.intercalate]
theorem joinL_snoc : ∀ (ws : List (List UInt8)) (x : List UInt8), ws ≠ [] → joinL (ws ++ [x]) = joinL ws ++ 32 :: x
  | [], x, h => absurd rfl h
  | [w], x, _ => by simp [joinL]
  | w :: y :: ws, x, _ => by
    have := joinL_snoc (y :: ws) x (by simp)
    simp only [List.cons_append] at this ⊢
    rw [joinL, this, joinL]
    simp
theorem joinL_valid : ∀ ws : List (List UInt8), (∀ w ∈ ws, Word w) → validD (joinL ws) = true
  | [], _ => rfl
  | [w], h => (h w (by simp)).valid
  | w :: x :: ws, h => by
    rw [joinL, valid_app _ (h w (by simp)).valid, validD_cons 32 _ (by decide), joinL_valid (x :: ws) (fun y hy => h y (List.mem_cons_of_mem _ hy))]
theorem joinL_words : ∀ ws : List (List UInt8), (∀ w ∈ ws, Word w) → wordsA (joinL ws) [] = ws
  | [], _ => rfl
  | [w], h => by
    have hw := h w (by simp)
    have := wordsA_word w [] hw.ne hw.free hw.head
    rw [List.append_nil] at this
    rw [joinL, this, wordsA, if_neg hw.ne]
  | w :: x :: ws, h => by
    have hw := h w (by simp)
    rw [joinL, wordsA_word w _ hw.ne hw.free hw.head, wordsA, if_pos (by decide), if_neg hw.ne, joinL_words (x :: ws) (fun y hy => h y (List.mem_cons_of_mem _ hy))]
theorem joinL_mem : ∀ (ws : List (List UInt8)) (b : UInt8), b ∈ joinL ws → b = 32 ∨ ∃ w ∈ ws, b ∈ w
  | [], b, h => by simp [joinL] at h
  | [w], b, h => Or.inr ⟨w, by simp, h⟩
  | w :: x :: ws, b, h => by
    rw [joinL] at h
    rcases List.mem_append.1 h with h | h
    · exact Or.inr ⟨w, by simp, h⟩
    · rcases List.mem_cons.1 h with h | h
      · exact Or.inl h
      · rcases joinL_mem (x :: ws) b h with h | ⟨y, hy, h⟩
        · exact Or.inl h
        · exact Or.inr ⟨y, List.mem_cons_of_mem _ hy, h⟩
def ctl (b : UInt8) : Bool := (decide (b.toNat < 32) && b != 9) || b == 127
def ctlL (l : List UInt8) : Bool := l.any ctl
def wordsE (l : List UInt8) : Int := if validD l = true ∧ ctlL l = false then 0 else 5
def wordsV (l : List UInt8) : List (List UInt8) := if validD l = true ∧ ctlL l = false then wordsA l [] else []
def linesE (l : List UInt8) : Int := if 60000 < l.length then 3 else if validD l = true then 0 else 5
def linesV (l : List UInt8) : List (List UInt8) := if 60000 < l.length then [] else if validD l = true then linesA l [] else []

theorem wordsA_len : ∀ (l cur : List UInt8), (wordsA l cur).length ≤ l.length + 1
  | [], cur => by unfold wordsA; split <;> simp
  | b :: t, cur => by
    have := wordsA_len t []
    have := wordsA_len t (cur ++ [b])
    unfold wordsA
    repeat' split
    all_goals simp
    all_goals omega
theorem linesA_len : ∀ (l cur : List UInt8), (linesA l cur).length ≤ l.length + 1
  | [], cur => by unfold linesA; split <;> simp
  | b :: t, cur => by
    have := linesA_len t []
    have := linesA_len t (cur ++ [b])
    unfold linesA
    repeat' split
    all_goals simp
    all_goals omega

theorem words_again {l : List UInt8} (hv : validD l = true) (hc : ctlL l = false) :
    validD (joinL (wordsA l [])) = true ∧ ctlL (joinL (wordsA l [])) = false ∧ wordsA (joinL (wordsA l [])) [] = wordsA l [] := by
  have hw := wordsA_words l [] (by simpa using hv) (by simp) (by simp)
  refine ⟨joinL_valid _ fun w h => (hw w h).1, ?_, joinL_words _ fun w h => (hw w h).1⟩
  unfold ctlL at hc ⊢
  rw [List.any_eq_false] at hc ⊢
  intro b hb
  rcases joinL_mem _ b hb with rfl | ⟨w, hw', hb⟩
  · decide
  · have := (hw w hw').2 b hb
    exact hc b (by simpa using this)
theorem note_words : ∀ (l cur note : List UInt8), wordsA (l ++ 32 :: 35 :: note) cur = wordsA l cur
  | [], cur, note => by
    have g1 : gap 32 = true := by decide
    have g2 : gap 35 = false := by decide
    by_cases hc : cur = []
    · simp [wordsA, g1, g2, hc]
    · simp [wordsA, g1, g2, hc]
  | b :: t, cur, note => by
    rw [List.cons_append, wordsA, wordsA, note_words t, note_words t]
theorem note_ok {l note : List UInt8} (hv : validD l = true) (hc : ctlL l = false) (hv' : validD note = true) (hc' : ctlL note = false) :
    validD (l ++ 32 :: 35 :: note) = true ∧ ctlL (l ++ 32 :: 35 :: note) = false := by
  refine ⟨?_, ?_⟩
  · rw [valid_app _ hv, validD_cons 32 _ (by decide), validD_cons 35 _ (by decide), hv']
  · unfold ctlL at *
    rw [List.any_append, hc, List.any_cons, List.any_cons, hc']
    decide

/-! names -/
def innerR (r : Int) : Bool := isDigitU r || (r == 95 || (r == 45 || r == 46))
def okAt (n : Nat) (r : Int) : Bool := isLetterU r || (decide (n ≠ 0) && innerR r)
def nameR : Nat → List (Nat × Nat) → Bool
  | n, [] => decide (n ≠ 0)
  | n, p :: ps => okAt n p.1 && (decide (n + 1 ≤ 40) && nameR (n + 1) ps)
def nameD (l : List UInt8) : Bool := nameR 0 (dec l)
def goodFrom : Nat → List (Nat × Nat) → Bool
  | _, [] => true
  | n, p :: ps => okAt n p.1 && goodFrom (n + 1) ps
theorem nameR_eq : ∀ (ps : List (Nat × Nat)) (n : Nat), n ≤ 40 → nameR n ps = (decide (n + ps.length ≠ 0) && (decide (n + ps.length ≤ 40) && goodFrom n ps))
  | [], n, h => by simp [nameR, goodFrom, h]
  | p :: ps, n, h => by
    by_cases h2 : n + 1 ≤ 40
    · rw [nameR, nameR_eq ps (n + 1) h2, goodFrom]
      have e : n + 1 + ps.length = n + (p :: ps).length := by simp; omega
      rw [e]
      simp [h2]
      cases okAt n p.1 <;> simp
    · simp [nameR, h2]
      intro h3
      omega
theorem okAt_bad (n : Nat) : okAt n 65533 = false := by
  have h1 : isLetterU 65533 = false := by kernel_rfl
  have h2 : innerR 65533 = false := by kernel_rfl
  unfold okAt
  rw [h1, h2]
  simp
theorem good_valid : ∀ (ps : List (Nat × Nat)) (n : Nat), goodFrom n ps = true → ps.all (fun p => !bad p) = true
  | [], _, _ => rfl
  | p :: ps, n, h => by
    rw [goodFrom, Bool.and_eq_true] at h
    rw [List.all_cons, good_valid ps (n + 1) h.2, Bool.and_true]
    cases hb : bad p with
    | false => rfl
    | true =>
      simp [bad] at hb
      have := h.1
      rw [hb.1] at this
      have e := okAt_bad n
      rw [show ((65533 : Nat) : Int) = 65533 from rfl] at this
      rw [e] at this
      cases this
theorem nameD_eq (l : List UInt8) : nameD l = (validD l && (decide ((dec l).length ≠ 0) && (decide ((dec l).length ≤ 40) && goodFrom 0 (dec l)))) := by
  unfold nameD
  rw [nameR_eq _ 0 (by omega), Nat.zero_add, valid_dec _ l (Nat.le_refl _)]
  cases h : goodFrom 0 (dec l) with
  | false => simp
  | true => rw [good_valid _ _ h]; simp
theorem goodFrom_app : ∀ (ps qs : List (Nat × Nat)) (n : Nat), goodFrom n (ps ++ qs) = (goodFrom n ps && goodFrom (n + ps.length) qs)
  | [], qs, n => by simp [goodFrom]
  | p :: ps, qs, n => by
    rw [List.cons_append, goodFrom, goodFrom, goodFrom_app ps qs (n + 1), Bool.and_assoc]
    rw [show n + 1 + ps.length = n + (p :: ps).length by simp; omega]
theorem name_z {l : List UInt8} (h : nameD l = true) : nameD (l ++ [122]) = decide ((dec l).length < 40) := by
  rw [nameD_eq] at h
  simp only [Bool.and_eq_true, decide_eq_true_eq] at h
  obtain ⟨hv, h0, h40, hg⟩ := h
  have e : dec (l ++ [122]) = dec l ++ [(122, 1)] := by rw [dec_app _ l [122] (Nat.le_refl _) hv]; rfl
  have hv2 : validD (l ++ [122]) = true := by rw [valid_app _ hv]; rfl
  rw [nameD_eq, hv2, e, goodFrom_app, hg]
  have hz : ∀ n, goodFrom n [(122, 1)] = true := fun n => by
    have h1 : isLetterU 122 = true := by kernel_rfl
    unfold goodFrom goodFrom okAt
    show ((isLetterU 122 || _) && true) = true
    rw [h1]; rfl
  rw [hz]
  simp
  by_cases hh : (dec l).length < 40 <;> simp [hh] <;> omega

end Go.Proofs.YtkicanegjkemoaaDoor.Txt

