/- Layer Txt over, for a seat that needs several layers: TxtPure.
   Layer Txt over, for a seat that needs several layers: TxtMem, TxtSmall, TxtSame, TxtName. -/
import Derived.Lib.ValidLaws
import Derived.Lib.TrimUEq
import Derived.Lib.MapLaws
import Derived.Lib.IsU
import Derived.Lib.Join
import Derived.KernelRfl
import Derived.Test.YtgejonmjmieglaaDoorTxtLay
import Derived.WalkKit
import Derived.ProofKit
import Derived.Lib.Hide
import Derived.OpenShut
import Derived.Laws.AppendOwn
import Derived.Laws.AppendOwnNone
import Derived.Laws.OwnMore
import Derived.OwnWalk
import Derived.Lib.OthersKept
import Derived.WalkLawsBesides
import Derived.WalkSpells
import Derived.Laws.RangeAny
import Derived.Deep.RegionWith
import Derived.Outline
import Derived.Deep.QuietTactic
import Derived.BigQuiet
namespace Go.Proofs.YtgejonmjmieglaaDoor.Txt
set_option maxRecDepth 100000
/-! Texts as lists of bytes, rune by rune: what the calls of layer 2 answer, and the laws among these. No program here. -/
open Go.Lib
set_option linter.unusedVariables false

def decGo : Nat → List UInt8 → List (Nat × Nat)
  | 0, _ => []
  | n + 1, l => if l = [] then [] else decodeL l :: decGo n (l.drop (decodeL l).2)
def dec (l : List UInt8) : List (Nat × Nat) := decGo l.length l
def bad (p : Nat × Nat) : Bool := decide (p.1 = 65533 ∧ p.2 = 1)

theorem decGo_fuel : ∀ (n m : Nat) (l : List UInt8), l.length ≤ n → l.length ≤ m → decGo n l = decGo m l
  | 0, 0, _, _, _ => rfl
  | 0, m + 1, l, h, _ => by
    have : l = [] := List.eq_nil_of_length_eq_zero (by omega)
    simp [decGo, this]
  | n + 1, 0, l, _, h => by
    have : l = [] := List.eq_nil_of_length_eq_zero (by omega)
    simp [decGo, this]
  | n + 1, m + 1, l, h, h' => by
    unfold decGo
    split
    · rfl
    · rename_i hne
      have hw := decodeL_width l
      have hl : 0 < l.length := List.length_pos_iff.2 hne
      rw [decGo_fuel n m _ (by rw [List.length_drop]; omega) (by rw [List.length_drop]; omega)]
theorem dec_nil : dec [] = [] := rfl
theorem dec_step (l : List UInt8) (h : l ≠ []) : dec l = decodeL l :: dec (l.drop (decodeL l).2) := by
  have hw := decodeL_width l
  have hl : 0 < l.length := List.length_pos_iff.2 h
  unfold dec
  obtain ⟨n, hn⟩ : ∃ n, l.length = n + 1 := ⟨l.length - 1, by omega⟩
  rw [hn]
  rw [decGo, if_neg h]
  rw [decGo_fuel n (l.drop (decodeL l).2).length _ (by rw [List.length_drop]; omega) (Nat.le_refl _)]
theorem dec_len : ∀ (n : Nat) (l : List UInt8), l.length ≤ n → (dec l).length ≤ l.length
  | 0, l, h => by
    have : l = [] := List.eq_nil_of_length_eq_zero (by omega)
    subst this; simp [dec_nil]
  | n + 1, l, h => by
    by_cases hne : l = []
    · subst hne; simp [dec_nil]
    · have hw := decodeL_width l
      have hl : 0 < l.length := List.length_pos_iff.2 hne
      rw [dec_step l hne]
      have := dec_len n (l.drop (decodeL l).2) (by rw [List.length_drop]; omega)
      rw [List.length_drop] at this
      simp only [List.length_cons]
      omega
theorem valid_dec : ∀ (n : Nat) (l : List UInt8), l.length ≤ n → validD l = (dec l).all (fun p => !bad p)
  | 0, l, h => by
    have : l = [] := List.eq_nil_of_length_eq_zero (by omega)
    subst this; rfl
  | n + 1, l, h => by
    by_cases hne : l = []
    · subst hne; rfl
    · have hw := decodeL_width l
      have hl : 0 < l.length := List.length_pos_iff.2 hne
      rw [dec_step l hne, validD_step l hne, List.all_cons, ← valid_dec n (l.drop (decodeL l).2) (by rw [List.length_drop]; omega)]
      by_cases hb : (decodeL l).1 = 65533 ∧ (decodeL l).2 = 1
      · rw [if_pos hb]; simp [bad, hb]
      · rw [if_neg hb]; simp [bad, hb]

/-! what one step of the decoder takes -/
set_option maxHeartbeats 2000000 in
theorem decodeN_facts (n b0 b1 b2 b3 : Nat) (h0 : 128 ≤ b0) : 128 ≤ (decodeN n b0 b1 b2 b3).1 ∧ (decodeN n b0 b1 b2 b3).2 ≤ 4 ∧ ((decodeN n b0 b1 b2 b3).2 = 1 ∨ (decodeN n b0 b1 b2 b3).2 ≤ n) ∧
    (1 < (decodeN n b0 b1 b2 b3).2 → 128 ≤ b1) ∧ (2 < (decodeN n b0 b1 b2 b3).2 → 128 ≤ b2) ∧ (3 < (decodeN n b0 b1 b2 b3).2 → 128 ≤ b3) := by
  unfold decodeN
  repeat' split
  all_goals (refine ⟨?_, ?_, ?_, ?_, ?_, ?_⟩ <;> dsimp only <;> first | omega | (intro h; omega) | simp)
set_option maxHeartbeats 4000000 in
theorem decodeN_agree (n n' b0 b1 b2 b3 c1 c2 c3 : Nat) (hk : (decodeN n b0 b1 b2 b3).2 ≤ n') (h1 : 1 < (decodeN n b0 b1 b2 b3).2 → c1 = b1) (h2 : 2 < (decodeN n b0 b1 b2 b3).2 → c2 = b2) (h3 : 3 < (decodeN n b0 b1 b2 b3).2 → c3 = b3)
    (hv : ¬ ((decodeN n b0 b1 b2 b3).1 = 65533 ∧ (decodeN n b0 b1 b2 b3).2 = 1)) (hb : b0 < 256) : decodeN n' b0 c1 c2 c3 = decodeN n b0 b1 b2 b3 := by
  by_cases a0 : b0 < 128
  · rw [decodeN_ascii _ _ _ _ _ a0, decodeN_ascii _ _ _ _ _ a0]
  · by_cases a2 : b0 / 32 = 6 ∧ (1 < n ∧ b1 / 64 = 2)
    · have e : decodeN n b0 b1 b2 b3 = (if b0 % 32 * 64 + b1 % 64 ≥ 128 then (b0 % 32 * 64 + b1 % 64, 2) else (65533, 1)) := by unfold decodeN; rw [if_neg a0, if_pos a2]
      by_cases g : b0 % 32 * 64 + b1 % 64 ≥ 128
      · rw [if_pos g] at e
        rw [e] at hk h1 ⊢
        have := h1 (by simp)
        subst this
        simp only at hk
        unfold decodeN
        rw [if_neg a0, if_pos ⟨a2.1, by omega, a2.2.2⟩, if_pos g]
      · rw [if_neg g] at e; rw [e] at hv; simp at hv
    · by_cases a3 : b0 / 16 = 14 ∧ (1 < n ∧ b1 / 64 = 2) ∧ (2 < n ∧ b2 / 64 = 2)
      · have e : decodeN n b0 b1 b2 b3 = (if b0 % 16 * 4096 + b1 % 64 * 64 + b2 % 64 ≥ 2048 ∧ (b0 % 16 * 4096 + b1 % 64 * 64 + b2 % 64 < 55296 ∨ (57344 ≤ b0 % 16 * 4096 + b1 % 64 * 64 + b2 % 64 ∧ b0 % 16 * 4096 + b1 % 64 * 64 + b2 % 64 ≤ 1114111))
     then (b0 % 16 * 4096 + b1 % 64 * 64 + b2 % 64, 3) else (65533, 1)) := by unfold decodeN; rw [if_neg a0, if_neg a2, if_pos a3]
        split at e
        · rename_i g
          rw [e] at hk h1 h2 ⊢
          have := h1 (by simp)
          have := h2 (by simp)
          subst c1 c2
          simp only at hk
          unfold decodeN
          rw [if_neg a0, if_neg (by omega), if_pos ⟨a3.1, ⟨by omega, a3.2.1.2⟩, by omega, a3.2.2.2⟩, if_pos g]
        · rw [e] at hv; simp at hv
      · by_cases a4 : b0 / 8 = 30 ∧ (1 < n ∧ b1 / 64 = 2) ∧ (2 < n ∧ b2 / 64 = 2) ∧ (3 < n ∧ b3 / 64 = 2)
        · have e : decodeN n b0 b1 b2 b3 = (if b0 % 8 * 262144 + b1 % 64 * 4096 + b2 % 64 * 64 + b3 % 64 ≥ 65536 ∧ (b0 % 8 * 262144 + b1 % 64 * 4096 + b2 % 64 * 64 + b3 % 64 < 55296 ∨ (57344 ≤ b0 % 8 * 262144 + b1 % 64 * 4096 + b2 % 64 * 64 + b3 % 64 ∧ b0 % 8 * 262144 + b1 % 64 * 4096 + b2 % 64 * 64 + b3 % 64 ≤ 1114111))
     then (b0 % 8 * 262144 + b1 % 64 * 4096 + b2 % 64 * 64 + b3 % 64, 4) else (65533, 1)) := by unfold decodeN; rw [if_neg a0, if_neg a2, if_neg a3, if_pos a4]
          split at e
          · rename_i g
            rw [e] at hk h1 h2 h3 ⊢
            have := h1 (by simp)
            have := h2 (by simp)
            have := h3 (by simp)
            subst c1 c2 c3
            simp only at hk
            unfold decodeN
            rw [if_neg a0, if_neg (by omega), if_neg (by omega), if_pos ⟨a4.1, ⟨by omega, a4.2.1.2⟩, ⟨by omega, a4.2.2.1.2⟩, by omega, a4.2.2.2.2⟩, if_pos g]
          · rw [e] at hv; simp at hv
        · have e : decodeN n b0 b1 b2 b3 = (65533, 1) := by unfold decodeN; rw [if_neg a0, if_neg a2, if_neg a3, if_neg a4]
          rw [e] at hv; simp at hv

theorem getD_mem {l : List UInt8} {k : Nat} (h : k < l.length) : l.getD k 0 ∈ l := by
  rw [List.getD_eq_getElem?_getD, List.getElem?_eq_getElem h]
  exact List.getElem_mem h
theorem step_ascii {l : List UInt8} (h : l ≠ []) (ha : (l.getD 0 0).toNat < 128) : decodeL l = ((l.getD 0 0).toNat, 1) := by
  rw [decodeL_N, decodeN_ascii _ _ _ _ _ ha]
theorem step_high {l : List UInt8} (h : l ≠ []) (ha : 128 ≤ (l.getD 0 0).toNat) : 128 ≤ (decodeL l).1 ∧ ∀ b ∈ l.take (decodeL l).2, 128 ≤ b.toNat := by
  have hle := decodeL_le l h
  have hw := decodeL_width l
  have f := decodeN_facts l.length (l.getD 0 0).toNat (l.getD 1 0).toNat (l.getD 2 0).toNat (l.getD 3 0).toNat ha
  rw [← decodeL_N] at f
  obtain ⟨f1, f2, _, g1, g2, g3⟩ := f
  refine ⟨f1, fun b hb => ?_⟩
  generalize (decodeL l).2 = k at *
  rcases (show k = 1 ∨ k = 2 ∨ k = 3 ∨ k = 4 by omega) with rfl | rfl | rfl | rfl
  · rw [takeA l (by omega)] at hb; simp at hb; subst hb; simpa using ha
  · rw [takeB l (by omega)] at hb
    simp only [List.mem_cons, List.not_mem_nil, or_false] at hb
    rcases hb with rfl | rfl
    · exact ha
    · exact g1 (by omega)
  · rw [takeC l (by omega)] at hb
    simp only [List.mem_cons, List.not_mem_nil, or_false] at hb
    rcases hb with rfl | rfl | rfl
    · exact ha
    · exact g1 (by omega)
    · exact g2 (by omega)
  · rw [takeD l (by omega)] at hb
    simp only [List.mem_cons, List.not_mem_nil, or_false] at hb
    rcases hb with rfl | rfl | rfl | rfl
    · exact ha
    · exact g1 (by omega)
    · exact g2 (by omega)
    · exact g3 (by omega)

theorem getD_appL (a c : List UInt8) (k : Nat) (h : k < a.length) : (a ++ c).getD k 0 = a.getD k 0 := by
  rw [List.getD_eq_getElem?_getD, List.getD_eq_getElem?_getD, List.getElem?_append_left h]
theorem step_app {a c : List UInt8} (ha : a ≠ []) (hv : ¬ ((decodeL a).1 = 65533 ∧ (decodeL a).2 = 1)) : decodeL (a ++ c) = decodeL a := by
  have hle := decodeL_le a ha
  have hl : 0 < a.length := List.length_pos_iff.2 ha
  rw [decodeL_N] at hle
  rw [decodeL_N a] at hv
  rw [decodeL_N (a ++ c), decodeL_N a, getD_appL a c 0 hl]
  exact decodeN_agree _ _ _ _ _ _ _ _ _ (by rw [List.length_append]; omega) (fun h => by rw [getD_appL a c 1 (by omega)]) (fun h => by rw [getD_appL a c 2 (by omega)]) (fun h => by rw [getD_appL a c 3 (by omega)]) hv (UInt8.toNat_lt _)
theorem step_cut {a c : List UInt8} (ha : a ≠ []) (hk : (decodeL (a ++ c)).2 ≤ a.length) (hv : ¬ ((decodeL (a ++ c)).1 = 65533 ∧ (decodeL (a ++ c)).2 = 1)) : decodeL a = decodeL (a ++ c) := by
  have hl : 0 < a.length := List.length_pos_iff.2 ha
  rw [decodeL_N (a ++ c), getD_appL a c 0 hl] at hk hv
  rw [decodeL_N (a ++ c), decodeL_N a, getD_appL a c 0 hl]
  exact decodeN_agree _ _ _ _ _ _ _ _ _ hk (fun h => by rw [getD_appL a c 1 (by omega)]) (fun h => by rw [getD_appL a c 2 (by omega)]) (fun h => by rw [getD_appL a c 3 (by omega)]) hv (UInt8.toNat_lt _)

theorem dec_app : ∀ (n : Nat) (a c : List UInt8), a.length ≤ n → validD a = true → dec (a ++ c) = dec a ++ dec c
  | 0, a, c, h, _ => by
    have : a = [] := List.eq_nil_of_length_eq_zero (by omega)
    subst this; rfl
  | n + 1, a, c, h, hv => by
    by_cases hne : a = []
    · subst hne; rfl
    · have hw := decodeL_width a
      have hl : 0 < a.length := List.length_pos_iff.2 hne
      have hle := decodeL_le a hne
      rw [validD_step a hne] at hv
      by_cases hb : (decodeL a).1 = 65533 ∧ (decodeL a).2 = 1
      · rw [if_pos hb] at hv; cases hv
      · rw [if_neg hb] at hv
        rw [dec_step (a ++ c) (by simp [hne]), step_app hne hb, dec_step a hne, List.drop_append_of_le_length hle, dec_app n _ c (by rw [List.length_drop]; omega) hv]
        rfl
theorem valid_app {a : List UInt8} (c : List UInt8) (hv : validD a = true) : validD (a ++ c) = validD c := by
  rw [valid_dec _ _ (Nat.le_refl _), dec_app _ a c (Nat.le_refl _) hv, List.all_append, ← valid_dec _ _ (Nat.le_refl _), ← valid_dec _ _ (Nat.le_refl _), hv, Bool.true_and]
theorem valid_cut : ∀ (n : Nat) (a : List UInt8) (b : UInt8) (c : List UInt8), a.length ≤ n → b.toNat < 128 → validD (a ++ b :: c) = true → validD a = true
  | 0, a, b, c, h, _, _ => by
    have : a = [] := List.eq_nil_of_length_eq_zero (by omega)
    subst this; rfl
  | n + 1, a, b, c, h, hb, hv => by
    by_cases hne : a = []
    · subst hne; rfl
    · have hne' : a ++ b :: c ≠ [] := by simp
      have hl : 0 < a.length := List.length_pos_iff.2 hne
      have hw := decodeL_width (a ++ b :: c)
      rw [validD_step _ hne'] at hv
      by_cases hbad : (decodeL (a ++ b :: c)).1 = 65533 ∧ (decodeL (a ++ b :: c)).2 = 1
      · rw [if_pos hbad] at hv; cases hv
      · rw [if_neg hbad] at hv
        have hk : (decodeL (a ++ b :: c)).2 ≤ a.length := by
          by_cases hlow : ((a ++ b :: c).getD 0 0).toNat < 128
          · rw [step_ascii hne' hlow]; exact hl
          · refine Nat.le_of_not_lt fun hgt => ?_
            have hm : b ∈ (a ++ b :: c).take (decodeL (a ++ b :: c)).2 := by
              rw [List.take_append]
              refine List.mem_append_right _ ?_
              obtain ⟨j, hj⟩ : ∃ j, (decodeL (a ++ b :: c)).2 - a.length = j + 1 := ⟨(decodeL (a ++ b :: c)).2 - a.length - 1, by omega⟩
              rw [hj]; simp
            have := (step_high hne' (by omega)).2 b hm
            omega
        have e := step_cut hne hk hbad
        rw [List.drop_append_of_le_length hk] at hv
        rw [validD_step a hne, e, if_neg hbad]
        exact valid_cut n _ b c (by rw [List.length_drop]; omega) hb hv

/-! lines -/
def linesA : List UInt8 → List UInt8 → List (List UInt8)
  | [], cur => if cur = [] then [] else [cur]
  | b :: t, cur => if b = 10 then cur :: linesA t [] else linesA t (cur ++ [b])
theorem linesA_run : ∀ (a t cur : List UInt8), (∀ b ∈ a, b ≠ 10) → linesA (a ++ t) cur = linesA t (cur ++ a)
  | [], t, cur, _ => by simp
  | b :: a, t, cur, h => by
    rw [List.cons_append, linesA, if_neg (h b (by simp)), linesA_run a t _ (fun x hx => h x (List.mem_cons_of_mem _ hx))]
    simp
theorem linesA_free : ∀ (l cur : List UInt8), (∀ b ∈ cur, b ≠ 10) → ∀ w ∈ linesA l cur, ∀ b ∈ w, b ≠ 10
  | [], cur, h, w, hw => by
    unfold linesA at hw
    split at hw
    · simp at hw
    · simp at hw; subst hw; exact h
  | b :: t, cur, h, w, hw => by
    unfold linesA at hw
    split at hw
    · rcases List.mem_cons.1 hw with rfl | hw
      · exact h
      · exact linesA_free t [] (by simp) w hw
    · rename_i hb
      exact linesA_free t _ (fun x hx => by rcases List.mem_append.1 hx with hx | hx; exact h x hx; simp at hx; subst hx; exact hb) w hw
def catL : List (List UInt8) → List UInt8
  | [] => []
  | w :: ws => w ++ 10 :: catL ws
theorem linesA_cat : ∀ (l cur : List UInt8), catL (linesA l cur) = cur ++ l ∨ catL (linesA l cur) = cur ++ l ++ [10]
  | [], cur => by
    unfold linesA
    split
    · rename_i h; subst h; left; rfl
    · right; simp [catL]
  | b :: t, cur => by
    unfold linesA
    split
    · rename_i h; subst h
      rcases linesA_cat t [] with h | h <;> simp [catL, h]
    · rcases linesA_cat t (cur ++ [b]) with h | h <;> simp [h]
theorem linesA_of_cat : ∀ (ws : List (List UInt8)), (∀ w ∈ ws, ∀ b ∈ w, b ≠ 10) → linesA (catL ws) [] = ws
  | [], _ => rfl
  | w :: ws, h => by
    rw [catL, linesA_run w _ _ (h w (by simp)), linesA, if_pos rfl, linesA_of_cat ws (fun x hx => h x (List.mem_cons_of_mem _ hx))]
    simp
theorem catL_snoc (ws : List (List UInt8)) (w : List UInt8) : catL (ws ++ [w]) = catL ws ++ w ++ [10] := by
  induction ws with
  | nil => simp [catL]
  | cons x r ih => simp [catL, ih]

/-! words -/
def gap (b : UInt8) : Bool := b == 32 || b == 9
def wordsA : List UInt8 → List UInt8 → List (List UInt8)
  | [], cur => if cur = [] then [] else [cur]
  | b :: t, cur => if gap b = true then (if cur = [] then wordsA t [] else cur :: wordsA t []) else if cur = [] ∧ b = 35 then [] else wordsA t (cur ++ [b])
theorem wordsA_run : ∀ (a t cur : List UInt8), cur ≠ [] → (∀ b ∈ a, gap b = false) → wordsA (a ++ t) cur = wordsA t (cur ++ a)
  | [], t, cur, _, _ => by simp
  | b :: a, t, cur, hc, h => by
    rw [List.cons_append, wordsA, if_neg (by rw [h b (by simp)]; simp), if_neg (by simp [hc]), wordsA_run a t _ (by simp) (fun x hx => h x (List.mem_cons_of_mem _ hx))]
    simp
theorem wordsA_word (w t : List UInt8) (hw : w ≠ []) (h : ∀ b ∈ w, gap b = false) (hh : w.head? ≠ some 35) : wordsA (w ++ t) [] = wordsA t w := by
  cases w with
  | nil => exact absurd rfl hw
  | cons b a =>
    rw [List.cons_append, wordsA, if_neg (by rw [h b (by simp)]; simp), if_neg (by simp at hh; simp [hh]), wordsA_run a t _ (by simp) (fun x hx => h x (List.mem_cons_of_mem _ hx))]
    simp
structure Word (w : List UInt8) : Prop where
  ne : w ≠ []
  valid : validD w = true
  free : ∀ b ∈ w, gap b = false
  head : w.head? ≠ some 35
theorem gap_low {b : UInt8} (h : gap b = true) : b.toNat < 128 := by
  simp [gap] at h
  rcases h with rfl | rfl <;> decide
theorem wordsA_words : ∀ (l cur : List UInt8), validD (cur ++ l) = true → (∀ b ∈ cur, gap b = false) → cur.head? ≠ some 35 → ∀ w ∈ wordsA l cur, Word w ∧ ∀ b ∈ w, b ∈ cur ++ l
  | [], cur, hv, hf, hh, w, hw => by
    unfold wordsA at hw
    split at hw
    · simp at hw
    · rename_i hne
      simp at hw; subst hw
      exact ⟨⟨hne, by simpa using hv, hf, hh⟩, by simp⟩
  | b :: t, cur, hv, hf, hh, w, hw => by
    unfold wordsA at hw
    split at hw
    · rename_i hg
      have hvc := valid_cut _ cur b t (Nat.le_refl _) (gap_low hg) hv
      have hvt : validD t = true := by rw [valid_app _ hvc, validD_cons b t (gap_low hg)] at hv; exact hv
      split at hw
      · have := wordsA_words t [] hvt (by simp) (by simp) w hw
        exact ⟨this.1, fun x hx => by have := this.2 x hx; simp at this ⊢; simp [this]⟩
      · rename_i hne
        rcases List.mem_cons.1 hw with rfl | hw
        · exact ⟨⟨hne, hvc, hf, hh⟩, fun x hx => by simp [hx]⟩
        · have := wordsA_words t [] hvt (by simp) (by simp) w hw
          exact ⟨this.1, fun x hx => by have := this.2 x hx; simp at this ⊢; simp [this]⟩
    · rename_i hg
      split at hw
      · simp at hw
      · rename_i hn
        have := wordsA_words t (cur ++ [b]) (by simpa using hv) (fun x hx => by
          rcases List.mem_append.1 hx with hx | hx
          · exact hf x hx
          · simp at hx; subst hx; simpa using hg) (by
          cases cur with
          | nil => simp at hn ⊢; exact hn
          | cons y r => simpa using hh) w hw
        exact ⟨this.1, fun x hx => by have := this.2 x hx; simpa using this⟩
def joinL : List (List UInt8) → List UInt8
  | [] => []
  | [w] => w
  | w :: x :: ws => w ++ 32 :: joinL (x :: ws)
theorem joinL_eq : ∀ ws : List (List UInt8), joinL ws = Lib.join ws [32]
  | [] => by simp [joinL, Lib.join, List.intercalate]
  | [w] => by simp [joinL, Lib.join, List.intercalate]
  | w :: x :: ws => by
    rw [joinL, joinL_eq (x :: ws)]
    simp [Lib.join, List.intercalate]
theorem joinL_snoc : ∀ (ws : List (List UInt8)) (x : List UInt8), ws ≠ [] → joinL (ws ++ [x]) = joinL ws ++ 32 :: x
  | [], x, h => absurd rfl h
  | [w], x, _ => by simp [joinL]
  | w :: y :: ws, x, _ => by
    have := joinL_snoc (y :: ws) x (by simp)
    simp only [List.cons_append] at this ⊢
    rw [joinL, this, joinL]
    simp
theorem joinL_valid : ∀ ws : List (List UInt8), (∀ w ∈ ws, Word w) → validD (joinL ws) = true
  | [], _ => rfl
  | [w], h => (h w (by simp)).valid
  | w :: x :: ws, h => by
    rw [joinL, valid_app _ (h w (by simp)).valid, validD_cons 32 _ (by decide), joinL_valid (x :: ws) (fun y hy => h y (List.mem_cons_of_mem _ hy))]
theorem joinL_words : ∀ ws : List (List UInt8), (∀ w ∈ ws, Word w) → wordsA (joinL ws) [] = ws
  | [], _ => rfl
  | [w], h => by
    have hw := h w (by simp)
    have := wordsA_word w [] hw.ne hw.free hw.head
    rw [List.append_nil] at this
    rw [joinL, this, wordsA, if_neg hw.ne]
  | w :: x :: ws, h => by
    have hw := h w (by simp)
    rw [joinL, wordsA_word w _ hw.ne hw.free hw.head, wordsA, if_pos (by decide), if_neg hw.ne, joinL_words (x :: ws) (fun y hy => h y (List.mem_cons_of_mem _ hy))]
theorem joinL_mem : ∀ (ws : List (List UInt8)) (b : UInt8), b ∈ joinL ws → b = 32 ∨ ∃ w ∈ ws, b ∈ w
  | [], b, h => by simp [joinL] at h
  | [w], b, h => Or.inr ⟨w, by simp, h⟩
  | w :: x :: ws, b, h => by
    rw [joinL] at h
    rcases List.mem_append.1 h with h | h
    · exact Or.inr ⟨w, by simp, h⟩
    · rcases List.mem_cons.1 h with h | h
      · exact Or.inl h
      · rcases joinL_mem (x :: ws) b h with h | ⟨y, hy, h⟩
        · exact Or.inl h
        · exact Or.inr ⟨y, List.mem_cons_of_mem _ hy, h⟩
def ctl (b : UInt8) : Bool := (decide (b.toNat < 32) && b != 9) || b == 127
def ctlL (l : List UInt8) : Bool := l.any ctl
def wordsE (l : List UInt8) : Int := if validD l = true ∧ ctlL l = false then 0 else 5
def wordsV (l : List UInt8) : List (List UInt8) := if validD l = true ∧ ctlL l = false then wordsA l [] else []
def linesE (l : List UInt8) : Int := if 60000 < l.length then 3 else if validD l = true then 0 else 5
def linesV (l : List UInt8) : List (List UInt8) := if 60000 < l.length then [] else if validD l = true then linesA l [] else []

theorem wordsA_len : ∀ (l cur : List UInt8), (wordsA l cur).length ≤ l.length + 1
  | [], cur => by unfold wordsA; split <;> simp
  | b :: t, cur => by
    have := wordsA_len t []
    have := wordsA_len t (cur ++ [b])
    unfold wordsA
    repeat' split
    all_goals simp
    all_goals omega
theorem linesA_len : ∀ (l cur : List UInt8), (linesA l cur).length ≤ l.length + 1
  | [], cur => by unfold linesA; split <;> simp
  | b :: t, cur => by
    have := linesA_len t []
    have := linesA_len t (cur ++ [b])
    unfold linesA
    repeat' split
    all_goals simp
    all_goals omega

theorem words_again {l : List UInt8} (hv : validD l = true) (hc : ctlL l = false) :
    validD (joinL (wordsA l [])) = true ∧ ctlL (joinL (wordsA l [])) = false ∧ wordsA (joinL (wordsA l [])) [] = wordsA l [] := by
  have hw := wordsA_words l [] (by simpa using hv) (by simp) (by simp)
  refine ⟨joinL_valid _ fun w h => (hw w h).1, ?_, joinL_words _ fun w h => (hw w h).1⟩
  unfold ctlL at hc ⊢
  rw [List.any_eq_false] at hc ⊢
  intro b hb
  rcases joinL_mem _ b hb with rfl | ⟨w, hw', hb⟩
  · decide
  · have := (hw w hw').2 b hb
    exact hc b (by simpa using this)
theorem note_words : ∀ (l cur note : List UInt8), wordsA (l ++ 32 :: 35 :: note) cur = wordsA l cur
  | [], cur, note => by
    have g1 : gap 32 = true := by decide
    have g2 : gap 35 = false := by decide
    by_cases hc : cur = []
    · simp [wordsA, g1, g2, hc]
    · simp [wordsA, g1, g2, hc]
  | b :: t, cur, note => by
    rw [List.cons_append, wordsA, wordsA, note_words t, note_words t]
theorem note_ok {l note : List UInt8} (hv : validD l = true) (hc : ctlL l = false) (hv' : validD note = true) (hc' : ctlL note = false) :
    validD (l ++ 32 :: 35 :: note) = true ∧ ctlL (l ++ 32 :: 35 :: note) = false := by
  refine ⟨?_, ?_⟩
  · rw [valid_app _ hv, validD_cons 32 _ (by decide), validD_cons 35 _ (by decide), hv']
  · unfold ctlL at *
    rw [List.any_append, hc, List.any_cons, List.any_cons, hc']
    decide

/-! names -/
def innerR (r : Int) : Bool := isDigitU r || (r == 95 || (r == 45 || r == 46))
def okAt (n : Nat) (r : Int) : Bool := isLetterU r || (decide (n ≠ 0) && innerR r)
def nameR : Nat → List (Nat × Nat) → Bool
  | n, [] => decide (n ≠ 0)
  | n, p :: ps => okAt n p.1 && (decide (n + 1 ≤ 40) && nameR (n + 1) ps)
def nameD (l : List UInt8) : Bool := nameR 0 (dec l)
def goodFrom : Nat → List (Nat × Nat) → Bool
  | _, [] => true
  | n, p :: ps => okAt n p.1 && goodFrom (n + 1) ps
theorem nameR_eq : ∀ (ps : List (Nat × Nat)) (n : Nat), n ≤ 40 → nameR n ps = (decide (n + ps.length ≠ 0) && (decide (n + ps.length ≤ 40) && goodFrom n ps))
  | [], n, h => by simp [nameR, goodFrom, h]
  | p :: ps, n, h => by
    by_cases h2 : n + 1 ≤ 40
    · rw [nameR, nameR_eq ps (n + 1) h2, goodFrom]
      have e : n + 1 + ps.length = n + (p :: ps).length := by simp; omega
      rw [e]
      simp [h2]
      cases okAt n p.1 <;> simp
    · simp [nameR, h2]
      intro h3
      omega
theorem okAt_bad (n : Nat) : okAt n 65533 = false := by
  have h1 : isLetterU 65533 = false := by kernel_rfl
  have h2 : innerR 65533 = false := by kernel_rfl
  unfold okAt
  rw [h1, h2]
  simp
theorem good_valid : ∀ (ps : List (Nat × Nat)) (n : Nat), goodFrom n ps = true → ps.all (fun p => !bad p) = true
  | [], _, _ => rfl
  | p :: ps, n, h => by
    rw [goodFrom, Bool.and_eq_true] at h
    rw [List.all_cons, good_valid ps (n + 1) h.2, Bool.and_true]
    cases hb : bad p with
    | false => rfl
    | true =>
      simp [bad] at hb
      have := h.1
      rw [hb.1] at this
      have e := okAt_bad n
      rw [show ((65533 : Nat) : Int) = 65533 from rfl] at this
      rw [e] at this
      cases this
theorem nameD_eq (l : List UInt8) : nameD l = (validD l && (decide ((dec l).length ≠ 0) && (decide ((dec l).length ≤ 40) && goodFrom 0 (dec l)))) := by
  unfold nameD
  rw [nameR_eq _ 0 (by omega), Nat.zero_add, valid_dec _ l (Nat.le_refl _)]
  cases h : goodFrom 0 (dec l) with
  | false => simp
  | true => rw [good_valid _ _ h]; simp
theorem goodFrom_app : ∀ (ps qs : List (Nat × Nat)) (n : Nat), goodFrom n (ps ++ qs) = (goodFrom n ps && goodFrom (n + ps.length) qs)
  | [], qs, n => by simp [goodFrom]
  | p :: ps, qs, n => by
    rw [List.cons_append, goodFrom, goodFrom, goodFrom_app ps qs (n + 1), Bool.and_assoc]
    rw [show n + 1 + ps.length = n + (p :: ps).length by simp; omega]
theorem name_z {l : List UInt8} (h : nameD l = true) : nameD (l ++ [122]) = decide ((dec l).length < 40) := by
  rw [nameD_eq] at h
  simp only [Bool.and_eq_true, decide_eq_true_eq] at h
  obtain ⟨hv, h0, h40, hg⟩ := h
  have e : dec (l ++ [122]) = dec l ++ [(122, 1)] := by rw [dec_app _ l [122] (Nat.le_refl _) hv]; rfl
  have hv2 : validD (l ++ [122]) = true := by rw [valid_app _ hv]; rfl
  rw [nameD_eq, hv2, e, goodFrom_app, hg]
  have hz : ∀ n, goodFrom n [(122, 1)] = true := fun n => by
    have h1 : isLetterU 122 = true := by kernel_rfl
    unfold goodFrom goodFrom okAt
    show ((isLetterU 122 || _) && true) = true
    rw [h1]; rfl
  rw [hz]
  simp
  by_cases hh : (dec l).length < 40 <;> simp [hh] <;> omega

end Go.Proofs.YtgejonmjmieglaaDoor.Txt
namespace Go.Proofs.YtgejonmjmieglaaDoor.Txt
set_option maxRecDepth 100000
/-! A slice of strings that holds a list; append onto one that the call made; the library's tables. -/
open Go.RowKit Go.Shelf Go.Lib
set_option linter.unusedVariables false

abbrev lst (s : ByteArray) : List UInt8 := s.data.toList
def bs (l : List UInt8) : ByteArray := ⟨l.toArray⟩
theorem lst_bs (l : List UInt8) : lst (bs l) = l := by simp [bs, lst]
theorem bs_lst (s : ByteArray) : bs (lst s) = s := by simp [bs, lst]
theorem lst_inj {a b : ByteArray} (h : lst a = lst b) : a = b := by rw [← bs_lst a, ← bs_lst b, h]
theorem lst_len (s : ByteArray) : (lst s).length = s.size := rfl
theorem lsts_inj : ∀ {a b : List ByteArray}, a.map lst = b.map lst → a = b
  | [], [], _ => rfl
  | [], _ :: _, h => by simp at h
  | _ :: _, [], h => by simp at h
  | x :: a, y :: b, h => by
    simp only [List.map_cons, List.cons.injEq] at h
    rw [lst_inj h.1, lsts_inj h.2]

def Strs (w : World) (A : Option Addr) (zs : List ByteArray) : Prop :=
  ∀ k x, zs[k]? = some x → ∃ b off, A = some ⟨b, off, none⟩ ∧ b < w.heap.size ∧ w.cell? ⟨b, off + k, none⟩ = some (.string x)
theorem Strs.at_ {w : World} {A : Option Addr} {zs : List ByteArray} (h : Strs w A zs) {k : Nat} (hk : k < zs.length) :
    ∃ b off x, A = some ⟨b, off, none⟩ ∧ zs[k]? = some x ∧ w.cell? ⟨b, off + k, none⟩ = some (.string x) := by
  have hx : zs[k]? = some zs[k] := List.getElem?_eq_getElem hk
  obtain ⟨b, off, e, _, hc⟩ := h k _ hx
  exact ⟨b, off, _, e, hx, hc⟩
theorem Strs.none_ {w : World} {A : Option Addr} : Strs w A [] := fun k x h => by simp at h
theorem Strs.below {w w' : World} {A : Option Addr} {zs : List ByteArray} (h : Strs w A zs) (hb : Below w.heap.size w w') : Strs w' A zs := by
  intro k x hx
  obtain ⟨b, off, e, hlt, hc⟩ := h k x hx
  exact ⟨b, off, e, Nat.lt_of_lt_of_le hlt hb.size, (hb.cell (p := ⟨b, off + k, none⟩) hlt).trans hc⟩

def Ints (w : World) (A : Option Addr) (zs : List Int) : Prop :=
  ∀ k x, zs[k]? = some x → ∃ b off, A = some ⟨b, off, none⟩ ∧ b < w.heap.size ∧ w.cell? ⟨b, off + k, none⟩ = some (.int .i64 x)
theorem Ints.at_ {w : World} {A : Option Addr} {zs : List Int} (h : Ints w A zs) {k : Nat} (hk : k < zs.length) :
    ∃ b off x, A = some ⟨b, off, none⟩ ∧ zs[k]? = some x ∧ w.cell? ⟨b, off + k, none⟩ = some (.int .i64 x) := by
  have hx : zs[k]? = some zs[k] := List.getElem?_eq_getElem hk
  obtain ⟨b, off, e, _, hc⟩ := h k _ hx
  exact ⟨b, off, _, e, hx, hc⟩
theorem Ints.below {w w' : World} {A : Option Addr} {zs : List Int} (h : Ints w A zs) (hb : Below w.heap.size w w') : Ints w' A zs := by
  intro k x hx
  obtain ⟨b, off, e, hlt, hc⟩ := h k x hx
  exact ⟨b, off, e, Nat.lt_of_lt_of_le hlt hb.size, (hb.cell (p := ⟨b, off + k, none⟩) hlt).trans hc⟩

theorem info_str : (Tryd.prog.info? 9).map (fun i => (i.zero, i.size, i.bytes)) = some (some (.string ⟨#[]⟩), 1, 16) := by kernel_rfl
theorem info_int : (Tryd.prog.info? 3).map (fun i => (i.zero, i.size, i.bytes)) = some (some (.int .i64 0), 1, 8) := by kernel_rfl

def OwnStrs (w : World) (base : Nat) (v : Value) (xs : List ByteArray) : Prop := w.ownsRow base 9 1 v xs.length (xs.map Value.string)
def OwnInts (w : World) (base : Nat) (v : Value) (xs : List Int) : Prop := w.ownsRow base 3 1 v xs.length (xs.map (Value.int .i64))
theorem OwnStrs.nil (w : World) (base : Nat) : OwnStrs w base (.slice none 0 0) [] := World.ownsRow_nil w base _ 1
theorem OwnInts.nil (w : World) (base : Nat) : OwnInts w base (.slice none 0 0) [] := World.ownsRow_nil w base _ 1
theorem ownsRow_iterAt {w : World} {base : Nat} {e : TypeId} {v : Value} {n : Nat} {xs : List Value} (h : w.ownsRow base e 1 v n xs) {k : Nat} (hk : k < base) (s : ByteArray) (pos : Nat) : (w.iterAt k s pos).ownsRow base e 1 v n xs := by
  refine ⟨h.1, ?_⟩
  rcases h.2 with h0 | ⟨g, cap, cur, hv, hbg, hh, hnc, hcm, hcs, htake⟩
  · exact Or.inl h0
  · exact Or.inr ⟨g, cap, cur, hv, hbg, by rw [iterAt_other w k g s pos (by omega)]; exact hh, hnc, hcm, hcs, htake⟩
theorem OwnStrs.iterAt {w : World} {base : Nat} {v : Value} {xs : List ByteArray} (h : OwnStrs w base v xs) {k : Nat} (hk : k < base) (s : ByteArray) (pos : Nat) : OwnStrs (w.iterAt k s pos) base v xs := ownsRow_iterAt h hk s pos
theorem OwnStrs.alloc {w : World} {base : Nat} {v : Value} {xs : List ByteArray} (h : OwnStrs w base v xs) (o : Obj) : OwnStrs (w.alloc o) base v xs := World.ownsRow.alloc h o
theorem OwnInts.alloc {w : World} {base : Nat} {v : Value} {xs : List Int} (h : OwnInts w base v xs) (o : Obj) : OwnInts (w.alloc o) base v xs := World.ownsRow.alloc h o

/-- a slice that is one -/
def Sd (w : World) (A : Option Addr) (c : Nat) : Prop := (∀ k, A = some k → k.block < w.heap.size) ∧ c ≤ maxLen ∧ (A = none → c = 0)
theorem Sd.none_ (w : World) : Sd w none 0 := ⟨(fun k h => by cases h), Nat.zero_le _, fun _ => rfl⟩
theorem OwnStrs.strs {w : World} {base : Nat} {v : Value} {xs : List ByteArray} (h : OwnStrs w base v xs) : ∃ A c, v = .slice A xs.length c ∧ Strs w A xs ∧ xs.length ≤ c ∧ Sd w A c := by
  rcases h.2 with ⟨hv, hn⟩ | ⟨g, cap, cur, hv, hbg, hh, hnc, hcm, hcs, htake⟩
  · have hx : xs = [] := List.eq_nil_of_length_eq_zero hn
    subst hx
    exact ⟨none, 0, hv, Strs.none_, Nat.le_refl _, Sd.none_ w⟩
  · have hlt : g < w.heap.size := by
      rcases Nat.lt_or_ge g w.heap.size with a | a
      · exact a
      · rw [Array.getElem?_eq_none a] at hh; cases hh
    refine ⟨_, cap, hv, ?_, hnc, ⟨fun k h => by cases h; exact hlt, hcm, fun h => by cases h⟩⟩
    intro k x hx
    refine ⟨g, 0, rfl, hlt, ?_⟩
    rw [Nat.zero_add, cell_of_row w g k cur _ (0, 0) hh]
    have hk : k < xs.length := (List.getElem?_eq_some_iff.1 hx).1
    have e : (cur.toList.take (xs.length * 1))[k]? = some (.string x) := by rw [htake, List.getElem?_map, hx]; rfl
    rw [List.getElem?_take, if_pos (by omega)] at e
    rw [← e, Array.getElem?_toList]
theorem OwnInts.ints {w : World} {base : Nat} {v : Value} {xs : List Int} (h : OwnInts w base v xs) : ∃ A c, v = .slice A xs.length c ∧ Ints w A xs := by
  rcases h.2 with ⟨hv, hn⟩ | ⟨g, cap, cur, hv, hbg, hh, hnc, hcm, hcs, htake⟩
  · have hx : xs = [] := List.eq_nil_of_length_eq_zero hn
    subst hx
    exact ⟨none, 0, hv, fun k x h => by simp at h⟩
  · refine ⟨_, cap, hv, ?_⟩
    intro k x hx
    have hlt : g < w.heap.size := by
      rcases Nat.lt_or_ge g w.heap.size with a | a
      · exact a
      · rw [Array.getElem?_eq_none a] at hh; cases hh
    refine ⟨g, 0, rfl, hlt, ?_⟩
    rw [Nat.zero_add, cell_of_row w g k cur _ (0, 0) hh]
    have hk : k < xs.length := (List.getElem?_eq_some_iff.1 hx).1
    have e : (cur.toList.take (xs.length * 1))[k]? = some (.int .i64 x) := by rw [htake, List.getElem?_map, hx]; rfl
    rw [List.getElem?_take, if_pos (by omega)] at e
    rw [← e, Array.getElem?_toList]

theorem wpList_appi {w : World} {ops : Array Oper} {rest : List Oper} {o : Oper} {a : Act} {Q : Exit → Act → World → Prop} (hgd : o.guard = none) (s x : Operand)
    (ho : o.op = .call { callee := .builtin .append, args := #[s, x], argTypes := #[25, 25] })
    (base : Nat) (v : Value) (xs : List Int) (hs : a.eval s = v) (hown : OwnInts w base v xs) (g : Nat) (y : Int) (hx : a.eval x = .slice (some ⟨g, 0, none⟩) 1 1)
    (hc : w.cell? ⟨g, 0, none⟩ = some (.int .i64 y)) (hlen : xs.length ≤ 2000000) (hbase : base ≤ w.heap.size)
    (h : ∀ (v' : Value) (w' : World), OwnInts w' base v' (xs ++ [y]) → Below base w w' → wpList Tryd.prog ops Q rest (a.put o.dst v') w') :
    wpList Tryd.prog ops Q (o :: rest) a w := by
  obtain ⟨i0, hi0, hz0, hz1, hz2⟩ := info_parts info_int
  refine wpList_append_own w hgd s x _ ho base _ i0 (.int .i64 0) 1 8 Tryd.underlying25 hi0 hz0 hz1 hz2 rfl (by decide) v xs.length _ hs hown ⟨g, 0, none⟩ 1 1 [.int .i64 y] hx (by simp) ?_ ?_ (by simp only [maxLen]; omega) (by omega) hbase ?_
  · intro j u hu
    match j, hu with
    | 0, hu => simp at hu; subst hu; exact hc
    | j + 1, hu => simp at hu
  · intro u hu
    simp at hu; subst hu; rfl
  · intro v' w' hown' hg _
    refine h v' w' ?_ ((Below.refl _ _).grown hg hbase fun k hk => (hown.lt k hk).1)
    unfold OwnInts
    rw [List.map_append, List.length_append]
    exact hown'

def Utf8T (w : World) : Prop :=
  True
/-- the library's four tables, as they are laid -/
def Tabs (w : World) : Prop :=
  Utf8T w ∧ Lib.TabIs Tryd.prog w "unicode.properties" .u8 Lib.propertiesTab ∧ RVar (Tryd.laysLetter_ren.g 8) letterT w ∧ RVar (Tryd.laysDigit_ren.g 5) digitT w
theorem Tabs.below {w w' : World} (h : Tabs w) (hb : Below w.heap.size w w') : Tabs w' :=
  ⟨trivial, TabIs_below (g := Tryd.laysLetter_ren.g 7) (by kernel_rfl) h.2.1 hb, RVar_below h.2.2.1 hb, RVar_below h.2.2.2 hb⟩
theorem letter_c (r : Int) (w : World) (hlo : -2147483648 ≤ r) (hhi : r ≤ 2147483647) (hT : Tabs w) :
    Calls Tryd.prog 82 #[.int .i32 r] w fun e w' => e = .returned (.bool (isLetterU r)) ∧ Below w.heap.size w w' :=
  Any.unicode_IsLetter_all Tryd.laysLetter (by kernel_rfl) r w hlo hhi hT.2.1 hT.2.2.1
theorem digit_c (r : Int) (w : World) (hlo : -2147483648 ≤ r) (hhi : r ≤ 2147483647) (hT : Tabs w) :
    Calls Tryd.prog 83 #[.int .i32 r] w fun e w' => e = .returned (.bool (isDigitU r)) ∧ Below w.heap.size w w' :=
  Any.unicode_IsDigit_all Tryd.laysDigit r w hlo hhi hT.2.2.2

theorem blw {w w1 w2 : World} (h : Below w.heap.size w w1) (k : Below w1.heap.size w1 w2) : Below w.heap.size w w2 := h.trans (k.mono h.size)

/-! The small calls of layer 2: lower, small, Same (both), isGap, isInner, hasControl, Runes, SameAll. -/
open Go.RowKit Go.Shelf Go.Lib
set_option linter.unusedVariables false

def lowN (c : Nat) : Nat := if 65 ≤ c ∧ c ≤ 90 then c + 32 else c
theorem lowN_lt {c : Nat} (h : c < 256) : lowN c < 256 := by unfold lowN; split <;> omega
theorem lower_any (c : Nat) (w : World) (hc : c < 256) :
    Calls Tryd.prog 99 #[.int .u8 (c : Int)] w fun e w' => e = .returned (.int .u8 (lowN c : Nat)) ∧ w' = w := by
  unfold lowN
  by_cases h1 : 65 ≤ c
  · by_cases h2 : c ≤ 90
    · rw [if_pos ⟨h1, h2⟩]
      go_enter Tryd.func99, Tryd.ntmps99
      go_wp2
      go_ret
      exact ⟨by first | rfl | (congr 2; omega), rfl⟩
    · rw [if_neg (by omega)]
      go_enter Tryd.func99, Tryd.ntmps99
      go_wp2
      go_ret
      exact ⟨rfl, rfl⟩
  · rw [if_neg (by omega)]
    go_enter Tryd.func99, Tryd.ntmps99
    go_wp2
    go_ret
    exact ⟨rfl, rfl⟩
theorem small_any (c : Nat) (w : World) (hc : c < 256) :
    Calls Tryd.prog 95 #[.int .u8 (c : Int)] w fun e w' => e = .returned (.int .u8 (lowN c : Nat)) ∧ w' = w := by
  unfold lowN
  by_cases h1 : 65 ≤ c
  · by_cases h2 : c ≤ 90
    · rw [if_pos ⟨h1, h2⟩]
      go_enter Tryd.func95, Tryd.ntmps95
      go_wp2
      go_ret
      exact ⟨by first | rfl | (congr 2; omega), rfl⟩
    · rw [if_neg (by omega)]
      go_enter Tryd.func95, Tryd.ntmps95
      go_wp2
      go_ret
      exact ⟨rfl, rfl⟩
  · rw [if_neg (by omega)]
    go_enter Tryd.func95, Tryd.ntmps95
    go_wp2
    go_ret
    exact ⟨rfl, rfl⟩

def gapI (r : Int) : Bool := r == 32 || r == 9
theorem isInner_any (r : Int) (w : World) (hlo : -2147483648 ≤ r) (hhi : r ≤ 2147483647) (hT : Tabs w) :
    Calls Tryd.prog 88 #[.int .i32 r] w fun e w' => e = .returned (.bool (innerR r)) ∧ Below w.heap.size w w' := by
  have c := digit_c r w hlo hhi hT
  clear hT
  unfold innerR
  cases hd : isDigitU r <;> rw [hd] at c
  · by_cases h1 : r = 95
    · subst h1
      go_enter Tryd.func88, Tryd.ntmps88
      go_wp2_with (go_at_call 83; refine c.mono ?_; rintro e w1 ⟨rfl, hb1⟩)
      go_ret
      exact ⟨rfl, hb1⟩
    · have e1 : (r == 95) = false := beq_eq_false_iff_ne.2 h1
      by_cases h2 : r = 45
      · subst h2
        go_enter Tryd.func88, Tryd.ntmps88
        go_wp2_with (go_at_call 83; refine c.mono ?_; rintro e w1 ⟨rfl, hb1⟩)
        go_ret
        exact ⟨rfl, hb1⟩
      · have e2 : (r == 45) = false := beq_eq_false_iff_ne.2 h2
        go_enter Tryd.func88, Tryd.ntmps88
        go_wp2_with (go_at_call 83; refine c.mono ?_; rintro e w1 ⟨rfl, hb1⟩)
        go_ret
        exact ⟨by first | rfl | (rw [e1, e2]; rfl), hb1⟩
  · go_enter Tryd.func88, Tryd.ntmps88
    go_wp2_with (go_at_call 83; refine c.mono ?_; rintro e w1 ⟨rfl, hb1⟩)
    go_ret
    exact ⟨rfl, hb1⟩

theorem iter_below (w : World) (s : ByteArray) (p : Nat) : Below w.heap.size w (w.iter s p) := (Below.refl _ _).alloc (Nat.le_refl _) _
theorem drop_ne {s : ByteArray} {pos : Nat} (h : pos < s.size) : (lst s).drop pos ≠ [] := by
  intro e
  have := congrArg List.length e
  rw [List.length_drop] at this
  have h2 : (lst s).length = s.size := rfl
  simp only [List.length_nil] at this
  omega
theorem drop_end {s : ByteArray} {pos : Nat} (h : ¬ pos < s.size) : (lst s).drop pos = [] := List.drop_eq_nil_of_le (Nat.not_lt.1 h)
theorem dec_at {s : ByteArray} {pos : Nat} (h : pos < s.size) : dec ((lst s).drop pos) = Utf8.decode s pos :: dec ((lst s).drop (pos + (Utf8.decode s pos).2)) := by
  rw [dec_step _ (drop_ne h), decodeL_drop, List.drop_drop]
theorem dec_width {s : ByteArray} {pos : Nat} (h : pos < s.size) : 1 ≤ (Utf8.decode s pos).2 ∧ pos + (Utf8.decode s pos).2 ≤ s.size := by
  have h1 := decodeL_width ((lst s).drop pos)
  have h2 := decodeL_le _ (drop_ne h)
  rw [decodeL_drop] at h1 h2
  rw [List.length_drop] at h2
  have h3 : (lst s).length = s.size := rfl
  omega

/-! Same (the program's and the document's), SameAll, hasControl. -/
open Go.RowKit Go.Shelf Go.Lib
set_option linter.unusedVariables false

def lowL (l : List UInt8) : List Nat := l.map (fun c => lowN c.toNat)
def sameS (a b : List UInt8) : Bool := lowL a == lowL b
theorem byte_at (s : ByteArray) (k : Nat) (h : k < s.size) : (lst s)[k]? = some s[k] := by
  rw [List.getElem?_eq_getElem (by simpa using h)]; rfl
theorem take_byte (s : ByteArray) (k : Nat) (h : k < s.size) : (lst s).take (k + 1) = (lst s).take k ++ [s[k]] := by
  rw [List.take_add_one, byte_at s k h]; rfl
theorem sameS_len {a b : ByteArray} (h : a.size ≠ b.size) : sameS (lst a) (lst b) = false := by
  rw [sameS, beq_eq_false_iff_ne]
  intro e
  have := congrArg List.length e
  simp [lowL] at this
  exact h this
theorem sameS_no {a b : ByteArray} {k : Nat} (ha : k < a.size) (hb : k < b.size) (h : lowN a[k].toNat ≠ lowN b[k].toNat) : sameS (lst a) (lst b) = false := by
  rw [sameS, beq_eq_false_iff_ne]
  intro e
  have := congrArg (fun l => l[k]?) e
  simp only [lowL, List.getElem?_map, byte_at a k ha, byte_at b k hb, Option.map_some, Option.some.injEq] at this
  exact h this
theorem low_take {a b : ByteArray} {k : Nat} (ha : k < a.size) (hb : k < b.size) (h : lowN a[k].toNat = lowN b[k].toNat) (hi : lowL ((lst a).take k) = lowL ((lst b).take k)) : lowL ((lst a).take (k + 1)) = lowL ((lst b).take (k + 1)) := by
  rw [take_byte a k ha, take_byte b k hb]
  simp only [lowL, List.map_append, List.map_cons, List.map_nil] at hi ⊢
  rw [hi, h]
theorem sameS_yes {a b : ByteArray} {k : Nat} (h : a.size = b.size) (hk : ¬ k < a.size) (hi : lowL ((lst a).take k) = lowL ((lst b).take k)) : sameS (lst a) (lst b) = true := by
  rw [List.take_of_length_le (show (lst a).length ≤ k from Nat.not_lt.1 hk), List.take_of_length_le (show (lst b).length ≤ k from by rw [lst_len, ← h]; exact Nat.not_lt.1 hk)] at hi
  rw [sameS, hi]; simp

set_option maxHeartbeats 1600000 in
theorem same_any (a b : ByteArray) (w : World) (ha : a.size ≤ 9000000000000000000) (hb : b.size ≤ 9000000000000000000) :
    Calls Tryd.prog 87 #[.string a, .string b] w fun e w' => e = .returned (.bool (sameS (lst a) (lst b))) ∧ Below w.heap.size w w' := by
  by_cases hl : a.size = b.size
  · have hz : ((a.size : Int) != (b.size : Int)) = false := by rw [hl]; simp
    have HL := Lib.hid hl; clear hl
    go_enter Tryd.func87, Tryd.ntmps87
    go_wp2
    go_loopw [5, 13] (fun x i w' => ∃ k : Nat, k ≤ a.size ∧ i = .int .i64 k ∧ Below w.heap.size w w' ∧ Hid (lowL ((lst a).take k) = lowL ((lst b).take k))) (fun _ i _ => a.size - (intOf i).toNat)
    case atStart => exact ⟨0, Nat.zero_le _, rfl, Below.refl _ _, Lib.hid rfl⟩
    case round =>
      obtain ⟨k, hk, rfl, hbw, hi⟩ := hrel
      by_cases hlt : k < a.size
      · have hlb : k < b.size := by have := HL.out; omega
        by_cases he : lowN a[k].toNat = lowN b[k].toNat
        · have HN := Lib.hid (low_take hlt hlb he hi.out)
          have hne : (((lowN a[k].toNat : Nat) : Int) != ((lowN b[k].toNat : Nat) : Int)) = false := by rw [he]; simp
          clear he
          go_wp2_with fail
          go_quiet ((go_at_call 99; exact Calls.quiet_of_same (lower_any _ _ (UInt8.toNat_lt _))))
          go_wp2
          go_roundw
          case rel => exact ⟨k + 1, by omega, by go_num, below_drewNv hbw _, HN⟩
          case measure => simp [intOf]; omega
        · have HN := Lib.hid (sameS_no hlt hlb he)
          have hne : (((lowN a[k].toNat : Nat) : Int) != ((lowN b[k].toNat : Nat) : Int)) = true := by simp; omega
          clear he
          go_wp2_with fail
          go_quiet ((go_at_call 99; exact Calls.quiet_of_same (lower_any _ _ (UInt8.toNat_lt _))))
          go_wp2
          go_ret
          exact ⟨by rw [HN.out]; rfl, below_drewNv hbw _⟩
      · have HN := Lib.hid (sameS_yes HL.out hlt hi.out)
        go_wp2
        go_ret
        exact ⟨by rw [HN.out]; rfl, hbw⟩
  · have hz : ((a.size : Int) != (b.size : Int)) = true := by simp; omega
    have HN := Lib.hid (sameS_len hl); clear hl
    go_enter Tryd.func87, Tryd.ntmps87
    go_wp2
    go_ret
    exact ⟨by rw [HN.out]; rfl, Below.refl _ _⟩

set_option maxHeartbeats 1600000 in
theorem rsame_any (a b : ByteArray) (w : World) (ha : a.size ≤ 9000000000000000000) (hb : b.size ≤ 9000000000000000000) :
    Calls Tryd.prog 84 #[.string a, .string b] w fun e w' => e = .returned (.bool (sameS (lst a) (lst b))) ∧ Below w.heap.size w w' := by
  by_cases hl : a.size = b.size
  · have hz : ((a.size : Int) != (b.size : Int)) = false := by rw [hl]; simp
    have HL := Lib.hid hl; clear hl
    go_enter Tryd.func84, Tryd.ntmps84
    go_wp2
    go_loopw [5] (fun i w' => ∃ k : Nat, k ≤ a.size ∧ i = .int .i64 k ∧ Below w.heap.size w w' ∧ Hid (lowL ((lst a).take k) = lowL ((lst b).take k))) (fun i _ => a.size - (intOf i).toNat)
    case atStart => exact ⟨0, Nat.zero_le _, rfl, Below.refl _ _, Lib.hid rfl⟩
    case round =>
      obtain ⟨k, hk, rfl, hbw, hi⟩ := hrel
      by_cases hlt : k < a.size
      · have hlb : k < b.size := by have := HL.out; omega
        by_cases he : lowN a[k].toNat = lowN b[k].toNat
        · have HN := Lib.hid (low_take hlt hlb he hi.out)
          have hne : (((lowN a[k].toNat : Nat) : Int) != ((lowN b[k].toNat : Nat) : Int)) = false := by rw [he]; simp
          clear he
          go_wp2_with fail
          go_quiet ((go_at_call 95; exact Calls.quiet_of_same (small_any _ _ (UInt8.toNat_lt _))))
          go_wp2
          go_roundw
          case rel => exact ⟨k + 1, by omega, by go_num, below_drewNv hbw _, HN⟩
          case measure => simp [intOf]; omega
        · have HN := Lib.hid (sameS_no hlt hlb he)
          have hne : (((lowN a[k].toNat : Nat) : Int) != ((lowN b[k].toNat : Nat) : Int)) = true := by simp; omega
          clear he
          go_wp2_with fail
          go_quiet ((go_at_call 95; exact Calls.quiet_of_same (small_any _ _ (UInt8.toNat_lt _))))
          go_wp2
          go_ret
          exact ⟨by rw [HN.out]; rfl, below_drewNv hbw _⟩
      · have HN := Lib.hid (sameS_yes HL.out hlt hi.out)
        go_wp2
        go_ret
        exact ⟨by rw [HN.out]; rfl, hbw⟩
  · have hz : ((a.size : Int) != (b.size : Int)) = true := by simp; omega
    have HN := Lib.hid (sameS_len hl); clear hl
    go_enter Tryd.func84, Tryd.ntmps84
    go_wp2
    go_ret
    exact ⟨by rw [HN.out]; rfl, Below.refl _ _⟩


theorem map_some {zs : List ByteArray} {k : Nat} {x : ByteArray} (h : zs[k]? = some x) : zs.take (k + 1) = zs.take k ++ [x] := by
  rw [List.take_add_one, h]; rfl
/-! hasControl, and text.Name. -/
open Go.RowKit Go.Shelf Go.Lib
set_option linter.unusedVariables false

theorem keep_obj {W w1 : World} (hb : Below W.heap.size W w1) {k : Nat} {o : Obj} (h : W.heap[k]? = some o) : w1.heap[k]? = some o :=
  (hb.block k (Array.getElem?_eq_some_iff.1 h).1).trans h
theorem take_step (l : List UInt8) (pos wd : Nat) : l.take (pos + wd) = l.take pos ++ (l.drop pos).take wd := by
  rw [List.take_add]
theorem head_at {s : ByteArray} {pos : Nat} (h : pos < s.size) : ((lst s).drop pos).getD 0 0 = s[pos] := by
  rw [List.getD_eq_getElem?_getD, List.getElem?_drop, Nat.add_zero, byte_at s pos h]; rfl
theorem high_at {s : ByteArray} {pos : Nat} (h : pos < s.size) (ha : 128 ≤ s[pos].toNat) : 128 ≤ (Utf8.decode s pos).1 ∧ ∀ b ∈ ((lst s).drop pos).take (Utf8.decode s pos).2, 128 ≤ b.toNat := by
  have := step_high (drop_ne h) (by rw [head_at h]; exact ha)
  rw [decodeL_drop] at this
  exact this
theorem ctl_high {b : UInt8} (h : 128 ≤ b.toNat) : ctl b = false := by
  unfold ctl
  have h1 : ¬ b.toNat < 32 := by omega
  have h2 : (b == 127) = false := by
    rw [beq_eq_false_iff_ne]; intro e; subst e; exact absurd h (by decide)
  simp [h1, h2]
theorem ctl_of (b : UInt8) : ctl b = ((decide (b.toNat < 32) && !(b.toNat == 9)) || (b.toNat == 127)) := by
  have e : ∀ k : UInt8, (b == k) = (b.toNat == k.toNat) := fun k => by
    by_cases h : b = k
    · subst h; simp
    · rw [beq_eq_false_iff_ne.2 h]
      symm; rw [beq_eq_false_iff_ne]; intro e; exact h (UInt8.toNat_inj.1 e)
  unfold ctl
  rw [bne, e, e]; rfl
theorem ctlL_yes {s : ByteArray} {pos : Nat} (h : pos < s.size) (hc : ctl s[pos] = true) : ctlL (lst s) = true := by
  unfold ctlL
  rw [List.any_eq_true]
  exact ⟨_, List.mem_of_getElem? (byte_at s pos h), hc⟩
theorem ctlL_snoc {s : ByteArray} {pos : Nat} (h : pos < s.size) (hc : ctl s[pos] = false) (hi : ctlL ((lst s).take pos) = false) : ctlL ((lst s).take (pos + 1)) = false := by
  rw [take_byte s pos h]
  unfold ctlL at *
  rw [List.any_append, hi]; simp [hc]
theorem ctlL_high {s : ByteArray} {pos : Nat} (h : pos < s.size) (ha : 128 ≤ s[pos].toNat) (hi : ctlL ((lst s).take pos) = false) : ctlL ((lst s).take (pos + (Utf8.decode s pos).2)) = false := by
  rw [take_step]
  unfold ctlL at *
  rw [List.any_append, hi, Bool.false_or, List.any_eq_false]
  intro b hb
  simp [ctl_high ((high_at h ha).2 b hb)]
theorem ctlL_all {s : ByteArray} {pos : Nat} (h : ¬ pos < s.size) (hi : ctlL ((lst s).take pos) = false) : ctlL (lst s) = false := by
  rwa [List.take_of_length_le (show (lst s).length ≤ pos from Nat.not_lt.1 h)] at hi

set_option maxHeartbeats 3200000 in
theorem name_any (s : ByteArray) (w : World) (hs : s.size ≤ 9000000000000000000) (hT : Tabs w) :
    Calls Tryd.prog 75 #[.string s] w fun e w' => e = .returned (.bool (nameD (lst s))) ∧ Below w.heap.size w w' := by
  have HT := Lib.hid hT; clear hT
  go_enter Tryd.func75, Tryd.ntmps75
  go_wp2
  go_loopw [3] (fun t wr => ∃ pos n : Nat, Hid (wr.heap[w.heap.size]? = some (.stringIter s pos)) ∧ pos ≤ s.size ∧ n ≤ 40 ∧ n ≤ pos ∧ (n = 0 → pos = 0) ∧ t = .int .i64 (n : Int) ∧ Below w.heap.size w wr ∧ Hid (nameD (lst s) = nameR n (dec ((lst s).drop pos)))) (fun _ wr => s.size - wr.iterPos w.heap.size)
  case atStart => exact ⟨0, 0, Lib.hid (World.iter_heap w s 0), by omega, by omega, by omega, fun _ => rfl, rfl, iter_below _ _ _, Lib.hid rfl⟩
  case round =>
    obtain ⟨pos, n, hit, hp, hn, hnp, h0, rfl, hbw, hi⟩ := hrel
    by_cases hlt : pos < s.size
    · have hnx : ∀ ty, (Instr.next (.pointer (some ⟨w.heap.size, 0, none⟩)) true ty).run Tryd.prog wr = _ := fun ty => run_next_any_at wr w.heap.size s pos ty hit.out hlt
      have hd := dec_width hlt
      have hi2 := hi.out
      rw [dec_at hlt, nameR] at hi2
      have HI := Lib.hid hi2; clear hi2
      have hle := decode_le s pos
      have hit2 := Lib.hid (iterAt_heap wr w.heap.size s pos (pos + (Utf8.decode s pos).2) hit.out)
      have hbw2 := below_iterAt hbw (k := w.heap.size) (Nat.le_refl _) s (pos + (Utf8.decode s pos).2)
      have hpos : wr.iterPos w.heap.size = pos := by simp [World.iterPos, hit.out]
      have HP := Lib.hid hpos; clear hpos
      generalize Utf8.decode s pos = dd at hnx hd HI hle hit2 hbw2
      obtain ⟨r, wd⟩ := dd
      simp only at hnx hd HI hle hit2 hbw2
      have cL := letter_c (r : Int) _ (by omega) (by omega) (HT.out.below hbw2)
      have cI : ∀ w1, Below (wr.iterAt w.heap.size s (pos + wd)).heap.size (wr.iterAt w.heap.size s (pos + wd)) w1 → Calls Tryd.prog 88 #[.int .i32 (r : Int)] w1 _ :=
        fun w1 h => isInner_any (r : Int) w1 (by omega) (by omega) ((HT.out.below hbw2).below h)
      have cut : ∀ {w1 : World}, Below (wr.iterAt w.heap.size s (pos + wd)).heap.size (wr.iterAt w.heap.size s (pos + wd)) w1 → Below w.heap.size w w1 := fun h => blw hbw2 h
      cases hl : isLetterU (r : Int) <;> rw [hl] at cL
      · by_cases hz : n = 0
        · obtain rfl := h0 hz
          subst hz
          simp only [Nat.zero_add] at hnx hd HI hit2 hbw2 cL cut
          clear cI hp hn hnp h0 HP
          have HN := Lib.hid (show nameD (lst s) = false from by rw [HI.out]; simp [okAt, hl])
          go_wp2_with (go_at_call 82; refine cL.mono ?_; rintro e w1 ⟨rfl, hb1⟩)
          go_ret
          exact ⟨by rw [HN.out]; rfl, cut hb1⟩
        · have epos : ((pos : Int) == 0) = false := by rw [beq_eq_false_iff_ne]; omega
          cases hin : innerR (r : Int) <;> simp only [hin] at cI
          · have HN := Lib.hid (show nameD (lst s) = false from by rw [HI.out]; simp [okAt, hl, hin])
            go_wp2_with (first | (go_at_call 82; refine cL.mono ?_; rintro e w1 ⟨rfl, hb1⟩) | (go_at_call 88; refine (cI _ hb1).mono ?_; rintro e w2 ⟨rfl, hb2⟩))
            go_ret
            exact ⟨by rw [HN.out]; rfl, blw (cut hb1) hb2⟩
          · by_cases h40 : n + 1 ≤ 40
            · have HN := Lib.hid (show nameD (lst s) = nameR (n + 1) (dec ((lst s).drop (pos + wd))) from by rw [HI.out]; simp [okAt, hl, hin, hz, h40])
              go_wp2_with (first | (go_at_call 82; refine cL.mono ?_; rintro e w1 ⟨rfl, hb1⟩) | (go_at_call 88; refine (cI _ hb1).mono ?_; rintro e w2 ⟨rfl, hb2⟩))
              go_roundw
              case rel => exact ⟨pos + wd, n + 1, Lib.hid (keep_obj hb2 (keep_obj hb1 hit2.out)), by omega, by omega, by omega, by omega, by go_num, blw (cut hb1) hb2, HN⟩
              case measure => rw [HP.out]; simp [World.iterPos, keep_obj hb2 (keep_obj hb1 hit2.out)]; omega
            · have HN := Lib.hid (show nameD (lst s) = false from by rw [HI.out]; simp [h40])
              go_wp2_with (first | (go_at_call 82; refine cL.mono ?_; rintro e w1 ⟨rfl, hb1⟩) | (go_at_call 88; refine (cI _ hb1).mono ?_; rintro e w2 ⟨rfl, hb2⟩))
              go_ret
              exact ⟨by rw [HN.out]; rfl, blw (cut hb1) hb2⟩
      · by_cases h40 : n + 1 ≤ 40
        · have HN := Lib.hid (show nameD (lst s) = nameR (n + 1) (dec ((lst s).drop (pos + wd))) from by rw [HI.out]; simp [okAt, hl, h40])
          go_wp2_with (go_at_call 82; refine cL.mono ?_; rintro e w1 ⟨rfl, hb1⟩)
          go_roundw
          case rel => exact ⟨pos + wd, n + 1, Lib.hid (keep_obj hb1 hit2.out), by omega, by omega, by omega, by omega, by go_num, cut hb1, HN⟩
          case measure => rw [HP.out]; simp [World.iterPos, keep_obj hb1 hit2.out]; omega
        · have HN := Lib.hid (show nameD (lst s) = false from by rw [HI.out]; simp [h40])
          go_wp2_with (go_at_call 82; refine cL.mono ?_; rintro e w1 ⟨rfl, hb1⟩)
          go_ret
          exact ⟨by rw [HN.out]; rfl, cut hb1⟩
    · have hnx : ∀ ty, (Instr.next (.pointer (some ⟨w.heap.size, 0, none⟩)) true ty).run Tryd.prog wr = _ := fun ty => run_next_end_at wr w.heap.size s pos ty hit.out hlt
      have hi2 := hi.out
      rw [drop_end hlt, dec_nil, nameR] at hi2
      have HI := Lib.hid hi2; clear hi2
      by_cases hz : n = 0
      · subst hz
        go_wp2
        go_ret
        exact ⟨by rw [HI.out]; rfl, hbw⟩
      · have hpz : (0 : Int) < (n : Int) := by omega
        go_wp2
        go_ret
        exact ⟨by rw [HI.out]; simp [hz]; omega, hbw⟩

end Go.Proofs.YtgejonmjmieglaaDoor.Txt

