/- Layer Clk over, for a seat that needs several layers: ClkNum, ClkTxt, ClkTwo, ClkMem, ClkStr, ClkRead, ClkText, ClkRtext. -/
import Derived.Test.YtapojmniokdjfaaProg
import Derived.WalkKit
import Derived.ProofKit
import Derived.Outline
import Derived.Lib.Hide
import Derived.OpenShut
import Derived.WalkLawsBesides
import Derived.WalkSpells
import Derived.Laws.RangeAny
import Derived.Deep.OwnRows
import Derived.Laws.BytesArg
import Derived.OwnWalk
import Derived.RegionTactic
import Derived.Deep.RegionWith
import Derived.Laws.Concat
namespace Go.Proofs.Ytapojmniokdjfaa.Clk
set_option maxRecDepth 100000
/-! Plain numbers of layer 1 (clock): what a sum, a difference, a product and a clipped sum of times come to. No Go text here. -/
def isT (t : Int) : Bool := decide (0 ≤ t) && decide (t ≤ 1099511627775)

theorem isT_yes {t : Int} (h0 : 0 ≤ t) (h1 : t ≤ 1099511627775) : isT t = true := by simp [isT, h0, h1]
theorem isT_bd {t : Int} (h : isT t = true) : 0 ≤ t ∧ t ≤ 1099511627775 := by simpa [isT] using h
theorem isT_low {t : Int} (h : t < 0) : isT t = false := by simp [isT]; omega
theorem isT_high {t : Int} (h : 1099511627775 < t) : isT t = false := by simp [isT]; omega
theorem isT_no {t : Int} (h : isT t = false) : t < 0 ∨ 1099511627775 < t := by
  simp [isT] at h
  rcases Int.lt_or_le t 0 with a | a
  · exact Or.inl a
  · exact Or.inr (h a)

def subV (t u : Int) : Int := if isT t = true ∧ isT u = true ∧ u ≤ t then t - u else 0
def subE (t u : Int) : Int := if isT t = true ∧ isT u = true then (if u ≤ t then 0 else 6) else 2
def mulV (t n : Int) : Int := if isT t = true ∧ 0 ≤ n ∧ t * n ≤ 1099511627775 then t * n else 0
def mulE (t n : Int) : Int := if isT t = true ∧ 0 ≤ n then (if t * n ≤ 1099511627775 then 0 else 6) else 2

theorem sub_arg1 {t u : Int} (h : isT t = false) : subV t u = 0 ∧ subE t u = 2 := by simp [subV, subE, h]
theorem sub_arg2 {t u : Int} (h : isT u = false) : subV t u = 0 ∧ subE t u = 2 := by simp [subV, subE, h]
theorem sub_over {t u : Int} (h1 : isT t = true) (h2 : isT u = true) (h : t < u) : subV t u = 0 ∧ subE t u = 6 := by
  have : ¬ u ≤ t := by omega
  simp [subV, subE, h1, h2, this]
theorem sub_yes {t u : Int} (h1 : isT t = true) (h2 : isT u = true) (h : u ≤ t) : subV t u = t - u ∧ subE t u = 0 := by simp [subV, subE, h1, h2, h]
theorem mul_arg1 {t n : Int} (h : isT t = false) : mulV t n = 0 ∧ mulE t n = 2 := by simp [mulV, mulE, h]
theorem mul_arg2 {t n : Int} (h : n < 0) : mulV t n = 0 ∧ mulE t n = 2 := by
  have : ¬ 0 ≤ n := by omega
  simp [mulV, mulE, this]
theorem mul_over {t n : Int} (h1 : isT t = true) (h2 : 0 ≤ n) (h : 1099511627775 < t * n) : mulV t n = 0 ∧ mulE t n = 6 := by
  have : ¬ t * n ≤ 1099511627775 := by omega
  simp [mulV, mulE, h1, h2, this]
theorem mul_yes {t n : Int} (h1 : isT t = true) (h2 : 0 ≤ n) (h : t * n ≤ 1099511627775) : mulV t n = t * n ∧ mulE t n = 0 := by simp [mulV, mulE, h1, h2, h]
/-- n is more than so often into the greatest time: just if the product is too great -/
theorem quo_over {t n : Int} (h : 0 < t) : 1099511627775 / t < n ↔ 1099511627775 < t * n := by
  rw [Int.ediv_lt_iff_lt_mul h, Int.mul_comm n t]

theorem prod_over1 {t n : Int} (h : 1 ≤ t) (hn : 1099511627775 < n) : 1099511627775 < t * n := by
  have : 1 * n ≤ t * n := Int.mul_le_mul_of_nonneg_right h (by omega)
  omega
theorem part_bd (t n : Int) (h0 : 0 ≤ t) (h1 : t ≤ 1099511627775) : 0 ≤ t * (n % 1048576) ∧ t * (n % 1048576) ≤ 1152921504606846976 := by
  have a : 0 ≤ n % 1048576 := Int.emod_nonneg _ (by omega)
  have b : n % 1048576 ≤ 1048576 := by omega
  refine ⟨Int.mul_nonneg h0 a, ?_⟩
  have : t * (n % 1048576) ≤ 1099511627775 * 1048576 := Int.mul_le_mul h1 b a (by omega)
  omega
theorem prod_over2 {t n : Int} (h : 0 ≤ t) (hn : 0 ≤ n) (ho : 1099511627775 < t * (n % 1048576)) : 1099511627775 < t * n := by
  have : t * (n % 1048576) ≤ t * n := Int.mul_le_mul_of_nonneg_left (by omega) h
  omega
theorem prod_small {t n : Int} (h0 : 0 ≤ n) (h1 : n < 1048576) (ho : ¬ 1099511627775 < t * (n % 1048576)) : t * n ≤ 1099511627775 := by
  rw [Int.emod_eq_of_lt h0 h1] at ho
  omega

def one (t : Int) : Int := if t < 0 then 0 else if 1099511627775 < t then 1099511627775 else t
theorem one_bd (t : Int) : 0 ≤ one t ∧ one t ≤ 1099511627775 := by unfold one; split <;> (try split) <;> omega

/-- the sum so far and what is left: the clipped sum, term by term -/
def clipL (s : Int) : List Int → Int
  | [] => s
  | x :: r => clipL (one (s + one x)) r
def clipA (l : List Int) : Int := clipL 0 l

theorem clipL_snoc (l : List Int) : ∀ (s x : Int), clipL s (l ++ [x]) = one (clipL s l + one x) := by
  induction l with
  | nil => intro s x; rfl
  | cons y r ih => intro s x; exact ih _ x
theorem clipL_bd (l : List Int) : ∀ s : Int, 0 ≤ s → s ≤ 1099511627775 → 0 ≤ clipL s l ∧ clipL s l ≤ 1099511627775 := by
  induction l with
  | nil => intro s h0 h1; exact ⟨h0, h1⟩
  | cons y r ih => intro s _ _; exact ih _ (one_bd _).1 (one_bd _).2
theorem clipL_full (l : List Int) : clipL 1099511627775 l = 1099511627775 := by
  induction l with
  | nil => rfl
  | cons y r ih =>
    have : one (1099511627775 + one y) = 1099511627775 := by unfold one; split <;> (try split) <;> (try split) <;> (try split) <;> omega
    show clipL (one (1099511627775 + one y)) r = _
    rw [this]; exact ih
theorem clipA_cons (t : Int) (l : List Int) : clipA (t :: l) = clipL (one t) l := by
  show clipL (one (0 + one t)) l = _
  have : one (0 + one t) = one t := by unfold one; split <;> (try split) <;> (try split) <;> omega
  rw [this]

theorem clipL_append (l : List Int) : ∀ (s : Int) (r : List Int), clipL s (l ++ r) = clipL (clipL s l) r := by
  induction l with
  | nil => intro s r; rfl
  | cons y t ih => intro s r; exact ih _ r
theorem one_low {s x : Int} (h0 : 0 ≤ s) (h1 : s ≤ 1099511627775) (hx : x ≤ 0) : one (s + one x) = s := by
  unfold one; split <;> (try split) <;> (try split) <;> (try split) <;> omega
theorem one_full {s x : Int} (h0 : 0 ≤ s) (hx : 1099511627775 - s ≤ x) (h1 : s ≤ 1099511627775) : one (s + one x) = 1099511627775 := by
  unfold one; split <;> (try split) <;> (try split) <;> (try split) <;> omega
theorem one_mid {s x : Int} (h0 : 0 ≤ s) (h1 : 0 < x) (hx : x < 1099511627775 - s) : one (s + one x) = s + x := by
  unfold one; split <;> (try split) <;> (try split) <;> (try split) <;> omega
theorem clipL_break {l : List Int} {k : Nat} {s : Int} (h : clipL s (l.take k) = 1099511627775) : clipL s l = 1099511627775 := by
  rw [← List.take_append_drop k l, clipL_append, h, clipL_full]

def allT (l : List Int) : Bool := l.all isT
def sumL : List Int → Int
  | [] => 0
  | x :: r => x + sumL r
theorem sumL_snoc (l : List Int) (x : Int) : sumL (l ++ [x]) = sumL l + x := by
  induction l with
  | nil => simp [sumL]
  | cons y r ih => simp only [List.cons_append, sumL, ih]; omega
theorem sumL_append (l r : List Int) : sumL (l ++ r) = sumL l + sumL r := by
  induction l with
  | nil => simp [sumL]
  | cons y t ih => simp only [List.cons_append, sumL, ih]; omega
theorem sumL_nonneg (l : List Int) (h : allT l = true) : 0 ≤ sumL l := by
  induction l with
  | nil => exact Int.le_refl _
  | cons y r ih =>
    simp only [allT, List.all_cons, Bool.and_eq_true] at h
    have := ih h.2
    have := isT_bd h.1
    simp only [sumL]; omega
theorem allT_take (l : List Int) (k : Nat) (h : allT l = true) : allT (l.take k) = true := by
  simp only [allT, List.all_eq_true] at h ⊢
  exact fun x hx => h x (List.mem_of_mem_take hx)
theorem allT_drop (l : List Int) (k : Nat) (h : allT l = true) : allT (l.drop k) = true := by
  simp only [allT, List.all_eq_true] at h ⊢
  exact fun x hx => h x (List.mem_of_mem_drop hx)
theorem sumL_take_le (l : List Int) (k : Nat) (h : allT l = true) : sumL (l.take k) ≤ sumL l := by
  have e : sumL l = sumL (l.take k) + sumL (l.drop k) := by rw [← sumL_append, List.take_append_drop]
  have := sumL_nonneg _ (allT_drop l k h)
  omega

def addE (l : List Int) : Int := if allT l = true then (if sumL l ≤ 1099511627775 then 0 else 6) else 2
def addV (l : List Int) : Int := if allT l = true ∧ sumL l ≤ 1099511627775 then sumL l else 0

/-! Plain texts of numbers: decimal digits, the number of a text, and that each is the other's. No Go text here. -/
def dig (n : Nat) : UInt8 := UInt8.ofNat (48 + n % 10)
theorem dig_toNat (n : Nat) : (dig n).toNat = 48 + n % 10 := by
  unfold dig; rw [UInt8.toNat_ofNat']; omega

/-- the digits, the last one first; f: how many steps at most -/
def rtxF : Nat → Nat → List UInt8
  | 0, n => [dig n]
  | f + 1, n => if n < 10 then [dig n] else dig n :: rtxF f (n / 10)
def rtx (n : Nat) : List UInt8 := rtxF n n

def txt (n : Nat) : List UInt8 := (rtx n).reverse

theorem rtxF_any (f : Nat) : ∀ g n : Nat, n ≤ f → n ≤ g → rtxF f n = rtxF g n := by
  induction f with
  | zero =>
    intro g n hf _
    obtain rfl : n = 0 := by omega
    cases g with
    | zero => rfl
    | succ g => rfl
  | succ f ih =>
    intro g n hf hg
    cases g with
    | zero =>
      obtain rfl : n = 0 := by omega
      rfl
    | succ g =>
      show (if n < 10 then [dig n] else dig n :: rtxF f (n / 10)) = (if n < 10 then [dig n] else dig n :: rtxF g (n / 10))
      by_cases h : n < 10
      · rw [if_pos h, if_pos h]
      · rw [if_neg h, if_neg h, ih g (n / 10) (by omega) (by omega)]
theorem rtx_small {n : Nat} (h : n < 10) : rtx n = [dig n] := by
  unfold rtx
  cases n with
  | zero => rfl
  | succ k =>
    show (if k + 1 < 10 then [dig (k + 1)] else dig (k + 1) :: rtxF k ((k + 1) / 10)) = _
    rw [if_pos h]
theorem rtx_more {n : Nat} (h : ¬ n < 10) : rtx n = dig n :: rtx (n / 10) := by
  unfold rtx
  cases n with
  | zero => exact absurd (by omega) h
  | succ k =>
    show (if k + 1 < 10 then [dig (k + 1)] else dig (k + 1) :: rtxF k ((k + 1) / 10)) = _
    rw [if_neg h, rtxF_any k ((k + 1) / 10) ((k + 1) / 10) (by omega) (by omega)]
theorem txt_small {n : Nat} (h : n < 10) : txt n = [dig n] := by rw [txt, rtx_small h]; rfl
theorem txt_more {n : Nat} (h : ¬ n < 10) : txt n = txt (n / 10) ++ [dig n] := by rw [txt, rtx_more h, List.reverse_cons]; rfl

theorem rtx_pos (n : Nat) : 1 ≤ (rtx n).length := by
  by_cases h : n < 10
  · rw [rtx_small h]; simp
  · rw [rtx_more h]; simp
theorem txt_len (n : Nat) : (txt n).length = (rtx n).length := by simp [txt]

theorem rtx_get (k : Nat) : ∀ n : Nat, k < (rtx n).length → (rtx n)[k]? = some (dig (n / 10 ^ k)) := by
  induction k with
  | zero =>
    intro n _
    by_cases h : n < 10
    · rw [rtx_small h]; simp
    · rw [rtx_more h]; simp
  | succ k ih =>
    intro n hk
    by_cases h : n < 10
    · rw [rtx_small h] at hk; simp at hk
    · rw [rtx_more h] at hk ⊢
      simp at hk
      rw [List.getElem?_cons_succ, ih _ hk, Nat.div_div_eq_div_mul, Nat.pow_succ, Nat.mul_comm 10]
theorem txt_get {n k : Nat} (hk : k < (txt n).length) : (txt n)[(txt n).length - 1 - k]? = some (dig (n / 10 ^ k)) := by
  rw [txt_len] at hk
  rw [txt_len]
  have h2 : (rtx n).length - 1 - k < (rtx n).length := by omega
  rw [txt, List.getElem?_reverse h2]
  rw [show (rtx n).length - 1 - ((rtx n).length - 1 - k) = k from by omega]
  exact rtx_get k n hk

/-- no time has more than 13 digits -/
theorem rtx_bound (f : Nat) : ∀ n : Nat, n < 10 ^ (f + 1) → (rtx n).length ≤ f + 1 := by
  induction f with
  | zero => intro n h; rw [rtx_small (by simpa using h)]; simp
  | succ f ih =>
    intro n h
    by_cases hs : n < 10
    · rw [rtx_small hs]; simp
    · rw [rtx_more hs]
      have : n / 10 < 10 ^ (f + 1) := by
        rw [Nat.div_lt_iff_lt_mul (by omega)]
        rwa [Nat.pow_succ] at h
      have := ih _ this
      simp; omega
theorem txt_bound {n : Nat} (h : n ≤ 1099511627775) : (txt n).length ≤ 13 := by
  rw [txt_len]; exact rtx_bound 12 n (by omega)

theorem head_app {l r : List UInt8} (h : l ≠ []) : (l ++ r).head? = l.head? := by
  cases l with
  | nil => exact absurd rfl h
  | cons a t => rfl

/-- the number of a text of digits -/
def valA (a : Nat) : List UInt8 → Nat
  | [] => a
  | c :: r => valA (10 * a + (c.toNat - 48)) r
def val (l : List UInt8) : Nat := valA 0 l
theorem valA_snoc (l : List UInt8) : ∀ (a : Nat) (c : UInt8), valA a (l ++ [c]) = 10 * valA a l + (c.toNat - 48) := by
  induction l with
  | nil => intro a c; rfl
  | cons d r ih => intro a c; exact ih _ c
theorem val_snoc (l : List UInt8) (c : UInt8) : val (l ++ [c]) = 10 * val l + (c.toNat - 48) := valA_snoc l 0 c
theorem valA_ge (l : List UInt8) : ∀ a : Nat, a ≤ valA a l := by
  induction l with
  | nil => intro a; exact Nat.le_refl _
  | cons d r ih => intro a; exact Nat.le_trans (by omega) (ih _)
theorem valA_append (l r : List UInt8) : ∀ a : Nat, valA a (l ++ r) = valA (valA a l) r := by
  induction l with
  | nil => intro a; rfl
  | cons d t ih => intro a; exact ih _
theorem val_take_le (l : List UInt8) (k : Nat) : val (l.take k) ≤ val l := by
  have e : val l = valA (val (l.take k)) (l.drop k) := by
    rw [val, val, ← valA_append, List.take_append_drop]
  rw [e]; exact valA_ge _ _

def isDig (c : UInt8) : Bool := decide (48 ≤ c.toNat) && decide (c.toNat ≤ 57)
def numB (l : List UInt8) : Bool := l.all isDig && (l == [48] || (l != [] && l.head? != some 48))

theorem isDig_bd {c : UInt8} (h : isDig c = true) : 48 ≤ c.toNat ∧ c.toNat ≤ 57 := by simpa [isDig] using h
theorem isDig_dig (n : Nat) : isDig (dig n) = true := by
  simp only [isDig, dig_toNat, Bool.and_eq_true, decide_eq_true_eq]; omega
theorem dig_of {c : UInt8} (h : isDig c = true) (m : Nat) : dig (10 * m + (c.toNat - 48)) = c := by
  have b := isDig_bd h
  apply UInt8.toNat_inj.1
  rw [dig_toNat]; omega

theorem rtx_val (n : Nat) : val (rtx n).reverse = n := by
  induction n using Nat.strongRecOn with
  | _ n ih =>
    by_cases h : n < 10
    · rw [rtx_small h]
      show 10 * 0 + ((dig n).toNat - 48) = n
      rw [dig_toNat]; omega
    · rw [rtx_more h, List.reverse_cons, val_snoc, ih (n / 10) (by omega), dig_toNat]; omega
theorem txt_val (n : Nat) : val (txt n) = n := rtx_val n
theorem txt_digs (n : Nat) : (txt n).all isDig = true := by
  rw [txt, List.all_reverse]
  induction n using Nat.strongRecOn with
  | _ n ih =>
    by_cases h : n < 10
    · rw [rtx_small h]; simp [isDig_dig]
    · rw [rtx_more h, List.all_cons, isDig_dig, ih (n / 10) (by omega)]; rfl
theorem txt_ne (n : Nat) : txt n ≠ [] := by
  intro h
  have := rtx_pos n
  rw [← txt_len, h] at this; simp at this
theorem txt_head (n : Nat) (hn : n ≠ 0) : (txt n).head? ≠ some 48 := by
  induction n using Nat.strongRecOn with
  | _ n ih =>
    by_cases h : n < 10
    · rw [txt_small h]
      intro e
      have e2 : dig n = 48 := by simpa using e
      have := dig_toNat n
      rw [e2] at this
      have h48 : (48 : UInt8).toNat = 48 := rfl
      omega
    · rw [txt_more h, head_app (txt_ne _)]
      exact ih (n / 10) (by omega) (by omega)
theorem txt_numB (n : Nat) : numB (txt n) = true := by
  unfold numB
  rw [txt_digs]
  by_cases h : n = 0
  · subst h; rw [txt_small (by omega)]; rfl
  · have h1 := txt_ne n
    have h2 := txt_head n h
    simp [h1, h2]

theorem all_snoc (l : List UInt8) (c : UInt8) : (l ++ [c]).all isDig = (l.all isDig && isDig c) := by simp

/-- a text of digits, its first one not 0, is its number's -/
theorem txt_of_val (m : Nat) : ∀ l : List UInt8, l.length = m → l ≠ [] → l.all isDig = true → l.head? ≠ some 48 → 1 ≤ val l ∧ txt (val l) = l := by
  induction m with
  | zero => intro l hl hne; exact absurd (List.eq_nil_of_length_eq_zero hl) hne
  | succ m ih =>
    intro l hl hne hall hh
    rcases List.eq_nil_or_concat l with e | ⟨r, c, e⟩
    · exact absurd e hne
    · rw [List.concat_eq_append] at e
      subst e
      rw [all_snoc, Bool.and_eq_true] at hall
      have bc := isDig_bd hall.2
      by_cases hr : r = []
      · subst hr
        have hc : c ≠ 48 := fun e => hh (by rw [e]; rfl)
        have hc2 : c.toNat ≠ 48 := fun e => hc (UInt8.toNat_inj.1 (by rw [e]; rfl))
        have hv : val ([] ++ [c]) = c.toNat - 48 := by rw [val_snoc]; show 10 * 0 + _ = _; omega
        rw [hv]
        refine ⟨by omega, ?_⟩
        rw [txt_small (by omega)]
        have := dig_of hall.2 0
        rw [show 10 * 0 + (c.toNat - 48) = c.toNat - 48 from by omega] at this
        rw [this]; rfl
      · have hl2 : r.length = m := by simpa using hl
        rw [head_app hr] at hh
        obtain ⟨h1, h2⟩ := ih r hl2 hr hall.1 hh
        rw [val_snoc]
        refine ⟨by omega, ?_⟩
        rw [txt_more (by omega), dig_of hall.2, show (10 * val r + (c.toNat - 48)) / 10 = val r from by omega, h2]
theorem txt_back {l : List UInt8} (h : numB l = true) : txt (val l) = l := by
  simp only [numB, Bool.and_eq_true, Bool.or_eq_true, beq_iff_eq, bne_iff_ne] at h
  obtain ⟨h1, h2 | h2⟩ := h
  · subst h2; show txt 0 = [48]; rw [txt_small (by omega)]; rfl
  · exact (txt_of_val _ l rfl h2.1 h1 h2.2).2

theorem numB_bad {l : List UInt8} {k : Nat} {c : UInt8} (h : l[k]? = some c) (hc : isDig c = false) : numB l = false := by
  have : l.all isDig = false := by
    cases e : l.all isDig
    · rfl
    · rw [List.all_eq_true] at e
      have := e c (List.mem_of_getElem? h)
      rw [this] at hc; cases hc
  simp [numB, this]
theorem numB_nil : numB [] = false := rfl
theorem numB_one {l : List UInt8} (h : l = [48]) : numB l = true := by subst h; rfl
theorem numB_lead {l : List UInt8} (hn : l ≠ [48]) (hh : l.head? = some 48) : numB l = false := by
  simp [numB, hn, hh]
theorem numB_yes {l : List UInt8} (h : l.all isDig = true) (hne : l ≠ []) (hh : l.head? ≠ some 48) : numB l = true := by
  simp [numB, h, hne, hh]
theorem numB_digs {l : List UInt8} (h : numB l = true) : l.all isDig = true := by
  simp only [numB, Bool.and_eq_true] at h; exact h.1
theorem isDig_low {c : UInt8} (h : c.toNat < 48) : isDig c = false := by simp [isDig]; omega
theorem isDig_high {c : UInt8} (h : 57 < c.toNat) : isDig c = false := by simp [isDig]; omega
theorem isDig_mid {c : UInt8} (h : 48 ≤ c.toNat) (h2 : c.toNat ≤ 57) : isDig c = true := by simp [isDig, h, h2]

theorem val_lt (m : Nat) : ∀ l : List UInt8, l.length = m → l.all isDig = true → val l < 10 ^ m := by
  induction m with
  | zero => intro l hl _; rw [List.eq_nil_of_length_eq_zero hl]; decide
  | succ m ih =>
    intro l hl hall
    rcases List.eq_nil_or_concat l with e | ⟨r, c, e⟩
    · rw [e] at hl; simp at hl
    · rw [List.concat_eq_append] at e
      subst e
      rw [all_snoc, Bool.and_eq_true] at hall
      have bc := isDig_bd hall.2
      have := ih r (by simpa using hl) hall.1
      rw [val_snoc, Nat.pow_succ]; omega
theorem val_lt13 {l : List UInt8} (hall : l.all isDig = true) (h : l.length ≤ 13) : val l < 10000000000000 := by
  have a := val_lt _ l rfl hall
  have b : 10 ^ l.length ≤ 10 ^ 13 := Nat.pow_le_pow_right (by omega) h
  omega
theorem val_long {l : List UInt8} (h : numB l = true) (hl : 13 < l.length) : 1099511627775 < val l := by
  rcases Nat.lt_or_ge 1099511627775 (val l) with g | g
  · exact g
  · have := txt_bound g
    rw [txt_back h] at this; omega

def readE (l : List UInt8) : Int := if numB l = true then (if val l ≤ 1099511627775 then 0 else 6) else 5
def readV (l : List UInt8) : Int := if numB l = true ∧ val l ≤ 1099511627775 then (val l : Int) else 0

theorem read_form {l : List UInt8} (h : numB l = false) : readV l = 0 ∧ readE l = 5 := by simp [readV, readE, h]
theorem read_over {l : List UInt8} (h : numB l = true) (ho : 1099511627775 < val l) : readV l = 0 ∧ readE l = 6 := by
  have : ¬ val l ≤ 1099511627775 := by omega
  simp [readV, readE, h, this]
theorem read_yes {l : List UInt8} (h : numB l = true) (ho : val l ≤ 1099511627775) : readV l = (val l : Int) ∧ readE l = 0 := by simp [readV, readE, h, ho]

/-- digits laid from the end on: the last k of n places hold the last k digits of m -/
def Filled (m n k : Nat) (l : List Int) : Prop := l.length = n ∧ ∀ j, j < k → l[n - 1 - j]? = some ((dig (m / 10 ^ j)).toNat : Int)
theorem Filled.next {m n k : Nat} {l : List Int} (h : Filled m n k l) (hk : k < n) : Filled m n (k + 1) (l.set (n - 1 - k) ((dig (m / 10 ^ k)).toNat : Int)) := by
  refine ⟨by simpa using h.1, fun j hj => ?_⟩
  by_cases e : j = k
  · subst e
    rw [List.getElem?_set_self (by rw [h.1]; omega)]
  · rw [List.getElem?_set_ne (by omega)]
    exact h.2 j (by omega)
theorem Filled.whole {m : Nat} {l : List Int} (h : Filled m (txt m).length (txt m).length l) : l = (txt m).map fun c => (c.toNat : Int) := by
  apply List.ext_getElem?
  intro i
  by_cases hi : i < (txt m).length
  · have a := h.2 ((txt m).length - 1 - i) (by omega)
    have b := txt_get (n := m) (k := (txt m).length - 1 - i) (by omega)
    rw [show (txt m).length - 1 - ((txt m).length - 1 - i) = i from by omega] at a b
    rw [a, List.getElem?_map, b]; rfl
  · rw [List.getElem?_eq_none (by rw [h.1]; omega), List.getElem?_eq_none (by simp; omega)]

/-! The calls of clock, and of the document's own answer, that take numbers alone: Is, Sub, Mul, one. -/
open Go.RowKit
set_option linter.unusedVariables false

theorem is_any (t : Int) (w : World) : Calls Try.prog 31 #[.int .i64 t] w fun e w' => e = .returned (.bool (isT t)) ∧ w = w' := by
  by_cases h0 : 0 ≤ t
  · by_cases h1 : t ≤ 1099511627775
    · rw [isT_yes h0 h1]
      go_enter Try.func31, Try.ntmps31
      go_wp2
      go_ret
      exact ⟨rfl, rfl⟩
    · rw [isT_high (t := t) (by omega)]
      go_enter Try.func31, Try.ntmps31
      go_wp2
      go_ret
      exact ⟨rfl, rfl⟩
  · rw [isT_low (t := t) (by omega)]
    go_enter Try.func31, Try.ntmps31
    go_wp2
    go_ret
    exact ⟨rfl, rfl⟩

/-! A slice of int that holds a list of numbers, element by element (nil and empty ones among them), and what keeps it so. -/
open Go.RowKit
set_option linter.unusedVariables false

def Ints (w : World) (A : Option Addr) (zs : List Int) : Prop :=
  ∀ k x, zs[k]? = some x → ∃ b off, A = some ⟨b, off, none⟩ ∧ b < w.heap.size ∧ w.cell? ⟨b, off + k, none⟩ = some (.int .i64 x)

theorem Ints.at_ {w : World} {A : Option Addr} {zs : List Int} (h : Ints w A zs) {k : Nat} (hk : k < zs.length) :
    ∃ b off x, A = some ⟨b, off, none⟩ ∧ zs[k]? = some x ∧ w.cell? ⟨b, off + k, none⟩ = some (.int .i64 x) := by
  have hx : zs[k]? = some zs[k] := List.getElem?_eq_getElem hk
  obtain ⟨b, off, e, _, hc⟩ := h k _ hx
  exact ⟨b, off, _, e, hx, hc⟩
theorem Ints.none_ {w : World} {A : Option Addr} : Ints w A [] := fun k x h => by simp at h
theorem Ints.below {w w' : World} {A : Option Addr} {zs : List Int} (h : Ints w A zs) (hb : Below w.heap.size w w') : Ints w' A zs := by
  intro k x hx
  obtain ⟨b, off, e, hlt, hc⟩ := h k x hx
  exact ⟨b, off, e, Nat.lt_of_lt_of_le hlt hb.size, (hb.cell (p := ⟨b, off + k, none⟩) hlt).trans hc⟩

theorem ints_of {W : World} {x : Addr} {zs : List Int} (hc : ∀ i, i < zs.length → W.cell? (x.add i) = some (.int .i64 (zs.getD i 0))) (len : Nat) : Ints W (some x) (zs.take len) := by
  intro k y hy
  have hk : k < zs.length := by
    have := (List.getElem?_eq_some_iff.1 hy).1
    rw [List.length_take] at this
    omega
  obtain ⟨b, off, rfl, hcell⟩ := ints_at hc (by omega)
  have h := hcell k hk
  have e : zs.getD k 0 = y := by
    rw [List.getElem?_take] at hy
    split at hy
    · rw [List.getD_eq_getElem?_getD, hy]; rfl
    · cases hy
  rw [e] at h
  exact ⟨b, off, rfl, World.block_lt_of_cell? W _ h, h⟩

theorem take_snoc_some {zs : List Int} {k : Nat} {x : Int} (h : zs[k]? = some x) : zs.take (k + 1) = zs.take k ++ [x] := by
  rw [List.take_add_one, h]; rfl

/-! The calls of clock on texts: width, isNumber, Read, Text. -/
open Go.RowKit
set_option linter.unusedVariables false

theorem iter_below (w : World) (s : ByteArray) (p : Nat) : Below w.heap.size w (w.iter s p) := (Below.refl _ _).alloc (Nat.le_refl _) _

theorem byte_at (s : ByteArray) (k : Nat) (h : k < s.size) : s.data.toList[k]? = some s[k] := by
  rw [List.getElem?_eq_getElem (by simpa using h)]; rfl
theorem take_byte (s : ByteArray) (k : Nat) (h : k < s.size) : s.data.toList.take (k + 1) = s.data.toList.take k ++ [s[k]] := by
  rw [List.take_add_one, byte_at s k h]; rfl
theorem head_byte (s : ByteArray) (h : 0 < s.size) : s.data.toList.head? = some s[0] := by
  rw [List.head?_eq_getElem?, byte_at s 0 h]
theorem list_nil (s : ByteArray) (h : s.size = 0) : s.data.toList = [] := List.eq_nil_of_length_eq_zero (by simpa using h)
theorem list_pos (s : ByteArray) (h : 0 < s.size) : s.data.toList ≠ [] := fun e => by
  have : s.data.toList.length = 0 := by rw [e]; rfl
  have h2 : s.data.toList.length = s.size := rfl
  omega
theorem byte_int (c : UInt8) (h : c.toNat ≠ 48) : ((c.toNat : Int) != 48) = true := by rw [bne_iff_ne]; omega
theorem byte_int0 (c : UInt8) (h : c.toNat = 48) : ((c.toNat : Int) != 48) = false := by rw [h]; rfl
theorem all_snoc_yes {l : List UInt8} {c : UInt8} (h : l.all isDig = true) (hc : isDig c = true) : (l ++ [c]).all isDig = true := by rw [all_snoc, h, hc]; rfl

/-! clock.Read, and the document's own Read. -/
open Go.RowKit
set_option linter.unusedVariables false

theorem dig_at {s : ByteArray} {k : Nat} (h : s.data.toList.all isDig = true) (hk : k < s.size) : 48 ≤ s[k].toNat ∧ s[k].toNat ≤ 57 := by
  rw [List.all_eq_true] at h
  exact isDig_bd (h _ (List.mem_of_getElem? (byte_at s k hk)))

theorem byte_eq (c : UInt8) (h : c.toNat = 48) : ((c.toNat : Int) == 48) = true := by rw [h]; rfl
theorem byte_ne (c : UInt8) (h : c.toNat ≠ 48) : ((c.toNat : Int) == 48) = false := by rw [beq_eq_false_iff_ne]; omega
theorem list_one {s : ByteArray} (h : s.size = 1) (h0 : s[0].toNat = 48) : s.data.toList = [48] := by
  have hl : s.data.toList.length = 1 := h
  obtain ⟨c, hc⟩ := List.length_eq_one_iff.1 hl
  have := byte_at s 0 (by omega)
  rw [hc] at this
  rw [hc]
  have e : c = s[0] := by simpa using this
  rw [e]
  exact congrArg (fun x => [x]) (UInt8.toNat_inj.1 (by rw [h0]; rfl))

/-- from the head of the first loop on, what stands ahead of it decided: the rest of the call, as the walk meets it -/
theorem num_head {s : ByteArray} (hpos : 0 < s.size) (hall : s.data.toList.all isDig = true) (h : s[0].toNat ≠ 48 ∨ s.size ≤ 1) : numB s.data.toList = true := by
  by_cases h0 : s[0].toNat = 48
  · exact numB_one (list_one (by omega) h0)
  · exact numB_yes hall (list_pos s hpos) (by rw [head_byte s hpos]; intro e; apply h0; injection e with e; rw [e]; rfl)

/-! clock.Text, and the document's own Text. -/
open Go.RowKit
set_option linter.unusedVariables false

def textL (t : Int) : List UInt8 := if isT t = true then txt t.toNat else []
theorem textL_no {t : Int} (h : isT t = false) : textL t = [] := by simp [textL, h]
theorem textL_yes {t : Int} (h : isT t = true) : textL t = txt t.toNat := by simp [textL, h]

theorem info_u8 : (Try.prog.info? 5).map (fun i => (i.zero, i.size, i.bytes)) = some (some (.int .u8 0), 1, 1) := by kernel_rfl

/-- block g is just these bytes -/
def Row8 (w : World) (g : Nat) (l : List Int) : Prop := w.heap[g]? = some (.cells (l.map (Value.int .u8)).toArray 5 (0, 0))
theorem Row8.cell {w : World} {g : Nat} {l : List Int} (h : Row8 w g l) {i : Nat} {x : Int} (hx : l[i]? = some x) : w.cell? ⟨g, i, none⟩ = some (.int .u8 x) := by
  rw [cell_of_row w g i _ _ (0, 0) h]; simp [hx]
theorem Row8.frozen {w : World} {g : Nat} {l : List Int} (h : Row8 w g l) (i : Nat) : w.frozen? ⟨g, i, none⟩ = false := by
  unfold Row8 at h; simp [World.frozen?, h]
theorem Row8.store {w : World} {g : Nat} {l : List Int} (h : Row8 w g l) (i : Nat) (x : Int) : Row8 (w.setCell ⟨g, i, none⟩ (.int .u8 x)) g (l.set i x) := by
  unfold Row8 at h ⊢
  simp [World.setCell, Array.getElem?_modify, h, List.map_set]

theorem Row8.made (w : World) (n : Nat) : Row8 (w.alloc (.cells (madeCells #[.int .u8 0] n) 5)) w.heap.size (List.replicate n 0) := by
  have e : madeCells #[.int .u8 0] n = ((List.replicate n (0 : Int)).map (Value.int .u8)).toArray := by
    apply Array.ext'
    rw [toList_madeCells_one]; simp
  unfold Row8
  rw [heap_alloc_new, e]
theorem filled_start (m n : Nat) : Filled m n 0 (List.replicate n 0) := ⟨by simp, fun j hj => absurd hj (by omega)⟩

/-! The document's own Text. -/
open Go.RowKit
set_option linter.unusedVariables false

theorem kept {W w1 : World} (hb : Below W.heap.size W w1) : ∀ b o, b < W.heap.size → w1.cell? ⟨b, o, none⟩ = W.cell? ⟨b, o, none⟩ := fun b o h => hb.cell (p := ⟨b, o, none⟩) h

end Go.Proofs.Ytapojmniokdjfaa.Clk

