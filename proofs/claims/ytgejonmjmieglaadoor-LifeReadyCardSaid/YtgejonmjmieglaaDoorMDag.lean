/- Layer Clk over, for a seat that needs several layers: ClkNum, ClkTxt, ClkTwo, ClkMem, ClkStr, ClkRead, ClkText, ClkRtext.
   Layer Dag over, for a seat that needs several layers: DagPure, DagBits, DagOrd, DagPlus.
   Layer Dag over, for a seat that needs several layers: DagMem, DagSet, DagIter.
   Layer Dag over, for a seat that needs several layers: DagRange, DagArr, DagTab, DagRev, DagRev2.
   Layer Dag over, for a seat that needs several layers: DagArrange, DagNew. -/
import Derived.Test.YtgejonmjmieglaaDoorProg
import Derived.WalkKit
import Derived.ProofKit
import Derived.Outline
import Derived.Lib.Hide
import Derived.OpenShut
import Derived.WalkLawsBesides
import Derived.WalkSpells
import Derived.Laws.RangeAny
import Derived.Deep.OwnRows
import Derived.Laws.BytesArg
import Derived.OwnWalk
import Derived.RegionTactic
import Derived.Deep.RegionWith
import Derived.Laws.Concat
import Derived.Lib.TrailingZeros
import Derived.Laws.AppendOwn
import Derived.Laws.AppendOwnNone
import Derived.Laws.OwnMore
import Derived.Laws.MakeOwn
import Derived.Maps.AppendAt
import Derived.Laws.BitsAllLaws
import Derived.Shelf.Spec.TrailingZeros
import Derived.BigQuiet
import Derived.IntWalk
import Derived.RangeFuncNested
import Derived.RangeFuncBound
import Derived.RangeFuncCalls
import Derived.RangeFuncLeaves
import Derived.Shelf.Abstract
import Derived.OwnWalkIn
import Derived.TacticsInMore
import Derived.LoopNIn
import Derived.LoopIn
import Derived.WalkMore
namespace Go.Proofs.YtgejonmjmieglaaDoor.Clk
set_option maxRecDepth 100000
/-! Plain numbers of layer 1 (clock): what a sum, a difference, a product and a clipped sum of times come to. No Go text here. -/
def isT (t : Int) : Bool := decide (0 ≤ t) && decide (t ≤ 1099511627775)

theorem isT_yes {t : Int} (h0 : 0 ≤ t) (h1 : t ≤ 1099511627775) : isT t = true := by simp [isT, h0, h1]
theorem isT_bd {t : Int} (h : isT t = true) : 0 ≤ t ∧ t ≤ 1099511627775 := by simpa [isT] using h
theorem isT_low {t : Int} (h : t < 0) : isT t = false := by simp [isT]; omega
theorem isT_high {t : Int} (h : 1099511627775 < t) : isT t = false := by simp [isT]; omega
theorem isT_no {t : Int} (h : isT t = false) : t < 0 ∨ 1099511627775 < t := by
  simp [isT] at h
  rcases Int.lt_or_le t 0 with a | a
  · exact Or.inl a
  · exact Or.inr (h a)

def subV (t u : Int) : Int := if isT t = true ∧ isT u = true ∧ u ≤ t then t - u else 0
def subE (t u : Int) : Int := if isT t = true ∧ isT u = true then (if u ≤ t then 0 else 6) else 2
def mulV (t n : Int) : Int := if isT t = true ∧ 0 ≤ n ∧ t * n ≤ 1099511627775 then t * n else 0
def mulE (t n : Int) : Int := if isT t = true ∧ 0 ≤ n then (if t * n ≤ 1099511627775 then 0 else 6) else 2

theorem sub_arg1 {t u : Int} (h : isT t = false) : subV t u = 0 ∧ subE t u = 2 := by simp [subV, subE, h]
theorem sub_arg2 {t u : Int} (h : isT u = false) : subV t u = 0 ∧ subE t u = 2 := by simp [subV, subE, h]
theorem sub_over {t u : Int} (h1 : isT t = true) (h2 : isT u = true) (h : t < u) : subV t u = 0 ∧ subE t u = 6 := by
  have : ¬ u ≤ t := by omega
  simp [subV, subE, h1, h2, this]
theorem sub_yes {t u : Int} (h1 : isT t = true) (h2 : isT u = true) (h : u ≤ t) : subV t u = t - u ∧ subE t u = 0 := by simp [subV, subE, h1, h2, h]
theorem mul_arg1 {t n : Int} (h : isT t = false) : mulV t n = 0 ∧ mulE t n = 2 := by simp [mulV, mulE, h]
theorem mul_arg2 {t n : Int} (h : n < 0) : mulV t n = 0 ∧ mulE t n = 2 := by
  have : ¬ 0 ≤ n := by omega
  simp [mulV, mulE, this]
theorem mul_over {t n : Int} (h1 : isT t = true) (h2 : 0 ≤ n) (h : 1099511627775 < t * n) : mulV t n = 0 ∧ mulE t n = 6 := by
  have : ¬ t * n ≤ 1099511627775 := by omega
  simp [mulV, mulE, h1, h2, this]
theorem mul_yes {t n : Int} (h1 : isT t = true) (h2 : 0 ≤ n) (h : t * n ≤ 1099511627775) : mulV t n = t * n ∧ mulE t n = 0 := by simp [mulV, mulE, h1, h2, h]
/-- n is more than so often into the greatest time: just if the product is too great -/
theorem quo_over {t n : Int} (h : 0 < t) : 1099511627775 / t < n ↔ 1099511627775 < t * n := by
  rw [Int.ediv_lt_iff_lt_mul h, Int.mul_comm n t]

theorem prod_over1 {t n : Int} (h : 1 ≤ t) (hn : 1099511627775 < n) : 1099511627775 < t * n := by
  have : 1 * n ≤ t * n := Int.mul_le_mul_of_nonneg_right h (by omega)
  omega
theorem part_bd (t n : Int) (h0 : 0 ≤ t) (h1 : t ≤ 1099511627775) : 0 ≤ t * (n % 1048576) ∧ t * (n % 1048576) ≤ 1152921504606846976 := by
  have a : 0 ≤ n % 1048576 := Int.emod_nonneg _ (by omega)
  have b : n % 1048576 ≤ 1048576 := by omega
  refine ⟨Int.mul_nonneg h0 a, ?_⟩
  have : t * (n % 1048576) ≤ 1099511627775 * 1048576 := Int.mul_le_mul h1 b a (by omega)
  omega
theorem prod_over2 {t n : Int} (h : 0 ≤ t) (hn : 0 ≤ n) (ho : 1099511627775 < t * (n % 1048576)) : 1099511627775 < t * n := by
  have : t * (n % 1048576) ≤ t * n := Int.mul_le_mul_of_nonneg_left (by omega) h
  omega
theorem prod_small {t n : Int} (h0 : 0 ≤ n) (h1 : n < 1048576) (ho : ¬ 1099511627775 < t * (n % 1048576)) : t * n ≤ 1099511627775 := by
  rw [Int.emod_eq_of_lt h0 h1] at ho
  omega

def one (t : Int) : Int := if t < 0 then 0 else if 1099511627775 < t then 1099511627775 else t
theorem one_bd (t : Int) : 0 ≤ one t ∧ one t ≤ 1099511627775 := by unfold one; split <;> (try split) <;> omega

/-- the sum so far and what is left: the clipped sum, term by term -/
def clipL (s : Int) : List Int → Int
  | [] => s
  | x :: r => clipL (one (s + one x)) r
def clipA (l : List Int) : Int := clipL 0 l

theorem clipL_snoc (l : List Int) : ∀ (s x : Int), clipL s (l ++ [x]) = one (clipL s l + one x) := by
  induction l with
  | nil => intro s x; rfl
  | cons y r ih => intro s x; exact ih _ x
theorem clipL_bd (l : List Int) : ∀ s : Int, 0 ≤ s → s ≤ 1099511627775 → 0 ≤ clipL s l ∧ clipL s l ≤ 1099511627775 := by
  induction l with
  | nil => intro s h0 h1; exact ⟨h0, h1⟩
  | cons y r ih => intro s _ _; exact ih _ (one_bd _).1 (one_bd _).2
theorem clipL_full (l : List Int) : clipL 1099511627775 l = 1099511627775 := by
  induction l with
  | nil => rfl
  | cons y r ih =>
    have : one (1099511627775 + one y) = 1099511627775 := by unfold one; split <;> (try split) <;> (try split) <;> (try split) <;> omega
    show clipL (one (1099511627775 + one y)) r = _
    rw [this]; exact ih
theorem clipA_cons (t : Int) (l : List Int) : clipA (t :: l) = clipL (one t) l := by
  show clipL (one (0 + one t)) l = _
  have : one (0 + one t) = one t := by unfold one; split <;> (try split) <;> (try split) <;> omega
  rw [this]

theorem clipL_append (l : List Int) : ∀ (s : Int) (r : List Int), clipL s (l ++ r) = clipL (clipL s l) r := by
  induction l with
  | nil => intro s r; rfl
  | cons y t ih => intro s r; exact ih _ r
theorem one_low {s x : Int} (h0 : 0 ≤ s) (h1 : s ≤ 1099511627775) (hx : x ≤ 0) : one (s + one x) = s := by
  unfold one; split <;> (try split) <;> (try split) <;> (try split) <;> omega
theorem one_full {s x : Int} (h0 : 0 ≤ s) (hx : 1099511627775 - s ≤ x) (h1 : s ≤ 1099511627775) : one (s + one x) = 1099511627775 := by
  unfold one; split <;> (try split) <;> (try split) <;> (try split) <;> omega
theorem one_mid {s x : Int} (h0 : 0 ≤ s) (h1 : 0 < x) (hx : x < 1099511627775 - s) : one (s + one x) = s + x := by
  unfold one; split <;> (try split) <;> (try split) <;> (try split) <;> omega
theorem clipL_break {l : List Int} {k : Nat} {s : Int} (h : clipL s (l.take k) = 1099511627775) : clipL s l = 1099511627775 := by
  rw [← List.take_append_drop k l, clipL_append, h, clipL_full]

def allT (l : List Int) : Bool := l.all isT
def sumL : List Int → Int
  | [] => 0
  | x :: r => x + sumL r
theorem sumL_snoc (l : List Int) (x : Int) : sumL (l ++ [x]) = sumL l + x := by
  induction l with
  | nil => simp [sumL]
  | cons y r ih => simp only [List.cons_append, sumL, ih]; omega
theorem sumL_append (l r : List Int) : sumL (l ++ r) = sumL l + sumL r := by
  induction l with
  | nil => simp [sumL]
  | cons y t ih => simp only [List.cons_append, sumL, ih]; omega
theorem sumL_nonneg (l : List Int) (h : allT l = true) : 0 ≤ sumL l := by
  induction l with
  | nil => exact Int.le_refl _
  | cons y r ih =>
    simp only [allT, List.all_cons, Bool.and_eq_true] at h
    have := ih h.2
    have := isT_bd h.1
    simp only [sumL]; omega
theorem allT_take (l : List Int) (k : Nat) (h : allT l = true) : allT (l.take k) = true := by
  simp only [allT, List.all_eq_true] at h ⊢
  exact fun x hx => h x (List.mem_of_mem_take hx)
theorem allT_drop (l : List Int) (k : Nat) (h : allT l = true) : allT (l.drop k) = true := by
  simp only [allT, List.all_eq_true] at h ⊢
  exact fun x hx => h x (List.mem_of_mem_drop hx)
theorem sumL_take_le (l : List Int) (k : Nat) (h : allT l = true) : sumL (l.take k) ≤ sumL l := by
  have e : sumL l = sumL (l.take k) + sumL (l.drop k) := by rw [← sumL_append, List.take_append_drop]
  have := sumL_nonneg _ (allT_drop l k h)
  omega

def addE (l : List Int) : Int := if allT l = true then (if sumL l ≤ 1099511627775 then 0 else 6) else 2
def addV (l : List Int) : Int := if allT l = true ∧ sumL l ≤ 1099511627775 then sumL l else 0

/-! Plain texts of numbers: decimal digits, the number of a text, and that each is the other's. No Go text here. -/
def dig (n : Nat) : UInt8 := UInt8.ofNat (48 + n % 10)
theorem dig_toNat (n : Nat) : (dig n).toNat = 48 + n % 10 := by
  unfold dig; rw [UInt8.toNat_ofNat']; omega

/-- the digits, the last one first; f: how many steps at most -/
def rtxF : Nat → Nat → List UInt8
  | 0, n => [dig n]
  | f + 1, n => if n < 10 then [dig n] else dig n :: rtxF f (n / 10)
def rtx (n : Nat) : List UInt8 := rtxF n n

def txt (n : Nat) : List UInt8 := (rtx n).reverse

theorem rtxF_any (f : Nat) : ∀ g n : Nat, n ≤ f → n ≤ g → rtxF f n = rtxF g n := by
  induction f with
  | zero =>
    intro g n hf _
    obtain rfl : n = 0 := by omega
    cases g with
    | zero => rfl
    | succ g => rfl
  | succ f ih =>
    intro g n hf hg
    cases g with
    | zero =>
      obtain rfl : n = 0 := by omega
      rfl
    | succ g =>
      show (if n < 10 then [dig n] else dig n :: rtxF f (n / 10)) = (if n < 10 then [dig n] else dig n :: rtxF g (n / 10))
      by_cases h : n < 10
      · rw [if_pos h, if_pos h]
      · rw [if_neg h, if_neg h, ih g (n / 10) (by omega) (by omega)]
theorem rtx_small {n : Nat} (h : n < 10) : rtx n = [dig n] := by
  unfold rtx
  cases n with
  | zero => rfl
  | succ k =>
    show (if k + 1 < 10 then [dig (k + 1)] else dig (k + 1) :: rtxF k ((k + 1) / 10)) = _
    rw [if_pos h]
theorem rtx_more {n : Nat} (h : ¬ n < 10) : rtx n = dig n :: rtx (n / 10) := by
  unfold rtx
  cases n with
  | zero => exact absurd (by omega) h
  | succ k =>
    show (if k + 1 < 10 then [dig (k + 1)] else dig (k + 1) :: rtxF k ((k + 1) / 10)) = _
    rw [if_neg h, rtxF_any k ((k + 1) / 10) ((k + 1) / 10) (by omega) (by omega)]
theorem txt_small {n : Nat} (h : n < 10) : txt n = [dig n] := by rw [txt, rtx_small h]; rfl
theorem txt_more {n : Nat} (h : ¬ n < 10) : txt n = txt (n / 10) ++ [dig n] := by rw [txt, rtx_more h, List.reverse_cons]; rfl

theorem rtx_pos (n : Nat) : 1 ≤ (rtx n).length := by
  by_cases h : n < 10
  · rw [rtx_small h]; simp
  · rw [rtx_more h]; simp
theorem txt_len (n : Nat) : (txt n).length = (rtx n).length := by simp [txt]

theorem rtx_get (k : Nat) : ∀ n : Nat, k < (rtx n).length → (rtx n)[k]? = some (dig (n / 10 ^ k)) := by
  induction k with
  | zero =>
    intro n _
    by_cases h : n < 10
    · rw [rtx_small h]; simp
    · rw [rtx_more h]; simp
  | succ k ih =>
    intro n hk
    by_cases h : n < 10
    · rw [rtx_small h] at hk; simp at hk
    · rw [rtx_more h] at hk ⊢
      simp at hk
      rw [List.getElem?_cons_succ, ih _ hk, Nat.div_div_eq_div_mul, Nat.pow_succ, Nat.mul_comm 10]
theorem txt_get {n k : Nat} (hk : k < (txt n).length) : (txt n)[(txt n).length - 1 - k]? = some (dig (n / 10 ^ k)) := by
  rw [txt_len] at hk
  rw [txt_len]
  have h2 : (rtx n).length - 1 - k < (rtx n).length := by omega
  rw [txt, List.getElem?_reverse h2]
  rw [show (rtx n).length - 1 - ((rtx n).length - 1 - k) = k from by omega]
  exact rtx_get k n hk

/-- no time has more than 13 digits -/
theorem rtx_bound (f : Nat) : ∀ n : Nat, n < 10 ^ (f + 1) → (rtx n).length ≤ f + 1 := by
  induction f with
  | zero => intro n h; rw [rtx_small (by simpa using h)]; simp
  | succ f ih =>
    intro n h
    by_cases hs : n < 10
    · rw [rtx_small hs]; simp
    · rw [rtx_more hs]
      have : n / 10 < 10 ^ (f + 1) := by
        rw [Nat.div_lt_iff_lt_mul (by omega)]
        rwa [Nat.pow_succ] at h
      have := ih _ this
      simp; omega
theorem txt_bound {n : Nat} (h : n ≤ 1099511627775) : (txt n).length ≤ 13 := by
  rw [txt_len]; exact rtx_bound 12 n (by omega)

theorem head_app {l r : List UInt8} (h : l ≠ []) : (l ++ r).head? = l.head? := by
  cases l with
  | nil => exact absurd rfl h
  | cons a t => rfl

/-- the number of a text of digits -/
def valA (a : Nat) : List UInt8 → Nat
  | [] => a
  | c :: r => valA (10 * a + (c.toNat - 48)) r
def val (l : List UInt8) : Nat := valA 0 l
theorem valA_snoc (l : List UInt8) : ∀ (a : Nat) (c : UInt8), valA a (l ++ [c]) = 10 * valA a l + (c.toNat - 48) := by
  induction l with
  | nil => intro a c; rfl
  | cons d r ih => intro a c; exact ih _ c
theorem val_snoc (l : List UInt8) (c : UInt8) : val (l ++ [c]) = 10 * val l + (c.toNat - 48) := valA_snoc l 0 c
theorem valA_ge (l : List UInt8) : ∀ a : Nat, a ≤ valA a l := by
  induction l with
  | nil => intro a; exact Nat.le_refl _
  | cons d r ih => intro a; exact Nat.le_trans (by omega) (ih _)
theorem valA_append (l r : List UInt8) : ∀ a : Nat, valA a (l ++ r) = valA (valA a l) r := by
  induction l with
  | nil => intro a; rfl
  | cons d t ih => intro a; exact ih _
theorem val_take_le (l : List UInt8) (k : Nat) : val (l.take k) ≤ val l := by
  have e : val l = valA (val (l.take k)) (l.drop k) := by
    rw [val, val, ← valA_append, List.take_append_drop]
  rw [e]; exact valA_ge _ _

def isDig (c : UInt8) : Bool := decide (48 ≤ c.toNat) && decide (c.toNat ≤ 57)
def numB (l : List UInt8) : Bool := l.all isDig && (l == [48] || (l != [] && l.head? != some 48))

theorem isDig_bd {c : UInt8} (h : isDig c = true) : 48 ≤ c.toNat ∧ c.toNat ≤ 57 := by simpa [isDig] using h
theorem isDig_dig (n : Nat) : isDig (dig n) = true := by
  simp only [isDig, dig_toNat, Bool.and_eq_true, decide_eq_true_eq]; omega
theorem dig_of {c : UInt8} (h : isDig c = true) (m : Nat) : dig (10 * m + (c.toNat - 48)) = c := by
  have b := isDig_bd h
  apply UInt8.toNat_inj.1
  rw [dig_toNat]; omega

theorem rtx_val (n : Nat) : val (rtx n).reverse = n := by
  induction n using Nat.strongRecOn with
  | _ n ih =>
    by_cases h : n < 10
    · rw [rtx_small h]
      show 10 * 0 + ((dig n).toNat - 48) = n
      rw [dig_toNat]; omega
    · rw [rtx_more h, List.reverse_cons, val_snoc, ih (n / 10) (by omega), dig_toNat]; omega
theorem txt_val (n : Nat) : val (txt n) = n := rtx_val n
theorem txt_digs (n : Nat) : (txt n).all isDig = true := by
  rw [txt, List.all_reverse]
  induction n using Nat.strongRecOn with
  | _ n ih =>
    by_cases h : n < 10
    · rw [rtx_small h]; simp [isDig_dig]
    · rw [rtx_more h, List.all_cons, isDig_dig, ih (n / 10) (by omega)]; rfl
theorem txt_ne (n : Nat) : txt n ≠ [] := by
  intro h
  have := rtx_pos n
  rw [← txt_len, h] at this; simp at this
theorem txt_head (n : Nat) (hn : n ≠ 0) : (txt n).head? ≠ some 48 := by
  induction n using Nat.strongRecOn with
  | _ n ih =>
    by_cases h : n < 10
    · rw [txt_small h]
      intro e
      have e2 : dig n = 48 := by simpa using e
      have := dig_toNat n
      rw [e2] at this
      have h48 : (48 : UInt8).toNat = 48 := rfl
      omega
    · rw [txt_more h, head_app (txt_ne _)]
      exact ih (n / 10) (by omega) (by omega)
theorem txt_numB (n : Nat) : numB (txt n) = true := by
  unfold numB
  rw [txt_digs]
  by_cases h : n = 0
  · subst h; rw [txt_small (by omega)]; rfl
  · have h1 := txt_ne n
    have h2 := txt_head n h
    simp [h1, h2]

theorem all_snoc (l : List UInt8) (c : UInt8) : (l ++ [c]).all isDig = (l.all isDig && isDig c) := by simp

/-- a text of digits, its first one not 0, is its number's -/
theorem txt_of_val (m : Nat) : ∀ l : List UInt8, l.length = m → l ≠ [] → l.all isDig = true → l.head? ≠ some 48 → 1 ≤ val l ∧ txt (val l) = l := by
  induction m with
  | zero => intro l hl hne; exact absurd (List.eq_nil_of_length_eq_zero hl) hne
  | succ m ih =>
    intro l hl hne hall hh
    rcases List.eq_nil_or_concat l with e | ⟨r, c, e⟩
    · exact absurd e hne
    · rw [List.concat_eq_append] at e
      subst e
      rw [all_snoc, Bool.and_eq_true] at hall
      have bc := isDig_bd hall.2
      by_cases hr : r = []
      · subst hr
        have hc : c ≠ 48 := fun e => hh (by rw [e]; rfl)
        have hc2 : c.toNat ≠ 48 := fun e => hc (UInt8.toNat_inj.1 (by rw [e]; rfl))
        have hv : val ([] ++ [c]) = c.toNat - 48 := by rw [val_snoc]; show 10 * 0 + _ = _; omega
        rw [hv]
        refine ⟨by omega, ?_⟩
        rw [txt_small (by omega)]
        have := dig_of hall.2 0
        rw [show 10 * 0 + (c.toNat - 48) = c.toNat - 48 from by omega] at this
        rw [this]; rfl
      · have hl2 : r.length = m := by simpa using hl
        rw [head_app hr] at hh
        obtain ⟨h1, h2⟩ := ih r hl2 hr hall.1 hh
        rw [val_snoc]
        refine ⟨by omega, ?_⟩
        rw [txt_more (by omega), dig_of hall.2, show (10 * val r + (c.toNat - 48)) / 10 = val r from by omega, h2]
theorem txt_back {l : List UInt8} (h : numB l = true) : txt (val l) = l := by
  simp only [numB, Bool.and_eq_true, Bool.or_eq_true, beq_iff_eq, bne_iff_ne] at h
  obtain ⟨h1, h2 | h2⟩ := h
  · subst h2; show txt 0 = [48]; rw [txt_small (by omega)]; rfl
  · exact (txt_of_val _ l rfl h2.1 h1 h2.2).2

theorem numB_bad {l : List UInt8} {k : Nat} {c : UInt8} (h : l[k]? = some c) (hc : isDig c = false) : numB l = false := by
  have : l.all isDig = false := by
    cases e : l.all isDig
    · rfl
    · rw [List.all_eq_true] at e
      have := e c (List.mem_of_getElem? h)
      rw [this] at hc; cases hc
  simp [numB, this]
theorem numB_nil : numB [] = false := rfl
theorem numB_one {l : List UInt8} (h : l = [48]) : numB l = true := by subst h; rfl
theorem numB_lead {l : List UInt8} (hn : l ≠ [48]) (hh : l.head? = some 48) : numB l = false := by
  simp [numB, hn, hh]
theorem numB_yes {l : List UInt8} (h : l.all isDig = true) (hne : l ≠ []) (hh : l.head? ≠ some 48) : numB l = true := by
  simp [numB, h, hne, hh]
theorem numB_digs {l : List UInt8} (h : numB l = true) : l.all isDig = true := by
  simp only [numB, Bool.and_eq_true] at h; exact h.1
theorem isDig_low {c : UInt8} (h : c.toNat < 48) : isDig c = false := by simp [isDig]; omega
theorem isDig_high {c : UInt8} (h : 57 < c.toNat) : isDig c = false := by simp [isDig]; omega
theorem isDig_mid {c : UInt8} (h : 48 ≤ c.toNat) (h2 : c.toNat ≤ 57) : isDig c = true := by simp [isDig, h, h2]

theorem val_lt (m : Nat) : ∀ l : List UInt8, l.length = m → l.all isDig = true → val l < 10 ^ m := by
  induction m with
  | zero => intro l hl _; rw [List.eq_nil_of_length_eq_zero hl]; decide
  | succ m ih =>
    intro l hl hall
    rcases List.eq_nil_or_concat l with e | ⟨r, c, e⟩
    · rw [e] at hl; simp at hl
    · rw [List.concat_eq_append] at e
      subst e
      rw [all_snoc, Bool.and_eq_true] at hall
      have bc := isDig_bd hall.2
      have := ih r (by simpa using hl) hall.1
      rw [val_snoc, Nat.pow_succ]; omega
theorem val_lt13 {l : List UInt8} (hall : l.all isDig = true) (h : l.length ≤ 13) : val l < 10000000000000 := by
  have a := val_lt _ l rfl hall
  have b : 10 ^ l.length ≤ 10 ^ 13 := Nat.pow_le_pow_right (by omega) h
  omega
theorem val_long {l : List UInt8} (h : numB l = true) (hl : 13 < l.length) : 1099511627775 < val l := by
  rcases Nat.lt_or_ge 1099511627775 (val l) with g | g
  · exact g
  · have := txt_bound g
    rw [txt_back h] at this; omega

def readE (l : List UInt8) : Int := if numB l = true then (if val l ≤ 1099511627775 then 0 else 6) else 5
def readV (l : List UInt8) : Int := if numB l = true ∧ val l ≤ 1099511627775 then (val l : Int) else 0

theorem read_form {l : List UInt8} (h : numB l = false) : readV l = 0 ∧ readE l = 5 := by simp [readV, readE, h]
theorem read_over {l : List UInt8} (h : numB l = true) (ho : 1099511627775 < val l) : readV l = 0 ∧ readE l = 6 := by
  have : ¬ val l ≤ 1099511627775 := by omega
  simp [readV, readE, h, this]
theorem read_yes {l : List UInt8} (h : numB l = true) (ho : val l ≤ 1099511627775) : readV l = (val l : Int) ∧ readE l = 0 := by simp [readV, readE, h, ho]

/-- digits laid from the end on: the last k of n places hold the last k digits of m -/
def Filled (m n k : Nat) (l : List Int) : Prop := l.length = n ∧ ∀ j, j < k → l[n - 1 - j]? = some ((dig (m / 10 ^ j)).toNat : Int)
theorem Filled.next {m n k : Nat} {l : List Int} (h : Filled m n k l) (hk : k < n) : Filled m n (k + 1) (l.set (n - 1 - k) ((dig (m / 10 ^ k)).toNat : Int)) := by
  refine ⟨by simpa using h.1, fun j hj => ?_⟩
  by_cases e : j = k
  · subst e
    rw [List.getElem?_set_self (by rw [h.1]; omega)]
  · rw [List.getElem?_set_ne (by omega)]
    exact h.2 j (by omega)
theorem Filled.whole {m : Nat} {l : List Int} (h : Filled m (txt m).length (txt m).length l) : l = (txt m).map fun c => (c.toNat : Int) := by
  apply List.ext_getElem?
  intro i
  by_cases hi : i < (txt m).length
  · have a := h.2 ((txt m).length - 1 - i) (by omega)
    have b := txt_get (n := m) (k := (txt m).length - 1 - i) (by omega)
    rw [show (txt m).length - 1 - ((txt m).length - 1 - i) = i from by omega] at a b
    rw [a, List.getElem?_map, b]; rfl
  · rw [List.getElem?_eq_none (by rw [h.1]; omega), List.getElem?_eq_none (by simp; omega)]

/-! The calls of clock, and of the document's own answer, that take numbers alone: Is, Sub, Mul, one. -/
open Go.RowKit
set_option linter.unusedVariables false

theorem ris_any (t : Int) (w : World) : Calls Tryd.prog 63 #[.int .i64 t] w fun e w' => e = .returned (.bool (isT t)) ∧ w = w' := by
  by_cases h0 : 0 ≤ t
  · by_cases h1 : t ≤ 1099511627775
    · rw [isT_yes h0 h1]
      go_enter Tryd.func63, Tryd.ntmps63
      go_wp2
      go_ret
      exact ⟨rfl, rfl⟩
    · rw [isT_high (t := t) (by omega)]
      go_enter Tryd.func63, Tryd.ntmps63
      go_wp2
      go_ret
      exact ⟨rfl, rfl⟩
  · rw [isT_low (t := t) (by omega)]
    go_enter Tryd.func63, Tryd.ntmps63
    go_wp2
    go_ret
    exact ⟨rfl, rfl⟩

/-! A slice of int that holds a list of numbers, element by element (nil and empty ones among them), and what keeps it so. -/
open Go.RowKit
set_option linter.unusedVariables false

def Ints (w : World) (A : Option Addr) (zs : List Int) : Prop :=
  ∀ k x, zs[k]? = some x → ∃ b off, A = some ⟨b, off, none⟩ ∧ b < w.heap.size ∧ w.cell? ⟨b, off + k, none⟩ = some (.int .i64 x)

theorem Ints.at_ {w : World} {A : Option Addr} {zs : List Int} (h : Ints w A zs) {k : Nat} (hk : k < zs.length) :
    ∃ b off x, A = some ⟨b, off, none⟩ ∧ zs[k]? = some x ∧ w.cell? ⟨b, off + k, none⟩ = some (.int .i64 x) := by
  have hx : zs[k]? = some zs[k] := List.getElem?_eq_getElem hk
  obtain ⟨b, off, e, _, hc⟩ := h k _ hx
  exact ⟨b, off, _, e, hx, hc⟩
theorem Ints.none_ {w : World} {A : Option Addr} : Ints w A [] := fun k x h => by simp at h
theorem Ints.below {w w' : World} {A : Option Addr} {zs : List Int} (h : Ints w A zs) (hb : Below w.heap.size w w') : Ints w' A zs := by
  intro k x hx
  obtain ⟨b, off, e, hlt, hc⟩ := h k x hx
  exact ⟨b, off, e, Nat.lt_of_lt_of_le hlt hb.size, (hb.cell (p := ⟨b, off + k, none⟩) hlt).trans hc⟩

theorem ints_of {W : World} {x : Addr} {zs : List Int} (hc : ∀ i, i < zs.length → W.cell? (x.add i) = some (.int .i64 (zs.getD i 0))) (len : Nat) : Ints W (some x) (zs.take len) := by
  intro k y hy
  have hk : k < zs.length := by
    have := (List.getElem?_eq_some_iff.1 hy).1
    rw [List.length_take] at this
    omega
  obtain ⟨b, off, rfl, hcell⟩ := ints_at hc (by omega)
  have h := hcell k hk
  have e : zs.getD k 0 = y := by
    rw [List.getElem?_take] at hy
    split at hy
    · rw [List.getD_eq_getElem?_getD, hy]; rfl
    · cases hy
  rw [e] at h
  exact ⟨b, off, rfl, World.block_lt_of_cell? W _ h, h⟩

theorem take_snoc_some {zs : List Int} {k : Nat} {x : Int} (h : zs[k]? = some x) : zs.take (k + 1) = zs.take k ++ [x] := by
  rw [List.take_add_one, h]; rfl

/-! The calls of clock on texts: width, isNumber, Read, Text. -/
open Go.RowKit
set_option linter.unusedVariables false

theorem iter_below (w : World) (s : ByteArray) (p : Nat) : Below w.heap.size w (w.iter s p) := (Below.refl _ _).alloc (Nat.le_refl _) _

theorem byte_at (s : ByteArray) (k : Nat) (h : k < s.size) : s.data.toList[k]? = some s[k] := by
  rw [List.getElem?_eq_getElem (by simpa using h)]; rfl
theorem take_byte (s : ByteArray) (k : Nat) (h : k < s.size) : s.data.toList.take (k + 1) = s.data.toList.take k ++ [s[k]] := by
  rw [List.take_add_one, byte_at s k h]; rfl
theorem head_byte (s : ByteArray) (h : 0 < s.size) : s.data.toList.head? = some s[0] := by
  rw [List.head?_eq_getElem?, byte_at s 0 h]
theorem list_nil (s : ByteArray) (h : s.size = 0) : s.data.toList = [] := List.eq_nil_of_length_eq_zero (by simpa using h)
theorem list_pos (s : ByteArray) (h : 0 < s.size) : s.data.toList ≠ [] := fun e => by
  have : s.data.toList.length = 0 := by rw [e]; rfl
  have h2 : s.data.toList.length = s.size := rfl
  omega
theorem byte_int (c : UInt8) (h : c.toNat ≠ 48) : ((c.toNat : Int) != 48) = true := by rw [bne_iff_ne]; omega
theorem byte_int0 (c : UInt8) (h : c.toNat = 48) : ((c.toNat : Int) != 48) = false := by rw [h]; rfl
theorem all_snoc_yes {l : List UInt8} {c : UInt8} (h : l.all isDig = true) (hc : isDig c = true) : (l ++ [c]).all isDig = true := by rw [all_snoc, h, hc]; rfl

/-! clock.Read, and the document's own Read. -/
open Go.RowKit
set_option linter.unusedVariables false

theorem dig_at {s : ByteArray} {k : Nat} (h : s.data.toList.all isDig = true) (hk : k < s.size) : 48 ≤ s[k].toNat ∧ s[k].toNat ≤ 57 := by
  rw [List.all_eq_true] at h
  exact isDig_bd (h _ (List.mem_of_getElem? (byte_at s k hk)))

theorem byte_eq (c : UInt8) (h : c.toNat = 48) : ((c.toNat : Int) == 48) = true := by rw [h]; rfl
theorem byte_ne (c : UInt8) (h : c.toNat ≠ 48) : ((c.toNat : Int) == 48) = false := by rw [beq_eq_false_iff_ne]; omega
theorem list_one {s : ByteArray} (h : s.size = 1) (h0 : s[0].toNat = 48) : s.data.toList = [48] := by
  have hl : s.data.toList.length = 1 := h
  obtain ⟨c, hc⟩ := List.length_eq_one_iff.1 hl
  have := byte_at s 0 (by omega)
  rw [hc] at this
  rw [hc]
  have e : c = s[0] := by simpa using this
  rw [e]
  exact congrArg (fun x => [x]) (UInt8.toNat_inj.1 (by rw [h0]; rfl))

/-- from the head of the first loop on, what stands ahead of it decided: the rest of the call, as the walk meets it -/
theorem num_head {s : ByteArray} (hpos : 0 < s.size) (hall : s.data.toList.all isDig = true) (h : s[0].toNat ≠ 48 ∨ s.size ≤ 1) : numB s.data.toList = true := by
  by_cases h0 : s[0].toNat = 48
  · exact numB_one (list_one (by omega) h0)
  · exact numB_yes hall (list_pos s hpos) (by rw [head_byte s hpos]; intro e; apply h0; injection e with e; rw [e]; rfl)

/-! clock.Text, and the document's own Text. -/
open Go.RowKit
set_option linter.unusedVariables false

def textL (t : Int) : List UInt8 := if isT t = true then txt t.toNat else []
theorem textL_no {t : Int} (h : isT t = false) : textL t = [] := by simp [textL, h]
theorem textL_yes {t : Int} (h : isT t = true) : textL t = txt t.toNat := by simp [textL, h]

theorem info_u8 : (Tryd.prog.info? 5).map (fun i => (i.zero, i.size, i.bytes)) = some (some (.int .u8 0), 1, 1) := by kernel_rfl

/-- block g is just these bytes -/
def Row8 (w : World) (g : Nat) (l : List Int) : Prop := w.heap[g]? = some (.cells (l.map (Value.int .u8)).toArray 5 (0, 0))
theorem Row8.cell {w : World} {g : Nat} {l : List Int} (h : Row8 w g l) {i : Nat} {x : Int} (hx : l[i]? = some x) : w.cell? ⟨g, i, none⟩ = some (.int .u8 x) := by
  rw [cell_of_row w g i _ _ (0, 0) h]; simp [hx]
theorem Row8.frozen {w : World} {g : Nat} {l : List Int} (h : Row8 w g l) (i : Nat) : w.frozen? ⟨g, i, none⟩ = false := by
  unfold Row8 at h; simp [World.frozen?, h]
theorem Row8.store {w : World} {g : Nat} {l : List Int} (h : Row8 w g l) (i : Nat) (x : Int) : Row8 (w.setCell ⟨g, i, none⟩ (.int .u8 x)) g (l.set i x) := by
  unfold Row8 at h ⊢
  simp [World.setCell, Array.getElem?_modify, h, List.map_set]

theorem Row8.made (w : World) (n : Nat) : Row8 (w.alloc (.cells (madeCells #[.int .u8 0] n) 5)) w.heap.size (List.replicate n 0) := by
  have e : madeCells #[.int .u8 0] n = ((List.replicate n (0 : Int)).map (Value.int .u8)).toArray := by
    apply Array.ext'
    rw [toList_madeCells_one]; simp
  unfold Row8
  rw [heap_alloc_new, e]
theorem filled_start (m n : Nat) : Filled m n 0 (List.replicate n 0) := ⟨by simp, fun j hj => absurd hj (by omega)⟩

/-! The document's own Text. -/
open Go.RowKit
set_option linter.unusedVariables false

theorem kept {W w1 : World} (hb : Below W.heap.size W w1) : ∀ b o, b < W.heap.size → w1.cell? ⟨b, o, none⟩ = W.cell? ⟨b, o, none⟩ := fun b o h => hb.cell (p := ⟨b, o, none⟩) h

end Go.Proofs.YtgejonmjmieglaaDoor.Clk
namespace Go.Proofs.YtgejonmjmieglaaDoor.Dag
set_option maxRecDepth 100000
/-! Layer 5 in plain words: rows of numbers, arcs, rows turned round, the order. -/
set_option linter.unusedVariables false

def num (l : List Nat) : List Int := l.map fun (n : Nat) => (n : Int)
theorem num_len (l : List Nat) : (num l).length = l.length := by simp [num]
theorem num_mem {l : List Nat} {u : Nat} : (u : Int) ∈ num l ↔ u ∈ l := by
  simp only [num, List.mem_map]
  constructor
  · rintro ⟨x, hx, e⟩
    have : x = u := by omega
    rwa [← this]
  · exact fun h => ⟨u, h, rfl⟩
theorem num_mem' {l : List Nat} {x : Int} : x ∈ num l ↔ ∃ u : Nat, x = (u : Int) ∧ u ∈ l := by
  simp only [num, List.mem_map]
  exact ⟨fun ⟨u, h, e⟩ => ⟨u, e.symm, h⟩, fun ⟨u, e, h⟩ => ⟨u, h, e.symm⟩⟩
theorem num_get {l : List Nat} {k : Nat} : (num l)[k]? = l[k]?.map fun (n : Nat) => (n : Int) := by unfold num; rw [List.getElem?_map]
theorem num_app (a b : List Nat) : num (a ++ b) = num a ++ num b := by simp [num]
theorem num_inj {a b : List Nat} (h : num a = num b) : a = b := by
  unfold num at h
  exact (List.map_inj_right (f := fun n : Nat => (n : Int)) (fun x y e => by have e' : (x : Int) = (y : Int) := e; omega)).1 h

def row (E : List (List Int)) (v : Nat) : List Int := E[v]?.getD []
def Valid (E : List (List Int)) : Prop := ∀ l ∈ E, ∀ x ∈ l, 0 ≤ x ∧ x < E.length
def arc (E : List (List Int)) (v u : Nat) : Bool := decide ((u : Int) ∈ row E v)
theorem arc_iff {E : List (List Int)} {v u : Nat} : arc E v u = true ↔ (u : Int) ∈ row E v := by simp [arc]
theorem row_out {E : List (List Int)} {v : Nat} (h : E.length ≤ v) : row E v = [] := by
  unfold row; rw [List.getElem?_eq_none h]; rfl
theorem row_some {E : List (List Int)} {v : Nat} {l : List Int} (h : E[v]? = some l) : row E v = l := by unfold row; rw [h]; rfl
theorem row_get {E : List (List Int)} {v : Nat} (h : v < E.length) : E[v]? = some (row E v) := by
  unfold row; rw [List.getElem?_eq_getElem h]; rfl
theorem row_mem {E : List (List Int)} {v : Nat} (h : v < E.length) : row E v ∈ E := List.mem_of_getElem? (row_get h)
theorem arc_lt {E : List (List Int)} {v u : Nat} (h : arc E v u = true) : v < E.length := by
  rcases Nat.lt_or_ge v E.length with a | a
  · exact a
  · rw [arc_iff, row_out a] at h; simp at h
theorem Valid.at_ {E : List (List Int)} (h : Valid E) {v : Nat} {x : Int} (hx : x ∈ row E v) : ∃ u : Nat, x = (u : Int) ∧ u < E.length ∧ v < E.length := by
  have hv : v < E.length := by
    rcases Nat.lt_or_ge v E.length with a | a
    · exact a
    · rw [row_out a] at hx; simp at hx
  have := h _ (row_mem hv) x hx
  exact ⟨x.toNat, by omega, by omega, hv⟩
theorem Valid.arc {E : List (List Int)} (h : Valid E) {v u : Nat} (ha : arc E v u = true) : u < E.length := by
  obtain ⟨k, e, hk, _⟩ := h.at_ (arc_iff.1 ha)
  omega

/-- what v waits for; what waits for v -/
def befL (E : List (List Int)) (v : Nat) : List Nat := (List.range E.length).filter fun u => arc E v u
def behL (E : List (List Int)) (v : Nat) : List Nat := (List.range E.length).filter fun w => arc E w v
theorem bef_mem {E : List (List Int)} {v u : Nat} : u ∈ befL E v ↔ u < E.length ∧ arc E v u = true := by simp [befL]
theorem beh_mem {E : List (List Int)} {v w : Nat} : w ∈ behL E v ↔ w < E.length ∧ arc E w v = true := by simp [behL]
def rev (E : List (List Int)) : List (List Int) := (List.range E.length).map fun v => num (behL E v)
def fro (E : List (List Int)) : List (List Int) := (List.range E.length).map fun v => num (befL E v)
theorem rev_len (E : List (List Int)) : (rev E).length = E.length := by simp [rev]
theorem fro_len (E : List (List Int)) : (fro E).length = E.length := by simp [fro]
theorem rev_get {E : List (List Int)} {v : Nat} (h : v < E.length) : (rev E)[v]? = some (num (behL E v)) := by
  unfold rev; rw [List.getElem?_map, List.getElem?_range h]; rfl
theorem fro_get {E : List (List Int)} {v : Nat} (h : v < E.length) : (fro E)[v]? = some (num (befL E v)) := by
  unfold fro; rw [List.getElem?_map, List.getElem?_range h]; rfl
theorem beh_out {E : List (List Int)} {v : Nat} (hE : Valid E) (h : E.length ≤ v) : behL E v = [] := by
  unfold behL
  rw [List.filter_eq_nil_iff]
  intro w _ ha
  have := hE.arc ha
  omega
theorem bef_out {E : List (List Int)} {v : Nat} (h : E.length ≤ v) : befL E v = [] := by
  unfold befL
  rw [List.filter_eq_nil_iff]
  intro w _ ha
  have := arc_lt ha
  omega
theorem rev_row {E : List (List Int)} (v : Nat) (h : v < E.length) : row (rev E) v = num (behL E v) := row_some (rev_get h)
theorem fro_row {E : List (List Int)} (v : Nat) (h : v < E.length) : row (fro E) v = num (befL E v) := row_some (fro_get h)
theorem valid_of_nums {n : Nat} {f : Nat → List Nat} (hf : ∀ v, v < n → ∀ u ∈ f v, u < n) : Valid ((List.range n).map fun v => num (f v)) := by
  intro l hl x hx
  obtain ⟨v, hv, rfl⟩ := List.mem_map.1 hl
  obtain ⟨u, rfl, hu⟩ := num_mem'.1 hx
  have := hf v (by simpa using hv) u hu
  simp; omega
theorem valid_rev (E : List (List Int)) : Valid (rev E) := valid_of_nums (f := behL E) fun v _ u hu => (beh_mem.1 hu).1
theorem valid_fro (E : List (List Int)) : Valid (fro E) := valid_of_nums (f := befL E) fun v _ u hu => (bef_mem.1 hu).1
theorem arc_rev {E : List (List Int)} {v u : Nat} (hv : v < E.length) : arc (rev E) v u = true ↔ u < E.length ∧ arc E u v = true := by
  rw [arc_iff, rev_row v hv, num_mem, beh_mem]
theorem arc_fro {E : List (List Int)} {v u : Nat} : arc (fro E) v u = true ↔ u < E.length ∧ arc E v u = true := by
  rcases Nat.lt_or_ge v E.length with hv | hv
  · rw [arc_iff, fro_row v hv, num_mem, bef_mem]
  · constructor
    · intro h; have := arc_lt h; rw [fro_len] at this; omega
    · intro ⟨_, h⟩; have := arc_lt h; omega
theorem rev_rev (E : List (List Int)) : rev (rev E) = fro E := by
  unfold rev fro
  rw [show (List.map (fun v => num (behL E v)) (List.range E.length)).length = E.length from by simp]
  apply List.map_congr_left
  intro v hv
  have hv' : v < E.length := by simpa using hv
  congr 1
  show (List.range (rev E).length).filter (fun w => arc (rev E) w v) = _
  rw [rev_len]
  apply List.filter_congr
  intro w hw
  have hw' : w < E.length := by simpa using hw
  rw [Bool.eq_iff_iff, arc_rev hw']
  exact ⟨fun h => h.2, fun h => ⟨hv', h⟩⟩
/-- of rows that are in order and valid, the arcs are the rows -/
theorem bef_fro (E : List (List Int)) (v : Nat) : befL (fro E) v = befL E v := by
  unfold befL
  rw [fro_len]
  apply List.filter_congr
  intro u hu
  have hu' : u < E.length := by simpa using hu
  rw [Bool.eq_iff_iff, arc_fro]
  exact ⟨fun h => h.2, fun h => ⟨hu', h⟩⟩
theorem beh_fro (E : List (List Int)) (v : Nat) (hv : v < E.length) : behL (fro E) v = behL E v := by
  unfold behL
  rw [fro_len]
  apply List.filter_congr
  intro u hu
  have hu' : u < E.length := by simpa using hu
  rw [Bool.eq_iff_iff, arc_fro]
  exact ⟨fun h => h.2, fun h => ⟨hv, h⟩⟩
theorem filter_range_nodup (n : Nat) (p : Nat → Bool) : ((List.range n).filter p).Nodup := List.Nodup.sublist List.filter_sublist List.nodup_range
theorem bef_nodup (E : List (List Int)) (v : Nat) : (befL E v).Nodup := filter_range_nodup _ _
theorem beh_nodup (E : List (List Int)) (v : Nat) : (behL E v).Nodup := filter_range_nodup _ _
theorem filter_range_lt {n : Nat} {p : Nat → Bool} {u : Nat} (h : u ∈ (List.range n).filter p) : u < n := by simpa using (List.mem_filter.1 h).1

/-- of how many, of those that w waits for, the order has not got -/
def cntN (E : List (List Int)) (o : List Nat) (w : Nat) : Nat := ((befL E w).filter fun u => !o.contains u).length
def may (E : List (List Int)) (o : List Nat) (v : Nat) : Bool := !o.contains v && cntN E o v == 0
def nextV (E : List (List Int)) (o : List Nat) : Option Nat := (List.range E.length).find? (may E o)
def ordF (E : List (List Int)) : Nat → List Nat → List Nat
  | 0, o => o
  | f + 1, o => match nextV E o with
    | none => o
    | some v => ordF E f (o ++ [v])
def order (E : List (List Int)) : List Nat := ordF E E.length []

theorem cnt_zero {E : List (List Int)} {o : List Nat} {w : Nat} : cntN E o w = 0 ↔ ∀ u ∈ befL E w, u ∈ o := by
  unfold cntN
  rw [List.length_eq_zero_iff, List.filter_eq_nil_iff]
  simp
theorem may_iff {E : List (List Int)} {o : List Nat} {v : Nat} : may E o v = true ↔ v ∉ o ∧ ∀ u ∈ befL E v, u ∈ o := by
  unfold may
  rw [Bool.and_eq_true, beq_iff_eq, cnt_zero]
  simp
theorem next_some {E : List (List Int)} {o : List Nat} {v : Nat} (h : nextV E o = some v) : v < E.length ∧ v ∉ o ∧ (∀ u ∈ befL E v, u ∈ o) := by
  have h1 := List.find?_some h
  have h2 := List.mem_of_find?_eq_some h
  exact ⟨by simpa using h2, may_iff.1 h1⟩
theorem next_none {E : List (List Int)} {o : List Nat} (h : nextV E o = none) {v : Nat} (hv : v < E.length) : may E o v = false := by
  have := List.find?_eq_none.1 h v (by simpa using hv)
  simpa using this

/-- as far as it goes: each once, each behind what it waits for -/
structure Ord (E : List (List Int)) (o : List Nat) : Prop where
  nodup : o.Nodup
  lt : ∀ v ∈ o, v < E.length
  behind : ∀ (i v : Nat), o[i]? = some v → ∀ u ∈ befL E v, u ∈ o.take i
theorem Ord.nil (E : List (List Int)) : Ord E [] := ⟨List.nodup_nil, (fun v h => by cases h), (fun i v h => by simp at h)⟩
theorem Ord.snoc {E : List (List Int)} {o : List Nat} {v : Nat} (h : Ord E o) (hv : nextV E o = some v) : Ord E (o ++ [v]) := by
  obtain ⟨h1, h2, h3⟩ := next_some hv
  refine ⟨?_, ?_, ?_⟩
  · rw [List.nodup_append]
    refine ⟨h.nodup, by simp, ?_⟩
    intro a ha b hb e
    simp at hb
    subst hb e
    exact h2 ha
  · intro u hu
    rcases List.mem_append.1 hu with a | a
    · exact h.lt u a
    · simp at a; subst a; exact h1
  · intro i x hx u hu
    rcases Nat.lt_or_ge i o.length with hi | hi
    · rw [List.getElem?_append_left hi] at hx
      have := h.behind i x hx u hu
      rw [List.take_append_of_le_length (by omega)]
      exact this
    · rw [List.getElem?_append_right hi] at hx
      have hi' : i = o.length := by
        have := (List.getElem?_eq_some_iff.1 hx).1
        simp at this; omega
      subst hi'
      simp at hx
      subst hx
      rw [List.take_append_of_le_length (by omega), List.take_of_length_le (by omega)]
      exact h3 u hu
theorem sub_len : ∀ {a b : List Nat}, a.Nodup → (∀ x ∈ a, x ∈ b) → a.length ≤ b.length
  | [], b, _, _ => Nat.zero_le _
  | x :: a, b, h, hs => by
    have hx : x ∈ b := hs x (by simp)
    have h' := List.nodup_cons.1 h
    have := sub_len (a := a) (b := b.erase x) h'.2 fun y hy => by
      have hne : y ≠ x := fun e => h'.1 (by rw [← e]; exact hy)
      exact (List.mem_erase_of_ne hne).2 (hs y (by simp [hy]))
    rw [List.length_erase_of_mem hx] at this
    have : 0 < b.length := List.length_pos_of_mem hx
    simp; omega
theorem nodup_len {l : List Nat} {n : Nat} (h : l.Nodup) (hlt : ∀ x ∈ l, x < n) : l.length ≤ n := by
  have : l.length ≤ (List.range n).length := sub_len h fun x hx => by simpa using hlt x hx
  simpa using this
theorem Ord.len {E : List (List Int)} {o : List Nat} (h : Ord E o) : o.length ≤ E.length := nodup_len h.nodup h.lt
theorem ordF_ord {E : List (List Int)} : ∀ (f : Nat) (o : List Nat), Ord E o → Ord E (ordF E f o)
  | 0, o, h => h
  | f + 1, o, h => by
    unfold ordF
    split
    · exact h
    · exact ordF_ord f _ (h.snoc ‹_›)
theorem order_ord (E : List (List Int)) : Ord E (order E) := ordF_ord _ _ (Ord.nil E)
theorem ordF_stop {E : List (List Int)} : ∀ (f : Nat) (o : List Nat), Ord E o → E.length ≤ f + o.length → nextV E (ordF E f o) = none
  | 0, o, h, hl => by
    unfold ordF
    cases hn : nextV E o with
    | none => rfl
    | some v =>
      have := (h.snoc hn).len
      simp at this; omega
  | f + 1, o, h, hl => by
    unfold ordF
    split
    · assumption
    · exact ordF_stop f _ (h.snoc ‹_›) (by simp; omega)
theorem order_stop (E : List (List Int)) : nextV E (order E) = none := ordF_stop _ _ (Ord.nil E) (by simp)
/-- a rank that falls along the arcs: all come -/
theorem order_full {E : List (List Int)} (r : Nat → Nat) (h : ∀ v u, arc E v u = true → u < E.length → r u < r v) : (order E).length = E.length := by
  have hall : ∀ k v, r v ≤ k → v < E.length → v ∈ order E := by
    intro k
    induction k with
    | zero =>
      intro v hk hv
      have hm := next_none (order_stop E) hv
      rw [Bool.eq_false_iff] at hm
      rcases Classical.em (v ∈ order E) with hin | hin
      · exact hin
      · exfalso
        apply hm
        rw [may_iff]
        refine ⟨hin, fun u hu => ?_⟩
        have := h v u (bef_mem.1 hu).2 (bef_mem.1 hu).1
        omega
    | succ k ih =>
      intro v hk hv
      have hm := next_none (order_stop E) hv
      rw [Bool.eq_false_iff] at hm
      rcases Classical.em (v ∈ order E) with hin | hin
      · exact hin
      · exfalso
        apply hm
        rw [may_iff]
        refine ⟨hin, fun u hu => ?_⟩
        have := h v u (bef_mem.1 hu).2 (bef_mem.1 hu).1
        exact ih u (by omega) (bef_mem.1 hu).1
  have h1 := (order_ord E).len
  have h2 : (List.range E.length).length ≤ (order E).length := sub_len List.nodup_range fun x hx => hall (r x) x (Nat.le_refl _) (by simpa using hx)
  simp at h2
  omega

/-! The numbers that a word holds, in order; the lowest of them. -/
set_option linter.unusedVariables false

def bitsL (n wd : Nat) : List Nat := (List.range n).filter fun i => wd.testBit i
theorem bitsL_mem {n wd i : Nat} : i ∈ bitsL n wd ↔ i < n ∧ wd.testBit i = true := by simp [bitsL]
theorem bitsL_zero (n : Nat) : bitsL n 0 = [] := by simp [bitsL]
theorem bitsL_lt {n wd i : Nat} (h : i ∈ bitsL n wd) : i < n := (bitsL_mem.1 h).1
theorem bitsL_len (n wd : Nat) : (bitsL n wd).length ≤ n := by
  have := List.length_filter_le (fun i => wd.testBit i) (List.range n)
  simpa [bitsL] using this

theorem filter_least {n c : Nat} {p q : Nat → Bool} (hc : c < n) (hp : p c = true) (hl : ∀ i, i < c → p i = false) (hq : ∀ i, i < n → q i = (p i && decide (i ≠ c))) :
    (List.range n).filter p = c :: (List.range n).filter q := by
  obtain ⟨k, rfl⟩ : ∃ k, n = c + (k + 1) := ⟨n - c - 1, by omega⟩
  have e : List.range (c + (k + 1)) = List.range c ++ (c :: (List.range k).map fun x => c + (x + 1)) := by
    rw [List.range_add, List.range_succ_eq_map, List.map_cons, List.map_map]
    rfl
  rw [e, List.filter_append, List.filter_append]
  have e1 : (List.range c).filter p = [] := by
    rw [List.filter_eq_nil_iff]; intro i hi; rw [hl i (by simpa using hi)]; simp
  have e2 : (List.range c).filter q = [] := by
    rw [List.filter_eq_nil_iff]; intro i hi
    have hi' : i < c := by simpa using hi
    rw [hq i (by omega), hl i hi']; simp
  have e3 : q c = false := by rw [hq c hc]; simp
  rw [e1, e2, List.nil_append, List.nil_append, List.filter_cons_of_pos hp, List.filter_cons_of_neg (by simp [e3])]
  congr 1
  apply List.filter_congr
  intro i hi
  obtain ⟨x, hx, rfl⟩ := List.mem_map.1 hi
  have hx' : x < k := by simpa using hx
  rw [hq _ (by omega)]
  have : decide (c + (x + 1) ≠ c) = true := by simp
  rw [this, Bool.and_true]

theorem lowbit {wd : Nat} (h0 : wd ≠ 0) (h : wd < 2 ^ 64) :
    wd.testBit (Lib.ctz 64 wd) = true ∧ (∀ i, i < Lib.ctz 64 wd → wd.testBit i = false) ∧ (∀ i, (wd &&& (wd - 1)).testBit i = (wd.testBit i && decide (i ≠ Lib.ctz 64 wd))) := by
  obtain ⟨m, hm, hk⟩ := Lib.ctzFrom_spec 64 wd (by omega) h
  have e : Lib.ctz 64 wd = Lib.ctzFrom 64 wd := by simp [Lib.ctz, h0]
  rw [e]
  generalize Lib.ctzFrom 64 wd = c at hm hk
  have hb : ∀ i, wd.testBit i = (decide (c ≤ i) && (2 * m + 1).testBit (i - c)) := by
    intro i; rw [hm, Nat.mul_comm, Nat.testBit_mul_two_pow]
  have hpos : 0 < 2 ^ c := Nat.pow_pos (by decide)
  have e1 : wd - 1 = 2 ^ c * (2 * m) + (2 ^ c - 1) := by
    rw [hm, Nat.mul_add, Nat.mul_one]; omega
  have hb' : ∀ i, (wd - 1).testBit i = if i < c then (2 ^ c - 1).testBit i else (2 * m).testBit (i - c) := by
    intro i; rw [e1, Nat.testBit_two_pow_mul_add _ (by omega)]
  refine ⟨?_, ?_, ?_⟩
  · rw [hb]; simp [Nat.testBit_zero]
  · intro i hi; rw [hb]; simp; omega
  · intro i
    rw [Nat.testBit_and, hb']
    by_cases hic : i < c
    · rw [hb i]
      have : decide (c ≤ i) = false := by simp; omega
      rw [this]; simp
    · rw [if_neg hic]
      by_cases he : i = c
      · subst he
        simp [Nat.testBit_zero]
      · rw [hb i]
        obtain ⟨j, rfl⟩ : ∃ j, i = c + (j + 1) := ⟨i - c - 1, by omega⟩
        have e3 : c + (j + 1) - c = j + 1 := by omega
        rw [e3, Nat.testBit_succ, Nat.testBit_succ]
        have d1 : (2 * m + 1) / 2 = m := by omega
        have d2 : (2 * m) / 2 = m := by omega
        rw [d1, d2]
        have : decide (c ≤ c + (j + 1)) = true := by simp
        rw [this]
        simp

theorem bitsL_step {n wd : Nat} (h0 : wd ≠ 0) (h : wd < 2 ^ n) (hn : n ≤ 64) :
    bitsL n wd = Lib.ctz 64 wd :: bitsL n (wd &&& (wd - 1)) ∧ Lib.ctz 64 wd < n ∧ wd &&& (wd - 1) < wd := by
  have h64 : wd < 2 ^ 64 := Nat.lt_of_lt_of_le h (Nat.pow_le_pow_right (by decide) hn)
  obtain ⟨h1, h2, h3⟩ := lowbit h0 h64
  have hc : Lib.ctz 64 wd < n := by
    rcases Nat.lt_or_ge (Lib.ctz 64 wd) n with a | a
    · exact a
    · rw [Nat.testBit_lt_two_pow (Nat.lt_of_lt_of_le h (Nat.pow_le_pow_right (by decide) a))] at h1; cases h1
  refine ⟨?_, hc, ?_⟩
  · exact filter_least hc h1 h2 fun i _ => h3 i
  · have h4 := Nat.and_le_right (n := wd) (m := wd - 1)
    omega

/-- a word that holds just what p says -/
theorem bitsL_of {n wd : Nat} {p : Nat → Bool} (h : ∀ i, i < n → wd.testBit i = p i) : bitsL n wd = (List.range n).filter p := by
  apply List.filter_congr
  intro i hi
  exact h i (by simpa using hi)
theorem or_bit (wd u i : Nat) : (wd ||| 2 ^ u).testBit i = (wd.testBit i || decide (i = u)) := by
  rw [Nat.testBit_or, Nat.testBit_two_pow]
  congr 1
  rw [decide_eq_decide]; exact eq_comm
theorem or_lt {n wd u : Nat} (h : wd < 2 ^ n) (hu : u < n) : wd ||| 2 ^ u < 2 ^ n := Nat.or_lt_two_pow h (Nat.pow_lt_pow_right (by decide) hu)
theorem clear_bit (wd u i : Nat) (hwd : wd < 2 ^ 64) (hu : u < 64) : (wd &&& (18446744073709551615 - 2 ^ u)).testBit i = (wd.testBit i && decide (i ≠ u)) := by
  rw [Nat.testBit_and]
  have hp : 2 ^ u < 2 ^ 64 := Nat.pow_lt_pow_right (by decide) hu
  have e : 18446744073709551615 - 2 ^ u = 2 ^ 64 - (2 ^ u + 1) := by
    have : (2 : Nat) ^ 64 = 18446744073709551616 := by decide
    omega
  rw [e, Nat.testBit_two_pow_sub_succ hp, Nat.testBit_two_pow]
  by_cases hi : i < 64
  · by_cases he : u = i
    · subst he; simp
    · have : i ≠ u := fun e => he e.symm
      simp [hi, he, this]
  · rw [Nat.testBit_lt_two_pow (Nat.lt_of_lt_of_le hwd (Nat.pow_le_pow_right (by decide) (by omega)))]
    simp
theorem clear_lt {n wd u : Nat} (h : wd < 2 ^ n) : wd &&& (18446744073709551615 - 2 ^ u) < 2 ^ n := Nat.lt_of_le_of_lt Nat.and_le_left h
theorem word_zero {n wd : Nat} (h : wd < 2 ^ n) : wd = 0 ↔ bitsL n wd = [] := by
  constructor
  · rintro rfl; exact bitsL_zero n
  · intro hb
    apply Nat.eq_of_testBit_eq
    intro i
    rw [Nat.zero_testBit]
    rcases Nat.lt_or_ge i n with a | a
    · cases ht : wd.testBit i with
      | false => rfl
      | true =>
        have : i ∈ bitsL n wd := bitsL_mem.2 ⟨a, ht⟩
        rw [hb] at this; cases this
    · exact Nat.testBit_lt_two_pow (Nat.lt_of_lt_of_le h (Nat.pow_le_pow_right (by decide) a))

/-! What arrange counts, in plain words. -/
set_option linter.unusedVariables false

theorem filter_count {x : Nat} {p q : Nat → Bool} : ∀ {L : List Nat}, L.Nodup → p x = true → q x = false → (∀ u, u ≠ x → q u = p u) → (L.filter p).length = (L.filter q).length + if x ∈ L then 1 else 0
  | [], _, _, _, _ => by simp
  | y :: L, hn, hp, hq, h => by
    have hn' := List.nodup_cons.1 hn
    have ih := filter_count hn'.2 hp hq h
    by_cases hy : y = x
    · subst hy
      rw [List.filter_cons_of_pos hp, List.filter_cons_of_neg (by simp [hq])]
      rw [if_neg hn'.1] at ih
      rw [if_pos (by simp)]
      simp; omega
    · have hm : (x ∈ y :: L) ↔ x ∈ L := by simp; intro e; exact absurd e.symm hy
      have e := h y hy
      by_cases hpy : p y = true
      · rw [List.filter_cons_of_pos hpy, List.filter_cons_of_pos (by rw [e]; exact hpy)]
        simp only [List.length_cons, hm]
        omega
      · rw [List.filter_cons_of_neg hpy, List.filter_cons_of_neg (by rw [e]; exact hpy)]
        simp only [hm]
        exact ih
theorem cnt_snoc {E : List (List Int)} {o : List Nat} {x : Nat} (hx : x ∉ o) (i : Nat) : cntN E o i = cntN E (o ++ [x]) i + if x ∈ befL E i then 1 else 0 := by
  refine filter_count (bef_nodup E i) (by simpa using hx) (by simp) fun u hu => ?_
  simp [hu]
theorem cnt_nil (E : List (List Int)) (i : Nat) : cntN E [] i = (befL E i).length := by
  unfold cntN
  rw [List.filter_eq_self.2 (by simp)]

theorem range_map_get {α : Type} {n i : Nat} (f : Nat → α) (h : i < n) : ((List.range n).map f)[i]? = some (f i) := by
  rw [List.getElem?_map, List.getElem?_range h]; rfl
theorem range_map_set {α : Type} {n w : Nat} {f g : Nat → α} {y : α} (hw : w < n) (hy : y = g w) (h : ∀ i, i < n → i ≠ w → g i = f i) : ((List.range n).map f).set w y = (List.range n).map g := by
  apply List.ext_getElem?
  intro i
  rcases Nat.lt_or_ge i n with hi | hi
  · rw [List.getElem?_set, range_map_get g hi]
    by_cases e : w = i
    · subst e; simp [hi, hy]
    · rw [if_neg e, range_map_get f hi, h i hi (fun e' => e e'.symm)]
  · rw [List.getElem?_eq_none (by simpa using hi), List.getElem?_eq_none (by simpa using hi)]

def missL (E : List (List Int)) (o : List Nat) : List Int := (List.range E.length).map fun i => (cntN E o i : Int)
def midM (E : List (List Int)) (o : List Nat) (P : List Nat) : List Int := (List.range E.length).map fun i => (cntN E o i : Int) - if i ∈ P then 1 else 0
def midB (E : List (List Int)) (o : List Nat) (x : Nat) (P : List Nat) (i : Nat) : Bool := (decide (i ≠ x) && may E o i) || (decide (i ∈ P) && decide (cntN E o i = 1))

theorem mid_start (E : List (List Int)) (o : List Nat) : midM E o [] = missL E o := by simp [midM, missL]
theorem mid_get {E : List (List Int)} {o P : List Nat} {w : Nat} (hw : w < E.length) (hP : w ∉ P) : (midM E o P)[w]? = some (cntN E o w : Int) := by
  unfold midM; rw [range_map_get _ hw, if_neg hP]; simp
theorem mid_step {E : List (List Int)} {o P : List Nat} {w : Nat} (hw : w < E.length) : (midM E o P).set w ((cntN E o w : Int) - 1) = midM E o (P ++ [w]) := by
  refine range_map_set hw (by simp) fun i hi hne => ?_
  simp [hne]
theorem mid_end {E : List (List Int)} {o : List Nat} {x : Nat} (hx : x ∉ o) (hx' : x < E.length) : midM E o (behL E x) = missL E (o ++ [x]) := by
  apply List.map_congr_left
  intro i hi
  have hi' : i < E.length := by simpa using hi
  have h := cnt_snoc hx (E := E) i
  have e : (i ∈ behL E x) ↔ x ∈ befL E i := by rw [beh_mem, bef_mem]; exact ⟨fun h => ⟨hx', h.2⟩, fun h => ⟨hi', h.2⟩⟩
  by_cases hm : x ∈ befL E i
  · rw [if_pos hm] at h; rw [if_pos (e.2 hm)]; omega
  · rw [if_neg hm] at h; rw [if_neg (fun h => hm (e.1 h))]; omega
theorem midB_step1 {E : List (List Int)} {o P : List Nat} {x w : Nat} (h1 : cntN E o w = 1) (i : Nat) : (midB E o x P i || decide (i = w)) = midB E o x (P ++ [w]) i := by
  unfold midB
  by_cases e : i = w
  · subst e; simp [h1]
  · simp [e]
theorem midB_step2 {E : List (List Int)} {o P : List Nat} {x w : Nat} (h1 : cntN E o w ≠ 1) (i : Nat) : midB E o x P i = midB E o x (P ++ [w]) i := by
  unfold midB
  by_cases e : i = w
  · subst e; simp [h1]
  · simp [e]
theorem midB_end {E : List (List Int)} {o : List Nat} {x : Nat} (ho : Ord E o) (hx : may E o x = true) (hx' : x < E.length) {i : Nat} (hi : i < E.length) : midB E o x (behL E x) i = may E (o ++ [x]) i := by
  obtain ⟨h1, h2⟩ := may_iff.1 hx
  have e : (i ∈ behL E x) ↔ x ∈ befL E i := by rw [beh_mem, bef_mem]; exact ⟨fun h => ⟨hx', h.2⟩, fun h => ⟨hi, h.2⟩⟩
  have hc := cnt_snoc h1 (E := E) i
  have hself : x ∉ befL E x := fun h => h1 (h2 x h)
  by_cases hix : i = x
  · subst hix
    have : i ∉ behL E i := fun h => hself (e.1 h)
    simp [midB, may, this]
  · by_cases hm : x ∈ befL E i
    · rw [if_pos hm] at hc
      have hio : i ∉ o := by
        intro h
        obtain ⟨k, hk⟩ := List.getElem?_of_mem h
        exact h1 (List.mem_of_mem_take (ho.behind k i hk x hm))
      have hmay : may E o i = false := by
        rw [Bool.eq_false_iff]; intro h; exact h1 ((may_iff.1 h).2 x hm)
      have hb : i ∈ behL E x := e.2 hm
      have e1 : midB E o x (behL E x) i = decide (cntN E o i = 1) := by unfold midB; rw [hmay]; simp [hb]
      have hio' : (o ++ [x]).contains i = false := by simp [hio, hix]
      have e2 : may E (o ++ [x]) i = (cntN E (o ++ [x]) i == 0) := by unfold may; rw [hio']; rfl
      rw [e1, e2, Bool.eq_iff_iff, decide_eq_true_eq, beq_iff_eq]
      omega
    · rw [if_neg hm] at hc
      have hb : i ∉ behL E x := fun h => hm (e.1 h)
      have hcc : cntN E (o ++ [x]) i = cntN E o i := by omega
      simp [midB, may, hb, hix, hcc]
theorem next_of_bits {E : List (List Int)} {o : List Nat} {wd : Nat} (h : ∀ i, i < E.length → wd.testBit i = may E o i) : nextV E o = (bitsL E.length wd).head? := by
  rw [bitsL_of h]
  exact (List.head?_filter ..).symm
theorem ordF_next {E : List (List Int)} {o : List Nat} {x : Nat} (ho : Ord E o) (hx : nextV E o = some x) : ordF E (E.length - o.length) o = ordF E (E.length - (o ++ [x]).length) (o ++ [x]) := by
  have hl := (ho.snoc hx).len
  have e : E.length - o.length = (E.length - (o ++ [x]).length) + 1 := by simp at hl ⊢; omega
  rw [e]
  conv => lhs; unfold ordF
  rw [hx]
theorem ordF_none {E : List (List Int)} {o : List Nat} (f : Nat) (hx : nextV E o = none) : ordF E f o = o := by
  cases f with
  | zero => rfl
  | succ f => unfold ordF; rw [hx]

/-- what the first loop lays -/
def begM (E : List (List Int)) (k : Nat) : List Int := (List.range E.length).map fun i => if i < k then ((befL E i).length : Int) else 0
def begB (E : List (List Int)) (k i : Nat) : Bool := decide (i < k) && decide ((befL E i).length = 0)
theorem begM_zero (E : List (List Int)) : List.replicate E.length (0 : Int) = begM E 0 := by
  unfold begM
  apply List.ext_getElem?
  intro i
  rcases Nat.lt_or_ge i E.length with hi | hi
  · rw [range_map_get _ hi, List.getElem?_replicate, if_pos hi]; simp
  · rw [List.getElem?_eq_none (by simpa using hi), List.getElem?_eq_none (by simpa using hi)]
theorem begM_step {E : List (List Int)} {k : Nat} (hk : k < E.length) : (begM E k).set k ((befL E k).length : Int) = begM E (k + 1) := by
  refine range_map_set hk (by simp) fun i hi hne => ?_
  by_cases h : i < k
  · simp [h, Nat.lt_succ_of_lt h]
  · have : ¬ i < k + 1 := by omega
    simp [h, this]
theorem begM_end (E : List (List Int)) : begM E E.length = missL E [] := by
  apply List.map_congr_left
  intro i hi
  have hi' : i < E.length := by simpa using hi
  rw [if_pos hi', cnt_nil]
theorem begB_step1 {E : List (List Int)} {k : Nat} (h : (befL E k).length = 0) (i : Nat) : (begB E k i || decide (i = k)) = begB E (k + 1) i := by
  unfold begB
  by_cases e : i = k
  · subst e; simp [h]
  · have : decide (i < k + 1) = decide (i < k) := by rw [decide_eq_decide]; omega
    simp [e, this]
theorem begB_step2 {E : List (List Int)} {k : Nat} (h : (befL E k).length ≠ 0) (i : Nat) : begB E k i = begB E (k + 1) i := by
  unfold begB
  by_cases e : i = k
  · subst e
    have : befL E i ≠ [] := fun e => h (by rw [e]; rfl)
    simp [this]
  · have : decide (i < k + 1) = decide (i < k) := by rw [decide_eq_decide]; omega
    rw [this]
theorem begB_end {E : List (List Int)} {i : Nat} (hi : i < E.length) : begB E E.length i = may E [] i := by
  unfold begB may
  rw [cnt_nil]
  have : decide ((befL E i).length = 0) = ((befL E i).length == 0) := by rw [Bool.eq_iff_iff, decide_eq_true_eq, beq_iff_eq]
  rw [this]
  simp [hi]

/-! One arc and more; what is come to from some, over arcs. -/
set_option linter.unusedVariables false

def PlusN (a : Nat → Nat → Bool) : Nat → Nat → Nat → Prop
  | 0, v, u => a v u = true
  | n + 1, v, u => ∃ x, PlusN a n v x ∧ a x u = true
def Plus (a : Nat → Nat → Bool) (v u : Nat) : Prop := ∃ n, PlusN a n v u
theorem Plus.one {a : Nat → Nat → Bool} {v u : Nat} (h : a v u = true) : Plus a v u := ⟨0, h⟩
theorem Plus.step {a : Nat → Nat → Bool} {v x u : Nat} (h : Plus a v x) (k : a x u = true) : Plus a v u := by
  obtain ⟨n, h⟩ := h
  exact ⟨n + 1, x, h, k⟩
theorem Plus.ind {a : Nat → Nat → Bool} {M : Nat → Prop} {v u : Nat} (h : Plus a v u) (h1 : ∀ u, a v u = true → M u) (h2 : ∀ x u, Plus a v x → M x → a x u = true → M u) : M u := by
  obtain ⟨n, h⟩ := h
  induction n generalizing u with
  | zero => exact h1 u h
  | succ n ih =>
    obtain ⟨x, h3, h4⟩ := h
    exact h2 x u ⟨n, h3⟩ (ih h3) h4
theorem Plus.trans {a : Nat → Nat → Bool} {v x u : Nat} (h : Plus a v x) (k : Plus a x u) : Plus a v u :=
  k.ind (M := Plus a v) (fun u h1 => h.step h1) fun y u _ ih h1 => ih.step h1
theorem Plus.head {a : Nat → Nat → Bool} {v x u : Nat} (h : a v x = true) (k : Plus a x u) : Plus a v u := (Plus.one h).trans k
theorem Plus.closed {a : Nat → Nat → Bool} {T : Nat → Prop} {v u : Nat} (h : Plus a v u) (h1 : ∀ u, a v u = true → T u) (h2 : ∀ x u, T x → a x u = true → T u) : T u :=
  h.ind h1 fun x u _ ih h => h2 x u ih h
theorem Plus.mono {a b : Nat → Nat → Bool} {v u : Nat} (h : Plus a v u) (hab : ∀ x y, a x y = true → b x y = true) : Plus b v u :=
  h.ind (M := Plus b v) (fun u h => .one (hab _ _ h)) fun x u _ ih h => .step ih (hab _ _ h)
theorem Plus.flip {a b : Nat → Nat → Bool} {v u : Nat} (h : Plus a v u) (hab : ∀ x y, a x y = true → b y x = true) : Plus b u v :=
  h.ind (M := fun u => Plus b u v) (fun u h => .one (hab _ _ h)) fun x u _ ih h => (Plus.one (hab _ _ h)).trans ih
theorem Plus.lt {E : List (List Int)} (hE : Valid E) {v u : Nat} (h : Plus (arc E) v u) : v < E.length ∧ u < E.length :=
  h.ind (M := fun u => v < E.length ∧ u < E.length) (fun u h => ⟨arc_lt h, hE.arc h⟩) fun x u _ ih h => ⟨ih.1, hE.arc h⟩

/-- what is come to from some of l, over one arc or more -/
def FarP (es : List (List Int)) (l : List Int) (u : Nat) : Prop := ∃ s : Nat, s < es.length ∧ (s : Int) ∈ l ∧ Plus (arc es) s u

def insL (ls : List Nat) (u : Nat) : List Nat := if u ∈ ls then ls else ls ++ [u]
theorem insL_in {ls : List Nat} {u : Nat} (h : u ∈ ls) : insL ls u = ls := if_pos h
theorem insL_out {ls : List Nat} {u : Nat} (h : u ∉ ls) : insL ls u = ls ++ [u] := if_neg h
theorem insL_mem {ls : List Nat} {u v : Nat} : v ∈ insL ls u ↔ v ∈ ls ∨ v = u := by
  unfold insL
  split
  · exact ⟨Or.inl, fun h => by rcases h with h | rfl <;> assumption⟩
  · simp
theorem insL_nodup {ls : List Nat} {u : Nat} (h : ls.Nodup) : (insL ls u).Nodup := by
  unfold insL
  split
  · exact h
  · rename_i hu
    rw [List.nodup_append]
    exact ⟨h, by simp, fun a ha b hb e => by simp at hb; subst hb e; exact hu ha⟩
theorem insL_take {ls : List Nat} {u i : Nat} (h : i ≤ ls.length) : (insL ls u).take i = ls.take i := by
  unfold insL
  split
  · rfl
  · exact List.take_append_of_le_length h
theorem insL_get {ls : List Nat} {u i x : Nat} (h : ls[i]? = some x) : (insL ls u)[i]? = some x := by
  unfold insL
  split
  · exact h
  · rw [List.getElem?_append_left (List.getElem?_eq_some_iff.1 h).1]; exact h
theorem insL_len {ls : List Nat} {u : Nat} : ls.length ≤ (insL ls u).length := by
  unfold insL
  split
  · exact Nat.le_refl _
  · simp

/-- the state of the search: the list, and what was found from its first i ones, and from the first j arcs of the next -/
structure Srch (es : List (List Int)) (l : List Int) (ls : List Nat) (i j : Nat) (f : Nat → Bool) : Prop where
  nodup : ls.Nodup
  lt : ∀ u ∈ ls, u < es.length
  from_ : ∀ u ∈ ls, (u : Int) ∈ l ∨ FarP es l u
  start : ∀ u : Nat, u < es.length → (u : Int) ∈ l → u ∈ ls
  found : ∀ u, u < es.length → (f u = true ↔ (∃ x ∈ ls.take i, arc es x u = true) ∨ ∃ x, ls[i]? = some x ∧ (u : Int) ∈ (row es x).take j)
  inn : ∀ u, u < es.length → f u = true → u ∈ ls
theorem Srch.step {es : List (List Int)} {l : List Int} {ls : List Nat} {i j : Nat} {f g : Nat → Bool} (h : Srch es l ls i j f) (hE : Valid es) {x u : Nat} (hx : ls[i]? = some x) (hu : (row es x)[j]? = some (u : Int)) (hg : ∀ v, v < es.length → g v = (f v || decide (v = u))) :
    Srch es l (insL ls u) i (j + 1) g := by
  have hxm : x ∈ ls := List.mem_of_getElem? hx
  have hxl := h.lt x hxm
  have ha : arc es x u = true := arc_iff.2 (List.mem_of_getElem? hu)
  have hul := hE.arc ha
  have hil : i ≤ ls.length := Nat.le_of_lt (List.getElem?_eq_some_iff.1 hx).1
  have ht : (row es x).take (j + 1) = (row es x).take j ++ [(u : Int)] := by rw [List.take_add_one, hu]; rfl
  refine ⟨insL_nodup h.nodup, fun v hv => ?_, fun v hv => ?_, fun v hv hl => insL_mem.2 (Or.inl (h.start v hv hl)), fun v hv => ?_, fun v hv hgv => ?_⟩
  · rcases insL_mem.1 hv with hv | rfl
    · exact h.lt v hv
    · exact hul
  · rcases insL_mem.1 hv with hv | rfl
    · exact h.from_ v hv
    · refine Or.inr ?_
      rcases h.from_ x hxm with h1 | ⟨s, h1, h2, h3⟩
      · exact ⟨x, hxl, h1, .one ha⟩
      · exact ⟨s, h1, h2, .step h3 ha⟩
  · rw [hg v hv, Bool.or_eq_true, h.found v hv, decide_eq_true_eq, insL_take hil, insL_get hx, hx]
    constructor
    · rintro ((h1 | ⟨y, hy, h2⟩) | rfl)
      · exact Or.inl h1
      · injection hy with hy
        subst hy
        exact Or.inr ⟨x, rfl, by rw [ht]; exact List.mem_append_left _ h2⟩
      · exact Or.inr ⟨x, rfl, by rw [ht]; simp⟩
    · rintro (h1 | ⟨y, hy, h2⟩)
      · exact Or.inl (Or.inl h1)
      · injection hy with hy
        subst hy
        rw [ht] at h2
        rcases List.mem_append.1 h2 with h2 | h2
        · exact Or.inl (Or.inr ⟨x, rfl, h2⟩)
        · simp at h2
          exact Or.inr (by omega)
  · rw [hg v hv, Bool.or_eq_true, decide_eq_true_eq] at hgv
    rcases hgv with hgv | rfl
    · exact insL_mem.2 (Or.inl (h.inn v hv hgv))
    · exact insL_mem.2 (Or.inr rfl)
theorem Srch.next {es : List (List Int)} {l : List Int} {ls : List Nat} {i : Nat} {f : Nat → Bool} {x : Nat} (h : Srch es l ls i (row es x).length f) (hx : ls[i]? = some x) : Srch es l ls (i + 1) 0 f := by
  refine ⟨h.nodup, h.lt, h.from_, h.start, fun v hv => ?_, h.inn⟩
  rw [h.found v hv, List.take_add_one, hx]
  constructor
  · rintro (⟨y, hy, ha⟩ | ⟨y, hy, ha⟩)
    · exact Or.inl ⟨y, List.mem_append_left _ hy, ha⟩
    · injection hy with hy
      subst hy
      rw [List.take_length] at ha
      exact Or.inl ⟨x, by simp, arc_iff.2 ha⟩
  · rintro (⟨y, hy, ha⟩ | ⟨y, _, ha⟩)
    · rcases List.mem_append.1 hy with hy | hy
      · exact Or.inl ⟨y, hy, ha⟩
      · simp at hy
        subst hy
        exact Or.inr ⟨y, rfl, by rw [List.take_length]; exact arc_iff.1 ha⟩
    · simp at ha
theorem Srch.done {es : List (List Int)} {l : List Int} {ls : List Nat} {f : Nat → Bool} (h : Srch es l ls ls.length 0 f) (hE : Valid es) {u : Nat} (hu : u < es.length) : f u = true ↔ FarP es l u := by
  have hf : ∀ v, v < es.length → (f v = true ↔ ∃ x ∈ ls, arc es x v = true) := by
    intro v hv
    rw [h.found v hv, List.take_length]
    constructor
    · rintro (h1 | ⟨x, _, h2⟩)
      · exact h1
      · simp at h2
    · exact Or.inl
  constructor
  · intro h1
    obtain ⟨x, hx, ha⟩ := (hf u hu).1 h1
    rcases h.from_ x hx with h2 | ⟨s, h2, h3, h4⟩
    · exact ⟨x, h.lt x hx, h2, .one ha⟩
    · exact ⟨s, h2, h3, .step h4 ha⟩
  · rintro ⟨s, h1, h2, h3⟩
    exact Plus.closed (T := fun v => f v = true) h3 (fun v hv => (hf v (hE.arc hv)).2 ⟨s, h.start s h1 h2, hv⟩)
      fun x v hx hv => (hf v (hE.arc hv)).2 ⟨x, h.inn x (arc_lt hv) hx, hv⟩

/-- the start: those of l that are there -/
structure Strt (es : List (List Int)) (l : List Int) (ls : List Nat) (k : Nat) : Prop where
  nodup : ls.Nodup
  mem : ∀ u, u ∈ ls ↔ u < es.length ∧ (u : Int) ∈ l.take k
theorem Strt.zero (es : List (List Int)) (l : List Int) : Strt es l [] 0 := ⟨List.nodup_nil, by simp⟩
theorem Strt.in_ {es : List (List Int)} {l : List Int} {ls : List Nat} {k u : Nat} (h : Strt es l ls k) (hu : l[k]? = some (u : Int)) (hl : u < es.length) : Strt es l (insL ls u) (k + 1) := by
  have ht : l.take (k + 1) = l.take k ++ [(u : Int)] := by rw [List.take_add_one, hu]; rfl
  refine ⟨insL_nodup h.nodup, fun v => ?_⟩
  rw [insL_mem, h.mem, ht]
  constructor
  · rintro (⟨h1, h2⟩ | rfl)
    · exact ⟨h1, List.mem_append_left _ h2⟩
    · exact ⟨hl, by simp⟩
  · rintro ⟨h1, h2⟩
    rcases List.mem_append.1 h2 with h2 | h2
    · exact Or.inl ⟨h1, h2⟩
    · simp at h2; exact Or.inr (by omega)
theorem Strt.out {es : List (List Int)} {l : List Int} {ls : List Nat} {k : Nat} {x : Int} (h : Strt es l ls k) (hu : l[k]? = some x) (hl : ¬ (0 ≤ x ∧ x < (es.length : Int))) : Strt es l ls (k + 1) := by
  have ht : l.take (k + 1) = l.take k ++ [x] := by rw [List.take_add_one, hu]; rfl
  refine ⟨h.nodup, fun v => ?_⟩
  rw [h.mem, ht]
  constructor
  · rintro ⟨h1, h2⟩; exact ⟨h1, List.mem_append_left _ h2⟩
  · rintro ⟨h1, h2⟩
    rcases List.mem_append.1 h2 with h2 | h2
    · exact ⟨h1, h2⟩
    · simp at h2; omega
theorem Strt.end_ {es : List (List Int)} {l : List Int} {ls : List Nat} (h : Strt es l ls l.length) : Srch es l ls 0 0 (fun _ => false) := by
  have hm : ∀ u, u ∈ ls ↔ u < es.length ∧ (u : Int) ∈ l := by intro u; rw [h.mem, List.take_length]
  exact ⟨h.nodup, fun u hu => ((hm u).1 hu).1, fun u hu => Or.inl ((hm u).1 hu).2, fun u h1 h2 => (hm u).2 ⟨h1, h2⟩, by simp, by simp⟩

end Go.Proofs.YtgejonmjmieglaaDoor.Dag
namespace Go.Proofs.YtgejonmjmieglaaDoor.Dag
set_option maxRecDepth 100000
/-! Slices in memory: what they hold; rows that the call made; rows of such rows; append onto these. -/
open Go.RowKit
set_option linter.unusedVariables false

theorem blw {w w1 w2 : World} (h : Below w.heap.size w w1) (k : Below w1.heap.size w1 w2) : Below w.heap.size w w2 := h.trans (k.mono h.size)
theorem blk_lt {w : World} {g : Nat} {o : Obj} (h : w.heap[g]? = some o) : g < w.heap.size := (Array.getElem?_eq_some_iff.1 h).1
theorem blk_cell {w : World} {g : Nat} {cs : Array Value} {t : TypeId} (h : w.heap[g]? = some (.cells cs t (0, 0))) (i : Nat) : w.cell? ⟨g, i, none⟩ = cs[i]? := cell_of_row w g i cs t (0, 0) h
theorem blk_frozen {w : World} {g : Nat} {cs : Array Value} {t : TypeId} (h : w.heap[g]? = some (.cells cs t (0, 0))) (i : Nat) : w.frozen? ⟨g, i, none⟩ = false := by simp [World.frozen?, h]
theorem blk_set {w : World} {g : Nat} {cs : Array Value} {t : TypeId} (h : w.heap[g]? = some (.cells cs t (0, 0))) (i : Nat) (u : Value) : (w.setCell ⟨g, i, none⟩ u).heap[g]? = some (.cells (cs.setIfInBounds i u) t (0, 0)) := by
  simp [World.setCell, Array.getElem?_modify, h]
theorem blk_other {w : World} {g b i : Nat} {u : Value} (h : g ≠ b) : (w.setCell ⟨b, i, none⟩ u).heap[g]? = w.heap[g]? := Below.heap_setCell _ _ _ _ h

/-- '.slice A us.length c' holds the values us, one cell each -/
structure Sl (w : World) (A : Option Addr) (c : Nat) (us : List Value) : Prop where
  cells : ∀ k u, us[k]? = some u → ∃ b off, A = some ⟨b, off, none⟩ ∧ w.cell? ⟨b, off + k, none⟩ = some u
  cap : us.length ≤ c
  top : c ≤ maxLen
  nil : A = none → c = 0
section
variable {w w' : World} {A : Option Addr} {c : Nat} {us : List Value}
theorem Sl.empty (w : World) : Sl w none 0 [] := ⟨fun k x h => by simp at h, Nat.le_refl _, Nat.zero_le _, fun _ => rfl⟩
theorem Sl.below (h : Sl w A c us) (hb : Below w.heap.size w w') : Sl w' A c us := by
  refine ⟨fun k x hx => ?_, h.cap, h.top, h.nil⟩
  obtain ⟨b, off, e, hc⟩ := h.cells k x hx
  exact ⟨b, off, e, (hb.cell (p := ⟨b, off + k, none⟩) (World.block_lt_of_cell? w _ hc)).trans hc⟩
theorem Sl.at_ (h : Sl w A c us) {k : Nat} (hk : k < us.length) : ∃ b off u, A = some ⟨b, off, none⟩ ∧ us[k]? = some u ∧ w.cell? ⟨b, off + k, none⟩ = some u := by
  have hx : us[k]? = some us[k] := List.getElem?_eq_getElem hk
  obtain ⟨b, off, e, hc⟩ := h.cells k _ hx
  exact ⟨b, off, _, e, hx, hc⟩
end
theorem Sl.nilAny (w : World) (A : Option Addr) (c : Nat) (hc : c ≤ maxLen) (hn : A = none → c = 0) : Sl w A c [] := ⟨fun k x h => by simp at h, Nat.zero_le _, hc, hn⟩

def ints (xs : List Int) : List Value := xs.map (Value.int .i64)
theorem ints_len (xs : List Int) : (ints xs).length = xs.length := by simp [ints]
theorem ints_app (a b : List Int) : ints (a ++ b) = ints a ++ ints b := by simp [ints]
theorem ints_get {xs : List Int} {k : Nat} {x : Int} (h : xs[k]? = some x) : (ints xs)[k]? = some (.int .i64 x) := by simp [ints, h]
theorem ints_get' {xs : List Int} {k : Nat} {u : Value} (h : (ints xs)[k]? = some u) : ∃ x, xs[k]? = some x ∧ u = .int .i64 x := by
  unfold ints at h
  rw [List.getElem?_map] at h
  cases hx : xs[k]? with
  | none => rw [hx] at h; cases h
  | some x => rw [hx] at h; injection h with h; exact ⟨x, rfl, h.symm⟩
theorem ints_one (xs : List Int) : ∀ u ∈ ints xs, u.oneCell' = true := by
  intro u hu
  obtain ⟨y, _, rfl⟩ := List.mem_map.1 hu
  rfl
def Ints (w : World) (A : Option Addr) (c : Nat) (xs : List Int) : Prop := Sl w A c (ints xs)
section
variable {w w' : World} {A : Option Addr} {c : Nat} {xs : List Int}
theorem Ints.empty (w : World) : Ints w none 0 [] := Sl.empty w
theorem Ints.below (h : Ints w A c xs) (hb : Below w.heap.size w w') : Ints w' A c xs := Sl.below h hb
theorem Ints.len (h : Ints w A c xs) : xs.length ≤ c := by have := Sl.cap h; rwa [ints_len] at this
theorem Ints.at_ (h : Ints w A c xs) {k : Nat} (hk : k < xs.length) : ∃ b off x, A = some ⟨b, off, none⟩ ∧ xs[k]? = some x ∧ w.cell? ⟨b, off + k, none⟩ = some (.int .i64 x) := by
  obtain ⟨b, off, u, e, hu, hc⟩ := Sl.at_ h (k := k) (by rw [ints_len]; exact hk)
  obtain ⟨x, hx, rfl⟩ := ints_get' hu
  exact ⟨b, off, x, e, hx, hc⟩
end

/-- '.slice A ls.length c' holds slices that hold the lists ls -/
structure IRows (w : World) (A : Option Addr) (c : Nat) (ls : List (List Int)) : Prop where
  cells : ∀ k xs, ls[k]? = some xs → ∃ b off A' c', A = some ⟨b, off, none⟩ ∧ w.cell? ⟨b, off + k, none⟩ = some (.slice A' xs.length c') ∧ Ints w A' c' xs
  cap : ls.length ≤ c
  top : c ≤ maxLen
  nil : A = none → c = 0
section
variable {w w' : World} {A : Option Addr} {c : Nat} {ls : List (List Int)}
theorem IRows.empty (w : World) : IRows w none 0 [] := ⟨fun k x h => by simp at h, Nat.le_refl _, Nat.zero_le _, fun _ => rfl⟩
theorem IRows.below (h : IRows w A c ls) (hb : Below w.heap.size w w') : IRows w' A c ls := by
  refine ⟨fun k x hx => ?_, h.cap, h.top, h.nil⟩
  obtain ⟨b, off, A', c', e, hc, hi⟩ := h.cells k x hx
  exact ⟨b, off, A', c', e, (hb.cell (p := ⟨b, off + k, none⟩) (World.block_lt_of_cell? w _ hc)).trans hc, hi.below hb⟩
theorem IRows.at_ (h : IRows w A c ls) {k : Nat} (hk : k < ls.length) :
    ∃ b off A' c' xs, A = some ⟨b, off, none⟩ ∧ ls[k]? = some xs ∧ w.cell? ⟨b, off + k, none⟩ = some (.slice A' xs.length c') ∧ Ints w A' c' xs := by
  have hx : ls[k]? = some ls[k] := List.getElem?_eq_getElem hk
  obtain ⟨b, off, A', c', e, hc, hi⟩ := h.cells k _ hx
  exact ⟨b, off, A', c', _, e, hx, hc, hi⟩
end

/-! rows that the call made -/
abbrev Own1 (w : World) (base : Nat) (e : TypeId) (v : Value) (us : List Value) : Prop := w.ownsRow base e 1 v us.length us
theorem own_len {w : World} {base : Nat} {e : TypeId} {v : Value} {n : Nat} {us : List Value} (h : w.ownsRow base e 1 v n us) : us.length = n := by have := h.1; omega
section
variable {w w' : World} {base : Nat} {e : TypeId} {v : Value} {us : List Value}
theorem Own1.nil (w : World) (base : Nat) (e : TypeId) : Own1 w base e (.slice none 0 0) [] := World.ownsRow_nil w base e 1
theorem Own1.keep (h : Own1 w base e v us) (hk : ∀ b, v.ownBlock = some b → w'.heap[b]? = w.heap[b]?) : Own1 w' base e v us := by
  refine ⟨h.1, ?_⟩
  rcases h.2 with h0 | ⟨g, cap, cur, hv, hbg, hh, rest⟩
  · exact Or.inl h0
  · exact Or.inr ⟨g, cap, cur, hv, hbg, by rw [hk g (by rw [hv]; rfl)]; exact hh, rest⟩
theorem Own1.lt (h : Own1 w base e v us) {b : Nat} (hb : v.ownBlock = some b) : base ≤ b ∧ b < w.heap.size := World.ownsRow.lt h b hb
theorem Own1.below (h : Own1 w base e v us) (hb : Below w.heap.size w w') : Own1 w' base e v us := h.keep fun b e => hb.block b (h.lt e).2
theorem Own1.rebase (h : Own1 w base e v us) {base' : Nat} (hb : base' ≤ base) : Own1 w base' e v us := by
  refine ⟨h.1, ?_⟩
  rcases h.2 with h0 | ⟨g, cap, cur, hv, hbg, rest⟩
  · exact Or.inl h0
  · exact Or.inr ⟨g, cap, cur, hv, Nat.le_trans hb hbg, rest⟩
/-- its block bears its type -/
theorem Own1.typed (h : Own1 w base e v us) {b : Nat} (hb : v.ownBlock = some b) : ∃ cs, w.heap[b]? = some (.cells cs e (0, 0)) := by
  rcases h.2 with ⟨hv, _⟩ | ⟨g, cap, cur, hv, _, hh, _⟩
  · rw [hv] at hb; cases hb
  · rw [hv] at hb; injection hb with hb; subst hb; exact ⟨_, hh⟩
theorem Own1.slice (h : Own1 w base e v us) : ∃ A c, v = .slice A us.length c ∧ Sl w A c us ∧ (A = none ∨ ∃ g, A = some ⟨g, 0, none⟩) := by
  rcases h.2 with ⟨hv, hn⟩ | ⟨g, cap, cur, hv, hbg, hh, hnc, hcm, hcs, htake⟩
  · have hx : us = [] := List.eq_nil_of_length_eq_zero hn
    subst hx
    exact ⟨none, 0, hv, Sl.empty _, Or.inl rfl⟩
  · refine ⟨_, cap, hv, ⟨fun k u hu => ?_, hnc, hcm, fun e => by cases e⟩, Or.inr ⟨g, rfl⟩⟩
    refine ⟨g, 0, rfl, ?_⟩
    rw [Nat.zero_add, cell_of_row w g k cur _ (0, 0) hh]
    have hk : k < us.length := (List.getElem?_eq_some_iff.1 hu).1
    have e' : (cur.toList.take (us.length * 1))[k]? = some u := by rw [htake]; exact hu
    rw [List.getElem?_take, if_pos (by omega)] at e'
    rw [← e', Array.getElem?_toList]
theorem Own1.sl {A : Option Addr} {n c : Nat} (h : Own1 w base e (.slice A n c) us) : n = us.length ∧ Sl w A c us := by
  obtain ⟨A', c', e1, h1, _⟩ := h.slice
  injection e1 with a b c
  subst a b c
  exact ⟨rfl, h1⟩
/-- one cell of it -/
theorem Own1.at_ {A : Option Addr} {n c k : Nat} {u : Value} (h : Own1 w base e (.slice A n c) us) (hk : us[k]? = some u) :
    ∃ g, A = some ⟨g, 0, none⟩ ∧ base ≤ g ∧ g < w.heap.size ∧ w.cell? ⟨g, k, none⟩ = some u ∧ w.frozen? ⟨g, k, none⟩ = false ∧ (∃ cs, w.heap[g]? = some (.cells cs e (0, 0))) ∧
      (∀ x, Own1 (w.setCell ⟨g, k, none⟩ x) base e (.slice A n c) (us.set k x)) := by
  have hh := h
  obtain ⟨hn, hs⟩ := h.sl
  obtain ⟨b, off, e1, hc⟩ := hs.cells k u hk
  rcases h.2 with ⟨hv, h0⟩ | ⟨g, cap, cur, hv, hbg, hg, _⟩
  · rw [List.eq_nil_of_length_eq_zero h0] at hk; simp at hk
  · injection hv with a1 a2 a3
    subst a1 a2 a3
    injection e1 with e1
    injection e1 with e1 e2
    subst e1 e2
    rw [Nat.zero_add] at hc
    refine ⟨_, rfl, hbg, blk_lt hg, hc, blk_frozen hg k, ⟨_, hg⟩, fun x => ?_⟩
    have := (World.ownsRow.stored hh k x).1
    unfold Own1
    rw [List.length_set]
    exact this
end
theorem Own1.lit (w : World) (base : Nat) (e : TypeId) (hb : base ≤ w.heap.size) (us : List Value) (hl : us.length ≤ maxLen) :
    Own1 (w.alloc (.cells us.toArray e)) base e (.slice (some ⟨w.heap.size, 0, none⟩) us.length us.length) us := by
  have := World.ownsRow_lit (base := base) (e := e) (size := 1) w us.toArray us.length hb hl (by simp)
  simpa using this
theorem Own1.litm (w : World) (base : Nat) (e : TypeId) (hb : base ≤ w.heap.size) (us : List Value) {n g : Nat} (hn : us.length = n) (hg : w.heap.size = g) (hl : n ≤ maxLen) :
    Own1 (w.alloc (.cells us.toArray e)) base e (.slice (some ⟨g, 0, none⟩) n n) us := by
  subst hn hg; exact Own1.lit w base e hb us hl

abbrev OwnI (w : World) (base : Nat) (v : Value) (xs : List Int) : Prop := Own1 w base 3 v (ints xs)
theorem OwnI.ints {w : World} {base : Nat} {v : Value} {xs : List Int} (h : OwnI w base v xs) : ∃ A c, v = .slice A xs.length c ∧ Ints w A c xs := by
  obtain ⟨A, c, e, hs, _⟩ := Own1.slice h
  rw [ints_len] at e
  exact ⟨A, c, e, hs⟩
theorem OwnI.ints' {w : World} {base n c : Nat} {A : Option Addr} {xs : List Int} (h : OwnI w base (.slice A n c) xs) : n = xs.length ∧ Ints w A c xs := by
  obtain ⟨A', c', e1, h1⟩ := h.ints
  injection e1 with a b c
  subst a b c
  exact ⟨rfl, h1⟩

theorem info_int : (Tryd.prog.info? 3).map (fun i => (i.zero, i.size, i.bytes)) = some (some (.int .i64 0), 1, 8) := by kernel_rfl
theorem info_bool : (Tryd.prog.info? 4).map (fun i => (i.zero, i.size, i.bytes)) = some (some (.bool false), 1, 1) := by kernel_rfl
theorem info_u64 : (Tryd.prog.info? 124).map (fun i => (i.zero, i.size, i.bytes)) = some (some (.int .u64 0), 1, 8) := by kernel_rfl
theorem info_is : (Tryd.prog.info? 25).map (fun i => (i.zero, i.size, i.bytes)) = some (some (.slice none 0 0), 1, 24) := by kernel_rfl
theorem info_bs : (Tryd.prog.info? 62).map (fun i => (i.zero, i.size, i.bytes)) = some (some (.slice none 0 0), 1, 24) := by kernel_rfl
theorem info_set : (Tryd.prog.info? 113).map (fun i => (i.zero, i.size, i.bytes)) = some (some (.slice none 0 0), 1, 24) := by kernel_rfl

/-- append onto a row of the call's own; the source may be nil, empty, or neither -/
theorem wpList_appG {w : World} {ops : Array Oper} {rest : List Oper} {o : Oper} {a : Act} {Q : Exit → Act → World → Prop} (hgd : o.guard = none) (s x : Operand) (t e : TypeId) (z : Value) (bytes : Nat)
    (hu : Tryd.prog.underlying t = some (.slice e)) (hinfo : (Tryd.prog.info? e).map (fun i => (i.zero, i.size, i.bytes)) = some (some z, 1, bytes)) (hz : z.cells.size = 1)
    (ho : o.op = .call { callee := .builtin .append, args := #[s, x], argTypes := #[t, t] })
    (base : Nat) (v : Value) (us : List Value) (hs : a.eval s = v) (hown : Own1 w base e v us) (A : Option Addr) (c m : Nat) (zs : List Value) (hm : zs.length = m) (hx : a.eval x = .slice A m c)
    (hr : Sl w A c zs) (hone : ∀ u ∈ zs, u.oneCell' = true) (hlen : us.length + zs.length ≤ maxLen) (hlb : (us.length + zs.length) * bytes ≤ 140737488355328) (hbase : base ≤ w.heap.size)
    (h : ∀ (l : List Value) (A' : Option Addr) (c' : Nat) (w' : World), l = us ++ zs → Own1 w' base e (.slice A' l.length c') l → w.grownBy w' v.ownBlock → ((Value.slice A' l.length c').ownBlock = v.ownBlock ∨ (Value.slice A' l.length c').ownBlock = some w.heap.size) → Below base w w' →
      wpList Tryd.prog ops Q rest (a.put o.dst (.slice A' l.length c')) w') :
    wpList Tryd.prog ops Q (o :: rest) a w := by
  subst hm
  obtain ⟨i0, hi0, hz0, hz1, hz2⟩ := info_parts hinfo
  have fin : ∀ (v' : Value) (w' : World), w'.ownsRow base e 1 v' (us.length + zs.length) (us ++ zs) → w.grownBy w' v.ownBlock → (v'.ownBlock = v.ownBlock ∨ v'.ownBlock = some w.heap.size) →
      wpList Tryd.prog ops Q rest (a.put o.dst v') w' := by
    intro v' w' hown' hg hb
    have ho' : Own1 w' base e v' (us ++ zs) := by unfold Own1; rw [List.length_append]; exact hown'
    obtain ⟨A', c', hv', _⟩ := ho'.slice
    subst hv'
    exact h _ A' c' w' rfl ho' hg hb ((Below.refl _ _).grown hg hbase fun k hk => (Own1.lt hown hk).1)
  rcases A with _ | ad
  · have hc0 := hr.nil rfl
    have hz' : zs = [] := List.eq_nil_of_length_eq_zero (by have := hr.cap; omega)
    subst hz'
    subst hc0
    refine wpList_append_own_none hgd s x _ ho base _ i0 1 hu hi0 v us.length _ hs hown hx ?_
    exact fin v w (by simpa using hown) (World.grownBy.refl _ _) (Or.inl rfl)
  · refine wpList_append_own_at w hgd s x _ ho base _ i0 z 1 bytes hu hi0 hz0 hz1 hz2 hz (by decide) v us.length _ hs hown ad zs.length c zs hx (by simp) ?_ hone hlen ?_ hbase ?_
    · intro j u hu'
      obtain ⟨b, off, e, hc⟩ := hr.cells j u hu'
      injection e with e
      subst e
      rw [Go.WideShapes.add_plain, hc]
    · exact hlb
    · intro v' w' hown' hg _ hb
      exact fin v' w' hown' hg hb

/-- the same, for at most a hundred million elements -/
theorem wpList_appg {w : World} {ops : Array Oper} {rest : List Oper} {o : Oper} {a : Act} {Q : Exit → Act → World → Prop} (hgd : o.guard = none) (s x : Operand) (t e : TypeId) (z : Value) (bytes : Nat)
    (hu : Tryd.prog.underlying t = some (.slice e)) (hinfo : (Tryd.prog.info? e).map (fun i => (i.zero, i.size, i.bytes)) = some (some z, 1, bytes)) (hz : z.cells.size = 1) (hby : bytes ≤ 24)
    (ho : o.op = .call { callee := .builtin .append, args := #[s, x], argTypes := #[t, t] })
    (base : Nat) (v : Value) (us : List Value) (hs : a.eval s = v) (hown : Own1 w base e v us) (A : Option Addr) (c m : Nat) (zs : List Value) (hm : zs.length = m) (hx : a.eval x = .slice A m c)
    (hr : Sl w A c zs) (hone : ∀ u ∈ zs, u.oneCell' = true) (hlen : us.length + zs.length ≤ 100000000) (hbase : base ≤ w.heap.size)
    (h : ∀ (l : List Value) (A' : Option Addr) (c' : Nat) (w' : World), l = us ++ zs → Own1 w' base e (.slice A' l.length c') l → w.grownBy w' v.ownBlock → ((Value.slice A' l.length c').ownBlock = v.ownBlock ∨ (Value.slice A' l.length c').ownBlock = some w.heap.size) → Below base w w' →
      wpList Tryd.prog ops Q rest (a.put o.dst (.slice A' l.length c')) w') :
    wpList Tryd.prog ops Q (o :: rest) a w :=
  wpList_appG hgd s x t e z bytes hu hinfo hz ho base v us hs hown A c m zs hm hx hr hone (Nat.le_trans hlen (by decide)) (Nat.le_trans (Nat.mul_le_mul hlen hby) (by decide)) hbase h

theorem made_one (z : Value) (hz : z.cells = #[z]) (n : Nat) : madeCells z.cells n = Array.replicate n z := by
  apply Array.ext
  · simp [madeCells, hz]
  · intro i h1 h2
    simp [madeCells, hz, Nat.mod_one]
/-- make of n elements -/
theorem run_mk (W : World) (t e : TypeId) (z : Value) (bytes : Nat) (hu : Tryd.prog.underlying t = some (.slice e)) (hinfo : (Tryd.prog.info? e).map (fun i => (i.zero, i.size, i.bytes)) = some (some z, 1, bytes)) (hz : z.cells = #[z]) (hby : bytes ≤ 24)
    (n : Nat) (hn : n ≤ 1000000) (x y : Int) (hx : x = (n : Int)) (hy : y = (n : Int)) :
    (Instr.makeSlice t (.int .i64 x) (.int .i64 y)).run Tryd.prog W = .ok (.slice (some ⟨W.heap.size, 0, none⟩) n n) (W.alloc (.cells (Array.replicate n z) e)) := by
  subst hx hy
  obtain ⟨i0, hi0, hz0, hz1, hz2⟩ := info_parts hinfo
  have hb : n * bytes ≤ 1000000 * 24 := Nat.mul_le_mul hn hby
  have hb2 : (i0.bytes : Int) * (n : Int) ≤ 281474976710656 := by
    rw [hz2, Int.mul_comm, ← Int.natCast_mul]
    omega
  have h := run_makeSlice (P := Tryd.prog) W t e i0 z hu hi0 hz0 .i64 .i64 (n : Int) (n : Int) (by omega) (by omega) (by rw [hz1]; omega) hb2 (by omega)
  rw [h, hz1, Int.toNat_natCast, Nat.mul_one, made_one z hz]
theorem Own1.make (w : World) (base : Nat) (e : TypeId) (hb : base ≤ w.heap.size) (n : Nat) (hn : n ≤ 1000000) (z : Value) {g : Nat} (hg : w.heap.size = g) :
    Own1 (w.alloc (.cells (Array.replicate n z) e)) base e (.slice (some ⟨g, 0, none⟩) n n) (List.replicate n z) := by
  have := Own1.litm w base e hb (List.replicate n z) (n := n) (by simp) hg (by simp only [maxLen]; omega)
  simpa using this
/-- a literal of one element, where it lies -/
theorem Sl.one {w : World} {e : TypeId} {u : Value} {g : Nat} (hg : w.heap.size = g) : Sl (w.alloc (.cells #[u] e)) (some ⟨g, 0, none⟩) 1 [u] := by
  subst hg
  refine ⟨fun k x hx => ?_, Nat.le_refl _, by simp [maxLen], fun e => by cases e⟩
  match k, hx with
  | 0, hx =>
    simp at hx; subst hx
    exact ⟨_, 0, rfl, (cell_of_row _ _ _ _ _ (0, 0) (heap_alloc_new w _)).trans rfl⟩
  | k + 1, hx => simp at hx


/-! Sets of many numbers as words of 64: in plain words. -/
def wdN (wd i : Nat) : Nat := (wd >>> (64 * i)) % 18446744073709551616
theorem wdN_lt (wd i : Nat) : wdN wd i < 18446744073709551616 := Nat.mod_lt _ (by decide)
theorem wdN_bit (wd i j : Nat) : (wdN wd i).testBit j = (decide (j < 64) && wd.testBit (64 * i + j)) := by
  unfold wdN
  rw [show (18446744073709551616 : Nat) = 2 ^ 64 from by decide, Nat.testBit_mod_two_pow, Nat.testBit_shiftRight]
theorem wdN_zero (i : Nat) : wdN 0 i = 0 := by simp [wdN]
theorem wdN_or (wd u j : Nat) : wdN (wd ||| 2 ^ u) j = if j = u / 64 then wdN wd j ||| 2 ^ (u % 64) else wdN wd j := by
  apply Nat.eq_of_testBit_eq
  intro i
  split
  · rename_i h
    rw [wdN_bit, or_bit, or_bit, wdN_bit]
    by_cases hi : i < 64
    · have : decide (64 * j + i = u) = decide (i = u % 64) := by rw [decide_eq_decide]; omega
      rw [this]; simp [hi]
    · have h1 : decide (i < 64) = false := by simp; omega
      have h2 : decide (i = u % 64) = false := by simp; omega
      rw [h1, h2]; rfl
  · rename_i h
    rw [wdN_bit, or_bit, wdN_bit]
    by_cases hi : i < 64
    · have : decide (64 * j + i = u) = false := by simp; omega
      rw [this]; simp
    · have h1 : decide (i < 64) = false := by simp; omega
      rw [h1]; rfl
def clr (wd u : Nat) : Nat := wd ^^^ (wd &&& 2 ^ u)
theorem clr_bit (wd u i : Nat) : (clr wd u).testBit i = (wd.testBit i && decide (i ≠ u)) := by
  unfold clr
  rw [Nat.testBit_xor, Nat.testBit_and, Nat.testBit_two_pow]
  by_cases h : u = i
  · subst h; simp
  · have h2 : decide (u = i) = false := by simp [h]
    have h3 : decide (i ≠ u) = true := by simp; exact fun e => h e.symm
    rw [h2, h3]; simp
theorem clr_lt {n wd u : Nat} (h : wd < 2 ^ n) : clr wd u < 2 ^ n := by
  apply Nat.lt_pow_two_of_testBit
  intro i hi
  rw [clr_bit, Nat.testBit_lt_two_pow (Nat.lt_of_lt_of_le h (Nat.pow_le_pow_right (by decide) hi))]
  rfl
theorem wdN_clr (wd u j : Nat) : wdN (clr wd u) j = if j = u / 64 then wdN wd j &&& (18446744073709551615 - 2 ^ (u % 64)) else wdN wd j := by
  apply Nat.eq_of_testBit_eq
  intro i
  split
  · rename_i h
    rw [wdN_bit, clr_bit, clear_bit _ _ _ (by have := wdN_lt wd j; have : (2 : Nat) ^ 64 = 18446744073709551616 := by decide
                                              omega) (by omega), wdN_bit]
    by_cases hi : i < 64
    · have : decide (64 * j + i ≠ u) = decide (i ≠ u % 64) := by rw [decide_eq_decide]; omega
      rw [this]; simp [hi]
    · have h1 : decide (i < 64) = false := by simp; omega
      rw [h1]; rfl
  · rename_i h
    rw [wdN_bit, clr_bit, wdN_bit]
    by_cases hi : i < 64
    · have : decide (64 * j + i ≠ u) = true := by simp; omega
      rw [this]; simp
    · have h1 : decide (i < 64) = false := by simp; omega
      rw [h1]; rfl
/-- what is left from word i on -/
def hiS (i wd : Nat) : Nat := (wd >>> (64 * i)) <<< (64 * i)
theorem hiS_bit (i wd j : Nat) : (hiS i wd).testBit j = (decide (64 * i ≤ j) && wd.testBit j) := by
  unfold hiS
  rw [Nat.testBit_shiftLeft, Nat.testBit_shiftRight]
  by_cases h : 64 * i ≤ j
  · rw [show 64 * i + (j - 64 * i) = j from by omega]
  · have : decide (j ≥ 64 * i) = false := by simp; omega
    rw [this]; rfl
theorem hiS_zero (wd : Nat) : hiS 0 wd = wd := by simp [hiS]
theorem hiS_end {n wd i : Nat} (h : wd < 2 ^ n) (hi : n ≤ 64 * i) : hiS i wd = 0 := by
  apply Nat.eq_of_testBit_eq
  intro j
  rw [hiS_bit, Nat.zero_testBit]
  by_cases hj : 64 * i ≤ j
  · rw [Nat.testBit_lt_two_pow (Nat.lt_of_lt_of_le h (Nat.pow_le_pow_right (by decide) (by omega)))]; simp
  · have : decide (64 * i ≤ j) = false := by simp; omega
    rw [this]; rfl
/-- what is left of word i, and the words behind it -/
def catS (u i wd : Nat) : Nat := (u <<< (64 * i)) ||| hiS (i + 1) wd
theorem catS_bit (u i wd j : Nat) : (catS u i wd).testBit j = ((decide (64 * i ≤ j) && u.testBit (j - 64 * i)) || (decide (64 * (i + 1) ≤ j) && wd.testBit j)) := by
  unfold catS
  rw [Nat.testBit_or, Nat.testBit_shiftLeft, hiS_bit]
theorem catS_zero (i wd : Nat) : catS 0 i wd = hiS (i + 1) wd := by simp [catS]
theorem catS_start (i wd : Nat) : catS (wdN wd i) i wd = hiS i wd := by
  apply Nat.eq_of_testBit_eq
  intro j
  rw [catS_bit, hiS_bit, wdN_bit]
  by_cases h1 : 64 * i ≤ j
  · rw [show 64 * i + (j - 64 * i) = j from by omega]
    by_cases h2 : 64 * (i + 1) ≤ j
    · have e : decide (j - 64 * i < 64) = false := by simp; omega
      rw [e]; simp [h1, h2]
    · have e : decide (j - 64 * i < 64) = true := by simp; omega
      rw [e]; simp [h1, h2]
  · have e1 : decide (64 * i ≤ j) = false := by simp; omega
    have e2 : decide (64 * (i + 1) ≤ j) = false := by simp; omega
    rw [e1, e2]; rfl
theorem catS_step {n u i wd : Nat} (h0 : u ≠ 0) (h : u < 18446744073709551616) (hn : catS u i wd < 2 ^ n) :
    bitsL n (catS u i wd) = (i * 64 + Lib.ctz 64 u) :: bitsL n (catS (u &&& (u - 1)) i wd) ∧ Lib.ctz 64 u < 64 ∧ i * 64 + Lib.ctz 64 u < n ∧ u &&& (u - 1) < u ∧ catS (u &&& (u - 1)) i wd < 2 ^ n := by
  have h64 : u < 2 ^ 64 := by have : (2 : Nat) ^ 64 = 18446744073709551616 := by decide
                              omega
  obtain ⟨h1, h2, h3⟩ := lowbit h0 h64
  obtain ⟨c, hc⟩ : ∃ c, Lib.ctz 64 u = c := ⟨_, rfl⟩
  rw [hc] at h1 h2 h3 ⊢
  have hc64 : c < 64 := by
    rcases Nat.lt_or_ge c 64 with a | a
    · exact a
    · rw [Nat.testBit_lt_two_pow (Nat.lt_of_lt_of_le h64 (Nat.pow_le_pow_right (by decide) a))] at h1; cases h1
  have hb : (catS u i wd).testBit (i * 64 + c) = true := by
    rw [catS_bit, show i * 64 + c - 64 * i = c from by omega, h1]
    have : decide (64 * i ≤ i * 64 + c) = true := by simp; omega
    rw [this]; rfl
  have hcn : i * 64 + c < n := by
    rcases Nat.lt_or_ge (i * 64 + c) n with a | a
    · exact a
    · rw [Nat.testBit_lt_two_pow (Nat.lt_of_lt_of_le hn (Nat.pow_le_pow_right (by decide) a))] at hb; cases hb
  have key : ∀ j, (catS (u &&& (u - 1)) i wd).testBit j = ((catS u i wd).testBit j && decide (j ≠ i * 64 + c)) := by
    intro j
    rw [catS_bit, catS_bit, h3]
    by_cases e1 : 64 * i ≤ j
    · by_cases e2 : 64 * (i + 1) ≤ j
      · have a1 : decide (j ≠ i * 64 + c) = true := by simp; omega
        have a2 : decide (j - 64 * i ≠ c) = true := by simp; omega
        rw [a1, a2]; simp
      · have a1 : decide (j - 64 * i ≠ c) = decide (j ≠ i * 64 + c) := by rw [decide_eq_decide]; omega
        have a2 : decide (64 * (i + 1) ≤ j) = false := by simp; omega
        rw [a1, a2]; simp [Bool.and_assoc]
    · have a1 : decide (64 * i ≤ j) = false := by simp; omega
      have a2 : decide (64 * (i + 1) ≤ j) = false := by simp; omega
      rw [a1, a2]; simp
  refine ⟨filter_least hcn hb (fun j hj => ?_) (fun j _ => key j), hc64, hcn, ?_, ?_⟩
  · rw [catS_bit]
    have a2 : decide (64 * (i + 1) ≤ j) = false := by simp; omega
    rw [a2, Bool.false_and, Bool.or_false]
    by_cases e1 : 64 * i ≤ j
    · rw [h2 (j - 64 * i) (by omega)]; simp
    · have a1 : decide (64 * i ≤ j) = false := by simp; omega
      rw [a1]; rfl
  · have h4 := Nat.and_le_right (n := u) (m := u - 1)
    omega
  · apply Nat.lt_pow_two_of_testBit
    intro j hj
    rw [key, Nat.testBit_lt_two_pow (Nat.lt_of_lt_of_le hn (Nat.pow_le_pow_right (by decide) hj))]
    rfl
theorem hiS_lt {n i wd : Nat} (h : wd < 2 ^ n) : hiS i wd < 2 ^ n := by
  apply Nat.lt_pow_two_of_testBit
  intro j hj
  rw [hiS_bit, Nat.testBit_lt_two_pow (Nat.lt_of_lt_of_le h (Nat.pow_le_pow_right (by decide) hj))]
  simp

/-! Sets of at most 4096 numbers, a word for each 64: newSet, add, remove; the number of a word's trailing zeros. -/
open Go.RowKit
set_option linter.unusedVariables false

/-- w' is w with one cell written, and draws -/
structure Wr (w w' : World) (g i : Nat) (x : Value) : Prop where
  os : w'.os = w.os
  tape : w'.tape = w.tape
  output : w'.output = w.output
  heap : w'.heap = (w.setCell ⟨g, i, none⟩ x).heap
theorem Wr.size {w w' : World} {g i : Nat} {x : Value} (h : Wr w w' g i x) : w'.heap.size = w.heap.size := by rw [h.heap]; simp [World.setCell]
theorem Wr.block {w w' : World} {g i k : Nat} {x : Value} (h : Wr w w' g i x) (hk : k ≠ g) : w'.heap[k]? = w.heap[k]? := by rw [h.heap]; exact Below.heap_setCell _ _ _ _ hk
theorem Wr.below {a w w' : World} {base g i : Nat} {x : Value} (h : Wr w w' g i x) (ha : Below base a w) (hg : base ≤ g) : Below base a w' := by
  have := ha.setCell (p := ⟨g, i, none⟩) hg x
  exact ⟨h.os.trans ha.os, h.tape.trans ha.tape, h.output.trans ha.output, by rw [h.size]; exact ha.size, fun k hk => by rw [h.heap]; exact this.block k hk⟩
theorem Wr.blk {w w' : World} {g i : Nat} {x : Value} {cs : Array Value} {t : TypeId} (h : Wr w w' g i x) (hc : w.heap[g]? = some (.cells cs t (0, 0))) : w'.heap[g]? = some (.cells (cs.setIfInBounds i x) t (0, 0)) := by
  rw [h.heap]; exact blk_set hc i x
theorem Wr.keep1 {w w' : World} {g i base : Nat} {x v : Value} {e : TypeId} {us : List Value} (h : Wr w w' g i x) (ho : Own1 w base e v us) (hne : v.ownBlock ≠ some g) : Own1 w' base e v us :=
  ho.keep fun b hb => h.block fun e => hne (by rw [hb, e])

/-- the words of a set of numbers below n -/
def wordsS (n wd : Nat) : List Value := (List.range ((n + 63) / 64)).map fun i => .int .u64 ((wdN wd i : Nat) : Int)
theorem wordsS_get {n wd i : Nat} (hi : i < (n + 63) / 64) : (wordsS n wd)[i]? = some (.int .u64 ((wdN wd i : Nat) : Int)) := by
  unfold wordsS
  rw [List.getElem?_map, List.getElem?_range hi]; rfl
theorem wordsS_zero (n : Nat) : wordsS n 0 = List.replicate ((n + 63) / 64) (.int .u64 0) := by
  unfold wordsS
  apply List.ext_getElem
  · simp
  · intro i h1 h2
    simp [wdN_zero]
theorem wordsS_set {n wd wd2 i y : Nat} (h : ∀ j, wdN wd2 j = if j = i then y else wdN wd j) : (wordsS n wd).set i (.int .u64 (y : Int)) = wordsS n wd2 := by
  unfold wordsS
  apply List.ext_getElem
  · simp
  · intro j h1 h2
    simp only [List.length_map, List.length_range] at h2
    rw [List.getElem_set]
    simp only [List.getElem_map, List.getElem_range]
    rw [h j]
    by_cases e : i = j
    · subst e; simp
    · rw [if_neg e, if_neg (fun e2 => e e2.symm)]
structure Word (w : World) (g n wd : Nat) : Prop where
  blk : w.heap[g]? = some (.cells (wordsS n wd).toArray 124 (0, 0))
theorem Word.cell {w : World} {g n wd : Nat} (h : Word w g n wd) {i : Nat} (hi : i < (n + 63) / 64) : w.cell? ⟨g, i, none⟩ = some (.int .u64 ((wdN wd i : Nat) : Int)) := by
  rw [blk_cell h.blk i, List.getElem?_toArray]; exact wordsS_get hi
theorem Word.frozen {w : World} {g n wd : Nat} (h : Word w g n wd) (i : Nat) : w.frozen? ⟨g, i, none⟩ = false := blk_frozen h.blk i
theorem Word.keep {w w' : World} {g n wd : Nat} (h : Word w g n wd) (hk : w'.heap[g]? = w.heap[g]?) : Word w' g n wd := ⟨by rw [hk]; exact h.blk⟩
theorem Word.lt {w : World} {g n wd : Nat} (h : Word w g n wd) : g < w.heap.size := blk_lt h.blk
theorem Wr.word {w w' : World} {g n wd wd2 i y : Nat} (h : Wr w w' g i (.int .u64 (y : Int))) (hw : Word w g n wd) (hx : ∀ j, wdN wd2 j = if j = i then y else wdN wd j) : Word w' g n wd2 := ⟨by
  rw [h.blk hw.blk, List.setIfInBounds_toArray, wordsS_set hx]⟩

/-- a set of numbers below n -/
structure SetAt (w : World) (base n : Nat) (v : Value) (wd : Nat) : Prop where
  ex : ∃ g, v = .slice (some ⟨g, 0, none⟩) ((n + 63) / 64) ((n + 63) / 64) ∧ base ≤ g ∧ Word w g n wd
  lt : wd < 2 ^ n
theorem SetAt.keep {w w' : World} {base n wd : Nat} {v : Value} (h : SetAt w base n v wd) (hk : ∀ b, v.ownBlock = some b → b < w.heap.size → w'.heap[b]? = w.heap[b]?) : SetAt w' base n v wd := by
  obtain ⟨⟨g, e, hb, hw⟩, hl⟩ := h
  exact ⟨⟨g, e, hb, hw.keep (hk g (by rw [e]; rfl) hw.lt)⟩, hl⟩
theorem SetAt.below {w w' : World} {base n wd : Nat} {v : Value} (h : SetAt w base n v wd) (hb : Below w.heap.size w w') : SetAt w' base n v wd := h.keep fun b _ hlt => hb.block b hlt
theorem SetAt.open_ {w : World} {base n wd g m : Nat} (h : SetAt w base n (.slice (some ⟨g, 0, none⟩) m m) wd) : m = (n + 63) / 64 ∧ base ≤ g ∧ Word w g n wd := by
  obtain ⟨⟨g', e, hb, hw⟩, _⟩ := h
  injection e with e e1 e2
  injection e with e
  injection e with e
  subst e
  exact ⟨e1, hb, hw⟩

def Quiet (w w' : World) : Prop := w'.os = w.os ∧ w'.tape = w.tape ∧ w'.output = w.output ∧ w'.heap = w.heap
theorem Quiet.below {w w' : World} (h : Quiet w w') : Below w.heap.size w w' := ⟨h.1, h.2.1, h.2.2.1, by rw [h.2.2.2]; exact Nat.le_refl _, fun k _ => by rw [h.2.2.2]⟩
theorem Quiet.drew (w : World) (n : Nat) : Quiet w (w.drewN n) := ⟨rfl, rfl, rfl, rfl⟩

theorem pow_bd {u : Nat} (hu : u < 64) : 2 ^ u ≤ 9223372036854775808 := Nat.pow_le_pow_right (n := 2) (by decide) (show u ≤ 63 by omega)
theorem shl_lit (u : Nat) (hu : u < 64) : IntKind.u64.wrap ((2 : Int) ^ u) = ((2 ^ u : Nat) : Int) := by
  rw [IntKind.wrap_u64]
  have h := pow_bd hu
  have e : (2 : Int) ^ u = ((2 ^ u : Nat) : Int) := by simp
  rw [e]
  generalize 2 ^ u = p at h ⊢
  omega

/-- a set in block g has become wd2; one cell of it was written -/
def RetWr (w : World) (g n wd2 : Nat) (e : Ending) (w' : World) : Prop := (∃ v, e = .returned v) ∧ Word w' g n wd2 ∧ ∃ i x, Wr w w' g i x
theorem retWr {w w' : World} {g n wd wd2 i y : Nat} {v : Value} (h : Wr w w' g i (.int .u64 (y : Int))) (hw : Word w g n wd) (hx : ∀ j, wdN wd2 j = if j = i then y else wdN wd j) : RetWr w g n wd2 (.returned v) w' := ⟨⟨_, rfl⟩, h.word hw hx, _, _, h⟩
set_option maxHeartbeats 800000 in
theorem add_any (g n u wd m : Nat) (w : World) (hw : Word w g n wd) (hm : m = (n + 63) / 64) (hu : u < n) (hn : n ≤ 4096) :
    Calls Tryd.prog 90 #[.slice (some ⟨g, 0, none⟩) m m, .int .i64 (u : Int)] w (RetWr w g n (wd ||| 2 ^ u)) := by
  obtain ⟨a, ha⟩ : ∃ a, u / 64 = a := ⟨_, rfl⟩
  obtain ⟨b, hb⟩ : ∃ b, u % 64 = b := ⟨_, rfl⟩
  have ham : a < m := by omega
  have hc := hw.cell (i := a) (by omega)
  have hf := hw.frozen a
  have q1 : (u : Int) / 64 = (a : Int) := by omega
  have q2 : (u : Int) % 64 = (b : Int) := by omega
  have hb64 : b < 64 := by omega
  have HX : Hid (∀ j, wdN (wd ||| 2 ^ u) j = if j = a then wdN wd a ||| 2 ^ b else wdN wd j) := Lib.hid fun j => by
    rw [wdN_or, ha, hb]; split
    · rename_i e; rw [e]
    · rfl
  have hp := pow_bd hb64
  have hwl := wdN_lt wd a
  have q4 := u64_or_nat (wdN wd a) (2 ^ b) (by omega) (by omega)
  rw [← shl_lit b hb64] at q4
  have hu4 : (u : Int) < 4096 := by omega
  have Q4 := Lib.hid q4; clear q4
  have HW := Lib.hid hw
  generalize wdN wd a = y at *
  clear hw hp ha hb hm
  go_enter Tryd.func90, Tryd.ntmps90
  go_wp2
  go_region
  rw [Q4.out]
  go_end0
  exact retWr ⟨rfl, rfl, rfl, rfl⟩ HW.out HX.out

set_option maxHeartbeats 800000 in
theorem remove_any (g n u wd m : Nat) (w : World) (hw : Word w g n wd) (hm : m = (n + 63) / 64) (hu : u < n) (hn : n ≤ 4096) :
    Calls Tryd.prog 92 #[.slice (some ⟨g, 0, none⟩) m m, .int .i64 (u : Int)] w (RetWr w g n (clr wd u)) := by
  obtain ⟨a, ha⟩ : ∃ a, u / 64 = a := ⟨_, rfl⟩
  obtain ⟨b, hb⟩ : ∃ b, u % 64 = b := ⟨_, rfl⟩
  have ham : a < m := by omega
  have hc := hw.cell (i := a) (by omega)
  have hf := hw.frozen a
  have q1 : (u : Int) / 64 = (a : Int) := by omega
  have q2 : (u : Int) % 64 = (b : Int) := by omega
  have hb64 : b < 64 := by omega
  have HX : Hid (∀ j, wdN (clr wd u) j = if j = a then wdN wd a &&& (18446744073709551615 - 2 ^ b) else wdN wd j) := Lib.hid fun j => by
    rw [wdN_clr, ha, hb]; split
    · rename_i e; rw [e]
    · rfl
  have hp := pow_bd hb64
  have hwl := wdN_lt wd a
  have q4 := u64_andNot_nat (wdN wd a) (2 ^ b) (by omega) (by omega)
  rw [← shl_lit b hb64] at q4
  have hu4 : (u : Int) < 4096 := by omega
  have Q4 := Lib.hid q4; clear q4
  have HW := Lib.hid hw
  generalize wdN wd a = y at *
  clear hw hp ha hb hm
  go_enter Tryd.func92, Tryd.ntmps92
  go_wp2
  go_region
  rw [Q4.out]
  go_end0
  exact retWr ⟨rfl, rfl, rfl, rfl⟩ HW.out HX.out

set_option maxHeartbeats 800000 in
theorem newSet_any (n : Nat) (w : World) (hn : n ≤ 4096) :
    Calls Tryd.prog 89 #[.int .i64 (n : Int)] w fun e w' => ∃ v, e = .returned v ∧ SetAt w' w.heap.size n v 0 ∧ Below w.heap.size w w' := by
  obtain ⟨m, hm⟩ : ∃ m, (n + 63) / 64 = m := ⟨_, rfl⟩
  have hn' : (n : Int) ≤ 4096 := by omega
  have hq : ((n : Int) + 64 - 1) / 64 = (m : Int) := by omega
  have hmm : m ≤ 1000000 := by omega
  have hmk := fun (W : World) (x y : Int) (hx : x = (m : Int)) (hy : y = (m : Int)) => run_mk W 113 124 _ 8 Tryd.underlying113 info_u64 rfl (by decide) m hmm x y hx hy
  have hmk1 := fun (W : World) => hmk W _ _ rfl rfl
  have HM := Lib.hid hm
  clear hmk hm
  go_enter Tryd.func89, Tryd.ntmps89
  go_wp2
  go_ret
  refine ⟨_, rfl, ⟨⟨w.heap.size, by rw [HM.out]; rfl, Nat.le_refl _, ⟨?_⟩⟩, Nat.pow_pos (by decide)⟩, (Below.refl _ _).alloc (Nat.le_refl _) _⟩
  rw [wordsS_zero, HM.out, List.toArray_replicate]
  exact heap_alloc_new w _

/-! A word's trailing zeros; the numbers of a set, one by one: what it asks of a round, what it gives. -/
open Go.RowKit Go.Shelf
set_option linter.unusedVariables false
attribute [local go_sem] Oper.semAt_some

theorem wide_call {P : Program} {n : Nat} {f : FuncId} {args : Array Value} {w : World} {R R' : Ending → World → Prop} (h : Calls P f args w R) (hm : ∀ e w', R e w' → R' e w') :
    Fence.wide.fn f ∧ (Fence.wide.depth.isSome = true → 1 ≤ n) ∧ CallsIn Fence.wide (n - 1) P f args w R' := ⟨trivial, (fun h => by cases h), (callsIn_wide.2 h).mono hm⟩
theorem wide_call_in {P : Program} {n l : Nat} {f : FuncId} {args : Array Value} {w : World} {R R' : Ending → World → Prop} (h : Calls P f args w R) (hm : ∀ e w', R e w' → R' e w') :
    (Fence.wide.inRound l).fn f ∧ ((Fence.wide.inRound l).depth.isSome = true → 1 ≤ n) ∧ CallsIn (Fence.wide.inRound l) (n - 1) P f args w R' := ⟨trivial, (fun h => by cases h), CallsIn.inRound l ((callsIn_wide.2 h).mono hm)⟩

/-- the library's table of 64 numbers -/
def Tab (w : World) : Prop := TabAt 4 Lib.deBruijn64tab w
theorem Tab.block {w w' : World} (h : Tab w) (hk : w'.heap[4]? = w.heap[4]?) : Tab w' := by
  intro j hj
  rw [World.cell?_of_block (w := w) (a := ⟨4, j, none⟩) hk]
  exact h j hj
theorem Tab.lt {w : World} (h : Tab w) : 4 < w.heap.size := World.block_lt_of_cell? w _ (h 0 (by decide))
theorem Tab.below {w w' : World} {base : Nat} (h : Tab w) (hb : Below base w w') (hbase : 4 < base) : Tab w' := h.block (hb.block _ hbase)

set_option maxHeartbeats 800000 in
theorem tz_core (x k idx : Nat) (w : World) (hx0 : ((x : Int) == 0) = false)
    (key : IntKind.u64.wrap (bits BinOp.and IntKind.u64 (x : Int) (IntKind.u64.wrap (-(x : Int))) * 285870213051353865) / 288230376151711744 = (idx : Int))
    (hi : idx < 64) (hk : k < 64) (hcell : w.cell? ⟨4, idx, none⟩ = some (.int .u8 k)) :
    Calls Tryd.prog 100 #[.int .u64 x] w fun e w' => e = .returned (.int .i64 k) ∧ w = w' := by
  go_enter Tryd.func100, Tryd.ntmps100
  go_wp2_with (simp only [key])
  go_ret
  exact ⟨rfl, rfl⟩
theorem tz_any (x : Nat) (w : World) (hx : x < 18446744073709551616) (h0 : x ≠ 0) (hT : Tab w) :
    Calls Tryd.prog 100 #[.int .u64 x] w fun e w' => e = .returned (.int .i64 (Lib.ctz 64 x : Int)) ∧ w = w' := by
  obtain ⟨hlow, hk⟩ := Lib.lowest_bit 64 x h0 hx
  obtain ⟨hi, htab⟩ := Lib.deBruijn64_at _ hk
  have hcell := hT _ hi
  rw [htab] at hcell
  exact tz_core x _ _ w (by simp; omega) (tz64_key x _ hx h0 hlow) hi hk hcell

/-- one round more of the numbers of a word -/
def Rounds (n : Nat) (l : Nat) (wd : Nat) (N : Nat) (J Jx : List Nat → World → Prop) : Prop :=
  ∀ (pre : List Nat) (x : Nat) (W : World), J pre W → (∃ post, bitsL N wd = pre ++ x :: post) → YieldAt Fence.wide n Tryd.prog l #[.int .i64 (x : Int)] W fun e W' =>
    (e = .returned (.bool true) ∧ J (pre ++ [x]) W') ∨ (e = .returned (.bool false) ∧ Jx (pre ++ [x]) W')

set_option maxRecDepth 100000 in
set_option maxHeartbeats 1600000 in
theorem all_in (n l N : Nat) (v : Value) (base wd : Nat) (J Jx : List Nat → World → Prop) (W : World) (hN : N ≤ 4096) (hT : ∀ pre W, J pre W → Tab W)
    (hS : ∀ pre W, J pre W → SetAt W base N v wd) (hY : Rounds (n - 1) l wd N J Jx) (h0 : J [] W) :
    CallsIn Fence.wide n Tryd.prog 91 #[v, .func (.yield l) #[] #[]] W fun e W' => (∃ v, e = .returned v) ∧ (J (bitsL N wd) W' ∨ ∃ pre, Jx pre W') := by
  obtain ⟨⟨g, rfl, hb, hw⟩, hlt⟩ := hS _ _ h0
  obtain ⟨m, hm⟩ : ∃ m, (N + 63) / 64 = m := ⟨_, rfl⟩
  rw [hm] at hS ⊢
  have hm64 : m ≤ 64 := by omega
  have HM := Lib.hid hm; clear hm
  have HT := Lib.hid hT; clear hT
  have HS := Lib.hid hS; clear hS
  have HY := Lib.hid hY; clear hY
  have H0 := Lib.hid h0; clear h0
  have HLT := Lib.hid hlt; clear hlt hw
  refine callsIn_of_wp Tryd.func91 rfl trivial ?_ rfl
  simp only [Tryd.ntmps91, List.size_toArray, List.length_cons, List.length_nil, Nat.reduceAdd, Nat.reduceSub, Array.replicate_succ, Array.replicate_zero, List.push_toArray, List.append_toArray, List.nil_append, List.cons_append]
  gi_wp2
  gi_loopw [8] (fun i wr => ∃ (k : Nat) (pre : List Nat), k ≤ m ∧ i = .int .i64 k ∧ Hid (bitsL N wd = pre ++ bitsL N (hiS k wd)) ∧ Hid (J pre wr)) (fun i _ => m - (intOf i).toNat)
  case atStart => exact ⟨0, [], Nat.zero_le _, rfl, Lib.hid (by rw [hiS_zero, List.nil_append]), H0⟩
  case round =>
    obtain ⟨k, pre0, hk, rfl, hpre0, hJ0⟩ := hrel
    by_cases hkm : k < m
    · have hw1 := (HS.out _ _ hJ0.out).open_.2.2
      have hc := hw1.cell (i := k) (by have := HM.out; omega)
      have hwl := Lib.hid (wdN_lt wd k)
      have HST0 := Lib.hid (catS_start k wd)
      obtain ⟨y, hy⟩ : ∃ y, wdN wd k = y := ⟨_, rfl⟩
      rw [hy] at hc hwl HST0
      clear hw1 hy
      gi_wp2
      gi_loopw [5] (fun u wq => ∃ (u' : Nat) (pre : List Nat), u = .int .u64 (u' : Int) ∧ Hid (bitsL N wd = pre ++ bitsL N (catS u' k wd)) ∧ Hid (u' < 18446744073709551616) ∧ Hid (catS u' k wd < 2 ^ N) ∧ Hid (J pre wq)) (fun u _ => (intOf u).toNat)
      case atStart => exact ⟨y, pre0, rfl, Lib.hid (by rw [HST0.out]; exact hpre0.out), hwl, Lib.hid (by rw [HST0.out]; exact hiS_lt HLT.out), hJ0⟩
      case round =>
        obtain ⟨u', pre, rfl, hpre, hu', hlt', hJ⟩ := hrel
        by_cases hz : u' = 0
        · subst hz
          gi_wp2
          go_roundw
          case rel => exact ⟨k + 1, pre, by omega, by go_num, Lib.hid (by rw [hpre.out, catS_zero]), hJ⟩
          case measure => simp [intOf]; omega
        · obtain ⟨hst, hcl, hcn, hdec, hlq⟩ := catS_step hz hu'.out hlt'.out
          have hb1 := hu'.out
          obtain ⟨c, hcc⟩ : ∃ c, Lib.ctz 64 u' = c := ⟨_, rfl⟩
          have ct := fun (w : World) (hT : Tab w) => tz_any u' w (by omega) hz hT
          rw [hcc] at hst hcl hcn ct
          have hsub : bits .and .u64 (u' : Int) ((u' : Int) - 1) = ((u' &&& (u' - 1) : Nat) : Int) := by
            rw [show (u' : Int) - 1 = ((u' - 1 : Nat) : Int) from by omega]
            exact bits_and_u64_nat _ _ (by omega) (by omega)
          obtain ⟨q, hq⟩ : ∃ q, u' &&& (u' - 1) = q := ⟨_, rfl⟩
          rw [hq] at hst hsub hdec hlq
          obtain ⟨x, hx⟩ : ∃ x, k * 64 + c = x := ⟨_, rfl⟩
          rw [hx] at hst
          have hxi : (k : Int) * 64 + (c : Int) = (x : Int) := by omega
          have hz1 : (1 : Int) ≤ (u' : Int) := by omega
          have hzb : ((u' : Int) == 0) = false := by rw [beq_eq_false_iff_ne]; omega
          have hc64 : (c : Int) < 64 := by omega
          have hki : (k : Int) < 64 := by omega
          obtain ⟨fn, tmps, assign, body, hy, hR⟩ := HY.out pre x wr hJ.out ⟨_, by rw [hpre.out, hst]⟩
          have HST := Lib.hid hst
          have HSUB := Lib.hid hsub
          have HQ := Lib.hid hq
          have HLQ := Lib.hid hlq
          have CT := Lib.hid ct
          clear hst hsub hq ct hcc hcn hlq hx
          gi_wp2_with fail
          refine wide_call (CT.out _ (HT.out _ _ hJ.out)) ?_
          rintro e w' ⟨rfl, rfl⟩
          gi_wp2
          refine ⟨(fun h => by cases h), hR.mono ?_⟩
          rintro e W3 (⟨rfl, hJ3⟩ | ⟨rfl, hJx3⟩)
          · gi_wp2
            go_roundw
            case rel => exact ⟨q, pre ++ [x], by rw [HSUB.out], Lib.hid (by rw [hpre.out, HST.out, List.append_assoc]; rfl), Lib.hid (by have := hu'.out; omega), HLQ, Lib.hid hJ3⟩
            case measure => rw [HSUB.out]; simp [intOf]; omega
          · gi_wp2
            refine bodyPost_ret (results_none rfl _ _ _) rfl ?_
            exact ⟨⟨_, rfl⟩, Or.inr ⟨_, hJx3⟩⟩
    · obtain rfl : k = m := by omega
      have hend : bitsL N wd = pre0 := by rw [hpre0.out, hiS_end HLT.out (by have := HM.out; omega), bitsL_zero, List.append_nil]
      have HEND := Lib.hid hend; clear hend
      gi_wp2
      go_end0
      exact ⟨⟨_, rfl⟩, Or.inl (by rw [HEND.out]; exact hJ0.out)⟩

end Go.Proofs.YtgejonmjmieglaaDoor.Dag
namespace Go.Proofs.YtgejonmjmieglaaDoor.Dag
set_option maxRecDepth 100000
/-! A range over the numbers of a set: what is owed of the body, what is had behind it. -/
open Go.RowKit Go.Shelf
set_option linter.unusedVariables false

/-- the record of the loop -/
def recOf (fn : FuncId) (tmps : Array Value) (ps : Array Tmp) (assign body : Code) (D : Nat) (s : LoopState) (p : Option Code) : Loop :=
  { state := s, pending := p, fn := fn, tmps := tmps, params := ps, assign := assign, body := body, defers := D }
abbrev markD (D : Nat) : Deferred := { target := .collected D, args := #[] }
/-- what the body leaves -/
abbrev bodyEnd (I : List Nat → World → Prop) (Ix : Code → List Nat → World → Prop) (pre : List Nat) (W : World) : Exit → Act → World → Prop := ownPostK (fun _ _ => True) I Ix pre W

theorem range_set {g : Operand} {ps : Array Tmp} {assign body : Code} {Q : Exit → Act → World → Prop} {a : Act} {w : World} {n : Nat} (v : Value) (base N wd : Nat)
    (hg : a.eval g = .func (.func 91) #[v] #[]) (hps : ps.size = 1) (hN : N ≤ 4096)
    (I : List Nat → World → Prop) (Ix : Code → List Nat → World → Prop) (hI : OwnFrom w.heap.size I) (hIx : ∀ c, OwnFrom w.heap.size (Ix c)) (hT : ∀ pre W, I pre W → Tab W) (hK : ∀ pre W, I pre W → SetAt W base N v wd) (h0 : I [] w) (a₁ : Nat → Act)
    (hassign : ∀ (l x : Nat) (W : World) (K : Act → World → Prop), K (a₁ x) W →
      assign.wpIn (Fence.wide.inRound l) (n - 1 - 1) Tryd.prog (Exit.then K (fun _ _ _ => False)) { tmps := (ps.zip #[Value.int .i64 (x : Int)]).foldl (fun t (p, v) => t.setIfInBounds p v) a.tmps, defers := [] } W)
    (hbody : ∀ (l : Nat) (pre : List Nat) (x : Nat) (W : World), I pre W → (∃ post, bitsL N wd = pre ++ x :: post) → body.wpIn (Fence.wide.inRound l) (n - 1 - 1) Tryd.prog (bodyEnd I Ix (pre ++ [x]) W) (a₁ x) W)
    (hdone : ∀ (D : Nat) (W : World), w.heap.size ≤ D → I (bitsL N wd) W → W.heap[D]? = some (.deferred (some [])) → Q .normal { a with defers := markD D :: a.defers } W)
    (hstop : ∀ (D : Nat) (c : Code) (pre : List Nat) (W : World), w.heap.size ≤ D → Ix c pre W → W.heap[D]? = some (.deferred (some [])) → c.wpIn Fence.wide n Tryd.prog Q { a with defers := markD D :: a.defers } W) :
    (Code.rangeFunc g ps assign body).wpIn Fence.wide n Tryd.prog Q a w := by
  refine wpIn_rangeFunc fun fn hfn => ?_
  obtain ⟨r, hr⟩ : ∃ r : LoopState → Option Code → Loop, r = recOf fn a.tmps ps assign body w.heap.size := ⟨_, rfl⟩
  have hrp : ∀ s p, (r s p).params = ps := by intro s p; rw [hr]; rfl
  have hrf : ∀ s p, (r s p).fn = fn := by intro s p; rw [hr]; rfl
  have hrt : ∀ s p, (r s p).tmps = a.tmps := by intro s p; rw [hr]; rfl
  have hra : ∀ s p, (r s p).assign = assign := by intro s p; rw [hr]; rfl
  have hrb : ∀ s p, (r s p).body = body := by intro s p; rw [hr]; rfl
  have hrs : ∀ s p, (r s p).state = s := by intro s p; rw [hr]; rfl
  have hrq : ∀ s p, (r s p).pending = p := by intro s p; rw [hr]; rfl
  have hru : ∀ s p s', ({ r s p with state := s' } : Loop) = r s' p := by intro s p s'; rw [hr]; rfl
  have hrv : ∀ s p s' p', ({ r s p with state := s', pending := p' } : Loop) = r s' p' := by intro s p s' p'; rw [hr]; rfl
  let l := w.heap.size + 1
  let W1 := (w.alloc (.deferred (some []))).alloc (.loop (r .ready none))
  have hl1 : W1.heap[l]? = some (.loop (r .ready none)) := by
    have := World.alloc_heap_new (w.alloc (.deferred (some []))) (.loop (r .ready none))
    rwa [World.size_alloc] at this
  have hd1 : W1.heap[w.heap.size]? = some (.deferred (some [])) := (Below.heap_alloc _ _ _ (by simp)).trans (World.alloc_heap_new w _)
  have hi1 : I [] W1 := hI.alloc _ (hI.alloc _ h0)
  have turn : ∀ {pre W s p} (o : Obj), I pre W → W.heap[l]? = some (.loop (r s p)) → I pre (W.putObj l o) := fun o hi h => hI.putObj o hi (by omega) h rfl
  have turnx : ∀ {c pre W s p} (o : Obj), Ix c pre W → W.heap[l]? = some (.loop (r s p)) → Ix c pre (W.putObj l o) := fun {c} {_} {_} {_} {_} o hi h => (hIx c).putObj o hi (by omega) h rfl
  have put : ∀ {W : World} {s p} (o : Obj), W.heap[l]? = some (.loop (r s p)) → (W.putObj l o).heap[l]? = some o := fun o h => World.putObj_heap_same (Array.getElem?_eq_some_iff.1 h).1
  have putD : ∀ {W : World} (o : Obj), W.heap[w.heap.size]? = some (.deferred (some [])) → (W.putObj l o).heap[w.heap.size]? = some (.deferred (some [])) := fun o h => (World.putObj_heap_other (by omega)).trans h
  refine ⟨l, [markD w.heap.size], W1, { target := .fn (.func 91) #[], args := #[v, .func (.yield l) #[] #[]] }, W1, 91, #[v, .func (.yield l) #[] #[]], W1, ?_, ?_, fun _ _ => trivial, ?_, (fun h => by cases h), ?_⟩
  · have := run_enterLoop_outer (P := Tryd.prog) (w := w) fn a.tmps ps assign body
    simp only [W1, hr]
    exact this
  · simp only [resolve, hg]
    simp [go_sem]
  · simp [invoke, go_sem]
  · refine (all_in (n - 1) l N v base wd (fun pre W => I pre W ∧ W.heap[l]? = some (.loop (r .ready none)) ∧ W.heap[w.heap.size]? = some (.deferred (some [])))
      (fun pre W => ∃ c, Ix c pre W ∧ W.heap[l]? = some (.loop (r .done (some c))) ∧ W.heap[w.heap.size]? = some (.deferred (some []))) W1 hN (fun pre W h => hT pre W h.1) (fun pre W h => hK pre W h.1) ?_ ⟨hi1, hl1, hd1⟩).mono ?_
    · rintro pre x W ⟨hi, hl, hd⟩ hpost
      have hy := run_yield (P := Tryd.prog) (args := #[Value.int .i64 (x : Int)]) hl (by rw [hrp, hps]; rfl)
      have hb := run_beginRound (P := Tryd.prog) hl (hrs _ _)
      rw [hru] at hb
      rw [hrp, hrf, hrt, hra, hrb] at hy
      refine ⟨_, _, _, _, hy, roundIn_of_wpIn hfn ?_⟩
      refine hassign l x W _ ⟨_, hb, ?_⟩
      refine wpIn_mono (hbody l pre x _ (turn _ hi hl) hpost) ?_
      have fin : ∀ (jump : Option Code) (W3 : World), KeepsOthers (W.putObj l (.loop (r .busy none))) W3 →
          (Instr.endRound l jump).run Tryd.prog W3 = .ok (.bool jump.isNone) (W3.putObj l (.loop (r (if jump.isNone then .ready else .done) jump))) ∧ W3.heap[l]? = some (.loop (r .busy none)) ∧ W3.heap[w.heap.size]? = some (.deferred (some [])) := by
        intro jump W3 hk
        have h3 := hk.same l _ (put _ hl) rfl
        have h4 := run_endRound (P := Tryd.prog) jump h3
        rw [hrv] at h4
        exact ⟨h4, h3, hk.same _ _ (putD _ hd) rfl⟩
      rintro e a3 W3 hp
      cases e with
      | normal =>
        obtain ⟨hk, _, hi3⟩ := hp
        obtain ⟨h4, h3, hd3⟩ := fin none W3 hk
        exact ⟨_, _, h4, Or.inl ⟨rfl, turn _ hi3 h3, put _ h3, putD _ hd3⟩⟩
      | ret =>
        obtain ⟨hk, hi3⟩ := hp
        obtain ⟨h4, h3, hd3⟩ := fin (some .ret) W3 hk
        exact ⟨_, _, h4, Or.inr ⟨rfl, .ret, turnx _ hi3 h3, put _ h3, putD _ hd3⟩⟩
      | exit id =>
        obtain ⟨hk, hi3⟩ := hp
        obtain ⟨h4, h3, hd3⟩ := fin (some (.exit id)) W3 hk
        exact ⟨_, _, h4, Or.inr ⟨rfl, .exit id, turnx _ hi3 h3, put _ h3, putD _ hd3⟩⟩
      | goto t =>
        obtain ⟨hk, hi3⟩ := hp
        obtain ⟨h4, h3, hd3⟩ := fin (some (.goto t)) W3 hk
        exact ⟨_, _, h4, Or.inr ⟨rfl, .goto t, turnx _ hi3 h3, put _ h3, putD _ hd3⟩⟩
      | panic ch => exact hp.elim
      | outgrown => exact hp.elim
    · rintro e W2 ⟨⟨v, rfl⟩, ⟨hi, hl, hd⟩ | ⟨pre, c, hi, hl, hd⟩⟩
      · have h5 := run_endLoop (P := Tryd.prog) hl (by rw [hrs]; simp)
        rw [hrq] at h5
        exact ⟨none, _, h5, hdone _ _ (Nat.le_refl _) (turn _ hi hl) (putD _ hd)⟩
      · have h5 := run_endLoop (P := Tryd.prog) hl (by rw [hrs]; simp)
        rw [hrq] at h5
        exact ⟨some c, _, h5, hstop _ c pre _ (Nat.le_refl _) (turnx _ hi hl) (putD _ hd)⟩

/-- a body with a label, which no goto leaves -/
theorem wpIn_scope {F : Fence} {n : Nat} {P : Program} {c : Code} {Q : Exit → Act → World → Prop} {a : Act} {w : World} (h : c.wpIn F n P (Exit.noGoto Q) a w) : (Code.scope c).wpIn F n P Q a w := by
  intro b k cs hro hb hr
  have s1 : StepsIn (Machine.fenced P F) P (lone (b.atR a (.code (.scope c) :: k)) cs w) (lone (b.atR a (.code c :: .inScope c :: k)) cs w) :=
    .one (fenced_calm hb hr rfl) (step_lone_go (by simp [stepG, stepG.exec, Frame.atR]))
  have s2 : ∀ a' w', StepsIn (Machine.fenced P F) P (lone (b.atR a' (.inScope c :: k)) cs w') (lone (b.atR a' k) cs w') := fun a' w' =>
    .one (fenced_calm hb hr rfl) (step_lone_go (by simp [stepG, stepG.exec, Frame.atR]))
  obtain ⟨e, a', w', hq, harr⟩ := h b (.inScope c :: k) cs hro hb hr
  cases e with
  | normal => exact ⟨.normal, a', w', hq, StepsIn.trans s1 (StepsIn.trans harr (s2 a' w'))⟩
  | exit id =>
    have hx : exitTo id (.inScope c :: k) = exitTo id k := by simp [exitTo]
    exact ⟨.exit id, a', w', hq, (fun k' hk => StepsIn.trans s1 (harr.1 k' (by rw [hx]; exact hk))), fun hr' hk => let ⟨k1, q1, q2⟩ := harr.2 hr' (by rw [hx]; exact hk); ⟨k1, q1, StepsIn.trans s1 q2⟩⟩
  | goto l => exact hq.elim
  | ret => exact ⟨_, a', w', hq, .of_steps s1 harr⟩
  | panic ch => exact ⟨_, a', w', hq, .of_steps s1 harr⟩
  | outgrown => exact ⟨_, a', w', hq, .of_steps s1 harr⟩

/-- marks alone are left of the calls to be made at the end -/
def Marks (W : World) (ds : List Nat) : Prop := ds.Nodup ∧ ∀ D ∈ ds, W.heap[D]? = some (.deferred (some []))
theorem leaves_marks {F : Fence} {n : Nat} {P : Program} {fn : Func} {tmps : Array Value} {R : Ending → World → Prop} {base : Nat} : ∀ (ds : List Nat) (W : World), Marks W ds → (∀ D ∈ ds, base ≤ D) →
    (∀ W', Below base W W' → (∀ k, (∀ D ∈ ds, k ≠ D) → W'.heap[k]? = W.heap[k]?) → W'.heap.size = W.heap.size → LeavesIn F n P fn tmps R [] .returning W') →
    LeavesInM F n P fn tmps R (ds.map markD) .returning W
  | [], W, _, _, h => by
    simp only [List.map_nil, LeavesInM]
    exact h W (Below.refl _ _) (fun _ _ => rfl) rfl
  | D :: ds, W, hm, hb, h => by
    have hD := hm.2 D (by simp)
    have hnd := List.nodup_cons.1 hm.1
    have hbD : base ≤ D := hb D (by simp)
    have hB : Below base W (W.putObj D (.deferred none)) := (Below.refl base W).grown (grownBy_putObj' W D _) (Nat.le_trans hbD (Nat.le_of_lt (blk_lt hD))) (fun k e => by cases e; exact hbD)
    simp only [List.map_cons, LeavesInM]
    refine ⟨by simp, Or.inl ⟨D, _, rfl, run_takeDeferred hD, ?_⟩⟩
    refine leaves_marks ds _ ⟨hnd.2, fun D' hD' => ?_⟩ (fun D' hD' => hb D' (by simp [hD'])) fun W' hB' hk hsz => ?_
    · have hne : D' ≠ D := fun e => hnd.1 (by rw [← e]; exact hD')
      exact (World.putObj_heap_other hne).trans (hm.2 D' (by simp [hD']))
    · refine h W' (hB.trans hB') (fun k hne => ?_) (by rw [hsz]; simp)
      rw [hk k (fun D' hD' => hne D' (by simp [hD']))]
      exact World.putObj_heap_other (hne D (by simp))

/-! The order: arrange. -/
open Go.RowKit Go.Shelf
set_option linter.unusedVariables false
attribute [local go_sem] Oper.semAt_some

theorem blk_ne {w : World} {g b : Nat} {cs cs' : Array Value} {t t' : TypeId} {z z' : Nat × Nat} (h : w.heap[g]? = some (.cells cs t z)) (h' : w.heap[b]? = some (.cells cs' t' z')) (ht : t ≠ t') : g ≠ b := by
  intro e
  subst e
  rw [h] at h'
  injection h' with h'
  injection h' with _ h'
  exact ht h'
theorem SetAt.keep' {w w' : World} {base n wd : Nat} {v : Value} (h : SetAt w base n v wd) (hk : ∀ b x, v.ownBlock = some b → Word w b n x → w'.heap[b]? = w.heap[b]?) : SetAt w' base n v wd := by
  obtain ⟨⟨g, e, hb, hw⟩, hl⟩ := h
  exact ⟨⟨g, e, hb, hw.keep (hk g _ (by rw [e]; rfl) hw)⟩, hl⟩

/-- what arrange holds while it goes -/
structure Arr (n : Nat) (w0 : World) (b3 b5 bm b6 b7 N : Nat) (hv vp : Value) (W : World) (o : List Nat) (ms : List Int) (wd : Nat) : Prop where
  below : Below w0.heap.size w0 W
  lo : w0.heap.size ≤ b3 ∧ w0.heap.size ≤ b5 ∧ w0.heap.size ≤ bm ∧ w0.heap.size ≤ b6 ∧ w0.heap.size ≤ b7
  x3 : W.heap[b3]? = some (.cells #[hv] 60 (0, 0))
  x5 : ∃ vo, W.heap[b5]? = some (.cells #[vo] 25 (0, 0)) ∧ OwnI W N vo (num o)
  x6 : W.heap[b6]? = some (.cells #[.slice (some ⟨bm, 0, none⟩) n n] 25 (0, 0))
  x7 : W.heap[b7]? = some (.cells #[vp] 113 (0, 0))
  xm : OwnI W w0.heap.size (.slice (some ⟨bm, 0, none⟩) n n) ms
  xp : SetAt W w0.heap.size n vp wd
  ne : b5 ≠ b6 ∧ bm < N ∧ N ≤ W.heap.size

section
variable {n : Nat} {w0 : World} {b3 b5 bm b6 b7 N : Nat} {hv vp : Value} {W W' : World} {o : List Nat} {ms : List Int} {wd : Nat}
theorem Arr.len (h : Arr n w0 b3 b5 bm b6 b7 N hv vp W o ms wd) : ms.length = n := by
  have := own_len h.xm; rw [ints_len] at this
  have h2 := h.xm.ints'.1
  omega
/-- only blocks that are no cells have turned, and new ones come -/
theorem Arr.keep (h : Arr n w0 b3 b5 bm b6 b7 N hv vp W o ms wd) (hb : Below w0.heap.size w0 W') (hs : W.heap.size ≤ W'.heap.size) (hk : ∀ (b : Nat) (cs : Array Value) (t : TypeId), W.heap[b]? = some (.cells cs t (0, 0)) → W'.heap[b]? = W.heap[b]?) :
    Arr n w0 b3 b5 bm b6 b7 N hv vp W' o ms wd := by
  obtain ⟨vo, h5, ho⟩ := h.x5
  refine ⟨hb, h.lo, (hk _ _ _ h.x3).trans h.x3, ⟨vo, (hk _ _ _ h5).trans h5, ho.keep fun b e => ?_⟩, (hk _ _ _ h.x6).trans h.x6, (hk _ _ _ h.x7).trans h.x7, h.xm.keep fun b e => ?_, h.xp.keep' fun b x e hw => hk _ _ _ hw.blk, h.ne.1, h.ne.2.1, Nat.le_trans h.ne.2.2 hs⟩
  · obtain ⟨cs, hc⟩ := ho.typed e
    exact hk _ _ _ hc
  · obtain ⟨cs, hc⟩ := h.xm.typed e
    exact hk _ _ _ hc
theorem Arr.alloc (h : Arr n w0 b3 b5 bm b6 b7 N hv vp W o ms wd) (ob : Obj) : Arr n w0 b3 b5 bm b6 b7 N hv vp (W.alloc ob) o ms wd :=
  h.keep (h.below.alloc h.below.size ob) (by simp) fun b cs t hc => Below.heap_alloc W ob b (blk_lt hc)
theorem Arr.turn (h : Arr n w0 b3 b5 bm b6 b7 N hv vp W o ms wd) {row : Option Nat} (hg : W.grownBy W' row) (hr : ∀ r, row = some r → w0.heap.size ≤ r ∧ ∃ ob : Obj, W.heap[r]? = some ob ∧ ob.isCells = false) : Arr n w0 b3 b5 bm b6 b7 N hv vp W' o ms wd := by
  refine h.keep (h.below.grown hg h.below.size fun k e => (hr k e).1) hg.size fun b cs t hc => hg.block b (blk_lt hc) fun e => ?_
  obtain ⟨_, ob, ho, hcl⟩ := hr b e.symm
  rw [hc] at ho
  injection ho with ho
  subst ho
  cases hcl
theorem Arr.setM (h : Arr n w0 b3 b5 bm b6 b7 N hv vp W o ms wd) {k : Nat} (hk : k < n) (x : Int) : Arr n w0 b3 b5 bm b6 b7 N hv vp (W.setCell ⟨bm, k, none⟩ (.int .i64 x)) o (ms.set k x) wd := by
  obtain ⟨vo, h5, ho⟩ := h.x5
  have hl := h.len
  obtain ⟨y, hy⟩ : ∃ y, ms[k]? = some y := ⟨_, List.getElem?_eq_getElem (by omega)⟩
  obtain ⟨g, eg, _, hlt, hc, hf, ⟨cs, hcs⟩, hset⟩ := Own1.at_ h.xm (ints_get hy)
  injection eg with eg
  injection eg with eg
  subst eg
  have hs := hset (.int .i64 x)
  rw [show (ints ms).set k (.int .i64 x) = ints (ms.set k x) from by simp [ints, List.map_set]] at hs
  have kp : ∀ {b : Nat} {cs' : Array Value} {t : TypeId}, W.heap[b]? = some (.cells cs' t (0, 0)) → t ≠ 3 → (W.setCell ⟨bm, k, none⟩ (.int .i64 x)).heap[b]? = W.heap[b]? := fun hb ht => blk_other (blk_ne hb hcs ht)
  refine ⟨h.below.setCell h.lo.2.2.1 _, h.lo, (kp h.x3 (by decide)).trans h.x3, ⟨vo, (kp h5 (by decide)).trans h5, ho.keep fun b e => blk_other fun e' => ?_⟩, (kp h.x6 (by decide)).trans h.x6, (kp h.x7 (by decide)).trans h.x7, hs, h.xp.keep' fun b x e hw => kp hw.blk (by decide), h.ne.1, h.ne.2.1, by simp [World.setCell]; exact h.ne.2.2⟩
  have := (ho.lt e).1
  have := h.ne.2.1
  omega
theorem Arr.wr (h : Arr n w0 b3 b5 bm b6 b7 N hv vp W o ms wd) {g m i x : Nat} {y : Value} (hg : vp = .slice (some ⟨g, 0, none⟩) m m) (hw : Wr W W' g i y) (hwd2 : Word W' g n x) (hx : x < 2 ^ n) : Arr n w0 b3 b5 bm b6 b7 N hv vp W' o ms x := by
  obtain ⟨vo, h5, ho⟩ := h.x5
  have hxp := h.xp
  subst hg
  obtain ⟨em, hb', hwd⟩ := hxp.open_
  have kp : ∀ {b : Nat} {cs' : Array Value} {t : TypeId}, W.heap[b]? = some (.cells cs' t (0, 0)) → t ≠ 124 → W'.heap[b]? = W.heap[b]? := fun hb ht => hw.block (blk_ne hb hwd.blk ht)
  refine ⟨hw.below h.below hb', h.lo, (kp h.x3 (by decide)).trans h.x3, ⟨vo, (kp h5 (by decide)).trans h5, ho.keep fun b e => ?_⟩, (kp h.x6 (by decide)).trans h.x6, (kp h.x7 (by decide)).trans h.x7, h.xm.keep fun b e => ?_, ⟨⟨g, by rw [em], hb', hwd2⟩, hx⟩, h.ne.1, h.ne.2.1, by rw [hw.size]; exact h.ne.2.2⟩
  · obtain ⟨cs, hc⟩ := ho.typed e
    exact kp hc (by decide)
  · obtain ⟨cs, hc⟩ := h.xm.typed e
    exact kp hc (by decide)
/-- one number that is counted down: where it lies -/
theorem Arr.cell (h : Arr n w0 b3 b5 bm b6 b7 N hv vp W o ms wd) {k : Nat} {x : Int} (hk : ms[k]? = some x) : W.cell? ⟨bm, k, none⟩ = some (.int .i64 x) ∧ W.frozen? ⟨bm, k, none⟩ = false ∧ bm < W.heap.size := by
  obtain ⟨g, eg, _, hlt, hc, hf, _⟩ := Own1.at_ h.xm (ints_get hk)
  injection eg with eg
  injection eg with eg
  subst eg
  exact ⟨hc, hf, hlt⟩
end

/-- the order grows by one -/
theorem Arr.append {n : Nat} {w0 : World} {b3 b5 bm b6 b7 N : Nat} {hv vp : Value} {W : World} {o : List Nat} {ms : List Int} {wd : Nat} (h : Arr n w0 b3 b5 bm b6 b7 N hv vp W o ms wd) {vo v' : Value} {w1 : World} {tmp : Obj} {x k : Nat}
    (h5 : W.heap[b5]? = some (.cells #[vo] 25 (0, 0))) (hg : (W.alloc tmp).grownBy w1 vo.ownBlock) (hown : w1.ownsRow N 3 1 v' k (ints (num o) ++ [.int .i64 (x : Int)])) :
    Arr n w0 b3 b5 bm b6 b7 N hv vp (w1.setCell ⟨b5, 0, none⟩ v') (o ++ [x]) ms wd ∧ KeepsOthers W (w1.setCell ⟨b5, 0, none⟩ v') ∧ w1.heap[b5]? = some (.cells #[vo] 25 (0, 0)) := by
  obtain ⟨vo', h5', ho⟩ := h.x5
  have e5 := h5'.symm.trans h5
  injection e5 with e5
  injection e5 with e5
  have e5' : vo' = vo := by simpa using e5
  subst e5'
  have hk : k = (num o).length + 1 := by have := own_len hown; simp [ints_len] at this; omega
  have ho' : OwnI W w0.heap.size vo' (num o) := ho.rebase (Nat.le_trans (Nat.le_trans h.lo.2.2.1 (Nat.le_of_lt h.ne.2.1)) (Nat.le_refl _))
  have hN : w0.heap.size ≤ N := Nat.le_trans h.lo.2.2.1 (Nat.le_of_lt h.ne.2.1)
  have hown1 : Own1 w1 N 3 v' (ints (num o) ++ [.int .i64 (x : Int)]) := by
    unfold Own1
    rw [own_len hown]; exact hown
  have hap := Boxed.appended (B := b5) (n₀ := w0.heap.size) h5 (by decide) ho' h.below.size h.lo.2.1 (m := k) (ys := ints (num o) ++ [.int .i64 (x : Int)]) (v' := v') (w1 := w1) (tmp := tmp) (by have := hown1.rebase hN; unfold Own1 at this; rw [own_len hown] at this; exact this) hg
  obtain ⟨hb1, hb2, hr2, hk2, hbl⟩ := hap
  -- what neither the row nor the box is stays
  have kp : ∀ {b : Nat} {cs' : Array Value} {t : TypeId}, W.heap[b]? = some (.cells cs' t (0, 0)) → vo'.ownBlock ≠ some b → b ≠ b5 → (w1.setCell ⟨b5, 0, none⟩ v').heap[b]? = W.heap[b]? := by
    intro b cs' t hb hne hne5
    rw [blk_other hne5, hg.block b (Nat.lt_of_lt_of_le (blk_lt hb) (by simp)) (fun e => hne e.symm)]
    exact Below.heap_alloc W tmp b (blk_lt hb)
  have nrow : ∀ {b : Nat} {cs' : Array Value} {t : TypeId}, W.heap[b]? = some (.cells cs' t (0, 0)) → t ≠ 3 → vo'.ownBlock ≠ some b := by
    intro b cs' t hb ht e
    obtain ⟨cs, hc⟩ := ho.typed e
    exact blk_ne hb hc ht rfl
  have n5 : ∀ {b : Nat} {cs' : Array Value} {t : TypeId}, W.heap[b]? = some (.cells cs' t (0, 0)) → t ≠ 25 → b ≠ b5 := fun hb ht => blk_ne hb h5 ht
  refine ⟨⟨h.below.trans hbl, h.lo, (kp h.x3 (nrow h.x3 (by decide)) (n5 h.x3 (by decide))).trans h.x3, ⟨v', hb2, ?_⟩, (kp h.x6 (nrow h.x6 (by decide)) (fun e => h.ne.1 e.symm)).trans h.x6, (kp h.x7 (nrow h.x7 (by decide)) (n5 h.x7 (by decide))).trans h.x7, h.xm.keep fun b e => ?_, h.xp.keep' fun b x e hw => kp hw.blk (nrow hw.blk (by decide)) (n5 hw.blk (by decide)), h.ne.1, h.ne.2.1, Nat.le_trans h.ne.2.2 hbl.size⟩, hk2, hb1⟩
  · rw [num_app]
    show Own1 _ _ _ _ (ints (num o ++ num [x]))
    rw [ints_app]
    exact hown1.keep fun b e => blk_other fun e' => by
      subst e'
      obtain ⟨cs, hc⟩ := hown1.typed e
      exact blk_ne hb1 hc (by decide) rfl
  · obtain ⟨cs, hc⟩ := h.xm.typed e
    have hbm : b = bm := by simp [Value.ownBlock] at e; exact e.symm
    subst hbm
    refine kp hc (fun e' => ?_) (n5 hc (by decide))
    have := (ho.lt e').1
    have := h.ne.2.1
    omega
theorem Wr.others {w w' : World} {g i : Nat} {x : Value} (h : Wr w w' g i x) : KeepsOthers w w' := by
  have := KeepsOthers.setCell w ⟨g, i, none⟩ x
  exact ⟨by rw [h.size]; exact Nat.le_refl _, fun k o hk ho => by rw [h.heap]; exact this.same k o hk ho⟩
theorem Marks.others {W W' : World} {ds : List Nat} (h : Marks W ds) (hk : KeepsOthers W W') : Marks W' ds := ⟨h.1, fun D hD => hk.same D _ (h.2 D hD) rfl⟩

theorem Arr.start (n : Nat) (w w1 : World) (hv vp : Value) (hn : n ≤ 1000000)
    (hb : Below ((((w.alloc (.cells #[hv] 60)).alloc (.cells #[.slice none 0 0] 25)).alloc (.cells (Array.replicate n (.int .i64 0)) 3)).alloc (.cells #[.slice (some ⟨w.heap.size + 1 + 1, 0, none⟩) n n] 25)).heap.size
      ((((w.alloc (.cells #[hv] 60)).alloc (.cells #[.slice none 0 0] 25)).alloc (.cells (Array.replicate n (.int .i64 0)) 3)).alloc (.cells #[.slice (some ⟨w.heap.size + 1 + 1, 0, none⟩) n n] 25)) w1)
    (hs : SetAt w1 ((((w.alloc (.cells #[hv] 60)).alloc (.cells #[.slice none 0 0] 25)).alloc (.cells (Array.replicate n (.int .i64 0)) 3)).alloc (.cells #[.slice (some ⟨w.heap.size + 1 + 1, 0, none⟩) n n] 25)).heap.size n vp 0) :
    Arr n w w.heap.size (w.heap.size + 1) (w.heap.size + 1 + 1) (w.heap.size + 1 + 1 + 1) w1.heap.size (w1.heap.size + 1) (hv) vp (w1.alloc (.cells #[vp] 113)) [] (List.replicate n 0) 0 := by
  generalize e1 : w.alloc (.cells #[hv] 60) = W1 at hb hs
  have x1 : W1.heap[w.heap.size]? = some (.cells #[hv] 60 (0, 0)) := by rw [← e1]; exact heap_alloc_new w _
  have z1 : W1.heap.size = w.heap.size + 1 := by rw [← e1]; simp
  have b1 : Below w.heap.size w W1 := by rw [← e1]; exact (Below.refl _ _).alloc (Nat.le_refl _) _
  generalize e2 : W1.alloc (.cells #[.slice none 0 0] 25) = W2 at hb hs
  have x2 : W2.heap[W1.heap.size]? = some (.cells #[.slice none 0 0] 25 (0, 0)) := by rw [← e2]; exact heap_alloc_new W1 _
  have z2 : W2.heap.size = W1.heap.size + 1 := by rw [← e2]; simp
  have b2 : Below W1.heap.size W1 W2 := by rw [← e2]; exact (Below.refl _ _).alloc (Nat.le_refl _) _
  generalize e3 : W2.alloc (.cells (Array.replicate n (.int .i64 0)) 3) = W3 at hb hs
  have x3 : OwnI W3 W2.heap.size (.slice (some ⟨W2.heap.size, 0, none⟩) n n) (List.replicate n 0) := by
    rw [← e3]
    have := Own1.make W2 W2.heap.size 3 (Nat.le_refl _) n hn (.int .i64 0) rfl
    unfold OwnI
    rw [show ints (List.replicate n 0) = List.replicate n (.int .i64 0) from by simp [ints]]
    exact this
  have z3 : W3.heap.size = W2.heap.size + 1 := by rw [← e3]; simp
  have b3 : Below W2.heap.size W2 W3 := by rw [← e3]; exact (Below.refl _ _).alloc (Nat.le_refl _) _
  generalize e4 : W3.alloc (.cells #[.slice (some ⟨w.heap.size + 1 + 1, 0, none⟩) n n] 25) = W4 at hb hs
  have x4 : W4.heap[W3.heap.size]? = some (.cells #[.slice (some ⟨w.heap.size + 1 + 1, 0, none⟩) n n] 25 (0, 0)) := by rw [← e4]; exact heap_alloc_new W3 _
  have z4 : W4.heap.size = W3.heap.size + 1 := by rw [← e4]; simp
  have b4 : Below W3.heap.size W3 W4 := by rw [← e4]; exact (Below.refl _ _).alloc (Nat.le_refl _) _
  have b5 : Below w1.heap.size w1 (w1.alloc (.cells #[vp] 113)) := (Below.refl _ _).alloc (Nat.le_refl _) _
  have hz := hb.size
  have c4 := blw hb b5
  have c3 := blw b4 c4
  have c2 := blw b3 c3
  have c1 := blw b2 c2
  have c0 := blw b1 c1
  clear e1 e2 e3 e4
  have k2 : w.heap.size + 1 = W1.heap.size := by omega
  have k3 : w.heap.size + 1 + 1 = W2.heap.size := by omega
  have k4 : w.heap.size + 1 + 1 + 1 = W3.heap.size := by omega
  rw [k2] at x4 ⊢
  rw [show W1.heap.size + 1 = W2.heap.size from z2.symm] at x4 ⊢
  rw [show W2.heap.size + 1 = W3.heap.size from z3.symm]
  refine ⟨c0, ⟨Nat.le_refl _, by omega, by omega, by omega, by omega⟩, (c1.block _ (by omega)).trans x1, ⟨.slice none 0 0, (c2.block _ (by omega)).trans x2, Own1.nil _ _ _⟩, (c4.block _ (by omega)).trans x4, heap_alloc_new w1 _, (x3.below c3).rebase (by omega), ?_, ⟨by omega, by omega, by simp⟩⟩
  have hs' := hs.below b5
  obtain ⟨⟨g, e, hg, hw⟩, hl⟩ := hs'
  exact ⟨⟨g, e, by omega, hw⟩, hl⟩

/-! Rows of rows that the call made, no two in one block: what is read, written, laid behind them. -/
open Go.RowKit
set_option linter.unusedVariables false

structure Tbl (w : World) (base : Nat) (t e : TypeId) (v : Value) (vs : List Value) (rows : List (List Value)) : Prop where
  out : Own1 w base t v vs
  len : vs.length = rows.length
  own : ∀ (k : Nat) (us : List Value) (u : Value), rows[k]? = some us → vs[k]? = some u → Own1 w base e u us
  apart : ∀ (j k : Nat) (x y : Value) (b : Nat), j ≠ k → vs[j]? = some x → vs[k]? = some y → x.ownBlock = some b → y.ownBlock ≠ some b

section
variable {w w' : World} {base : Nat} {t e : TypeId} {v v' : Value} {vs : List Value} {rows : List (List Value)}
theorem Tbl.nil (w : World) (base : Nat) (t e : TypeId) : Tbl w base t e (.slice none 0 0) [] [] :=
  ⟨Own1.nil _ _ _, rfl, (fun k us u h => by simp at h), (fun j k x y b _ h => by simp at h)⟩
theorem Tbl.at_ (h : Tbl w base t e v vs rows) {k : Nat} {us : List Value} (hk : rows[k]? = some us) : ∃ u, vs[k]? = some u ∧ Own1 w base e u us := by
  have hlt : k < vs.length := by rw [h.len]; exact (List.getElem?_eq_some_iff.1 hk).1
  exact ⟨_, List.getElem?_eq_getElem hlt, h.own k us _ hk (List.getElem?_eq_getElem hlt)⟩
/-- one row: its cell, and itself -/
theorem Tbl.row {A : Option Addr} {n c : Nat} (h : Tbl w base t e (.slice A n c) vs rows) {k : Nat} {us : List Value} (hk : rows[k]? = some us) :
    ∃ g A' c', A = some ⟨g, 0, none⟩ ∧ base ≤ g ∧ g < w.heap.size ∧ vs[k]? = some (.slice A' us.length c') ∧ w.cell? ⟨g, k, none⟩ = some (.slice A' us.length c') ∧ w.frozen? ⟨g, k, none⟩ = false ∧ Own1 w base e (.slice A' us.length c') us := by
  obtain ⟨u, hu, ho⟩ := h.at_ hk
  obtain ⟨A', c', e1, _⟩ := ho.slice
  subst e1
  obtain ⟨g, eg, hb, hlt, hc, hf, _⟩ := Own1.at_ h.out hu
  exact ⟨g, A', c', eg, hb, hlt, hu, hc, hf, ho⟩
/-- what lies elsewhere may turn -/
theorem Tbl.keep (h : Tbl w base t e v vs rows) (hv : ∀ b, v.ownBlock = some b → w'.heap[b]? = w.heap[b]?) (hk : ∀ (k : Nat) (u : Value) (b : Nat), vs[k]? = some u → u.ownBlock = some b → w'.heap[b]? = w.heap[b]?) : Tbl w' base t e v vs rows :=
  ⟨h.out.keep hv, h.len, fun k us u h1 h2 => (h.own k us u h1 h2).keep fun b e => hk k u b h2 e, h.apart⟩
theorem Tbl.lt (h : Tbl w base t e v vs rows) {k b : Nat} {u : Value} (hu : vs[k]? = some u) (hb : u.ownBlock = some b) : base ≤ b ∧ b < w.heap.size ∧ ∃ cs, w.heap[b]? = some (.cells cs e (0, 0)) := by
  have hlt : k < rows.length := by rw [← h.len]; exact (List.getElem?_eq_some_iff.1 hu).1
  have ho := h.own k _ u (List.getElem?_eq_getElem hlt) hu
  exact ⟨(ho.lt hb).1, (ho.lt hb).2, ho.typed hb⟩
theorem Tbl.below (h : Tbl w base t e v vs rows) (hb : Below w.heap.size w w') : Tbl w' base t e v vs rows :=
  h.keep (fun b e => hb.block b (h.out.lt e).2) fun k u b hu e => hb.block b (h.lt hu e).2.1
theorem Tbl.rebase (h : Tbl w base t e v vs rows) {base' : Nat} (hb : base' ≤ base) : Tbl w base' t e v vs rows := ⟨h.out.rebase hb, h.len, fun k us u h1 h2 => (h.own k us u h1 h2).rebase hb, h.apart⟩
/-- a row's block is not the outer one -/
theorem Tbl.ne (h : Tbl w base t e v vs rows) (hte : t ≠ e) {k b : Nat} {u : Value} (hu : vs[k]? = some u) (hb : u.ownBlock = some b) : v.ownBlock ≠ some b := by
  intro e'
  obtain ⟨_, _, cs, hc⟩ := h.lt hu hb
  obtain ⟨cs', hc'⟩ := h.out.typed e'
  exact blk_ne hc' hc hte rfl
/-- one row is another one: in its own block, or in a new one -/
theorem Tbl.update (h : Tbl w base t e v vs rows) (hte : t ≠ e) {g k : Nat} {n c : Nat} (hv : v = .slice (some ⟨g, 0, none⟩) n c) {u u' : Value} {us' : List Value} (hu : vs[k]? = some u)
    {w1 : World} (hk : ∀ b, b < w.heap.size → u.ownBlock ≠ some b → w1.heap[b]? = w.heap[b]?) (ho : Own1 w1 base e u' us') (hb : u'.ownBlock = u.ownBlock ∨ ∀ b, u'.ownBlock = some b → w.heap.size ≤ b) :
    Tbl (w1.setCell ⟨g, k, none⟩ u') base t e v (vs.set k u') (rows.set k us') ∧ w1.cell? ⟨g, k, none⟩ = some u ∧ w1.frozen? ⟨g, k, none⟩ = false := by
  subst hv
  have hgu : u.ownBlock ≠ some g := fun e' => h.ne hte hu e' rfl
  have hout1 : Own1 w1 base t (.slice (some ⟨g, 0, none⟩) n c) vs := h.out.keep fun b e' => by
    have hgb : g = b := by simpa [Value.ownBlock] using e'
    subst hgb
    exact hk _ (h.out.lt (by rfl)).2 hgu
  obtain ⟨g2, eg, _, _, hc, hf, _, hset⟩ := Own1.at_ hout1 hu
  injection eg with eg
  injection eg with eg
  subst eg
  have hu'g : u'.ownBlock ≠ some g := by
    intro e'
    rcases hb with hb | hb
    · rw [hb] at e'; exact hgu e'
    · have := hb g e'
      have := (h.out.lt (b := g) rfl).2
      omega
  have hkl : k < vs.length := (List.getElem?_eq_some_iff.1 hu).1
  refine ⟨⟨hset u', by simp [h.len], fun j us x hj hx => ?_, fun i j x y b hij hx hy hbx => ?_⟩, hc, hf⟩
  · by_cases e' : k = j
    · subst e'
      rw [List.getElem?_set, if_pos rfl, if_pos (by rw [← h.len]; exact hkl)] at hj
      rw [List.getElem?_set, if_pos rfl, if_pos hkl] at hx
      injection hj with hj
      injection hx with hx
      subst hj hx
      exact ho.keep fun b e => blk_other fun e' => hu'g (by rw [e, e'])
    · rw [List.getElem?_set, if_neg e'] at hj hx
      refine (h.own j us x hj hx).keep fun b e => ?_
      have hbg : b ≠ g := fun e2 => h.ne hte hx e (by rw [e2]; rfl)
      rw [blk_other hbg]
      exact hk b (h.lt hx e).2.1 (fun e2 => h.apart k j u x b (fun e3 => e' e3) hu hx e2 e)
  · have key : ∀ {a z : Value} {j : Nat}, k ≠ j → a = u' → vs[j]? = some z → ∀ b, a.ownBlock = some b → z.ownBlock ≠ some b := by
      intro a z j hkj ea hz b hab
      subst ea
      rcases hb with hb | hb
      · rw [hb] at hab; exact h.apart k j u z b hkj hu hz hab
      · intro e2
        have := hb b hab
        have := (h.lt hz e2).2.1
        omega
    rw [List.getElem?_set] at hx hy
    by_cases ei : k = i
    · subst ei
      rw [if_pos rfl, if_pos hkl] at hx
      rw [if_neg hij] at hy
      injection hx with hx
      exact key hij hx.symm hy b hbx
    · rw [if_neg ei] at hx
      by_cases ej : k = j
      · subst ej
        rw [if_pos rfl, if_pos hkl] at hy
        injection hy with hy
        intro e2
        exact key ei hy.symm hx b e2 hbx
      · rw [if_neg ej] at hy
        exact h.apart i j x y b hij hx hy hbx
/-- append onto a row, the new row laid in its place -/
theorem Tbl.appended {g k n c : Nat} (h : Tbl w base t e (.slice (some ⟨g, 0, none⟩) n c) vs rows) (hte : t ≠ e) {u u' : Value} {us' : List Value} (hu : vs[k]? = some u) {tmp : Obj} {w1 : World} (hg : (w.alloc tmp).grownBy w1 u.ownBlock)
    (ho : Own1 w1 base e u' us') (hb : u'.ownBlock = u.ownBlock ∨ u'.ownBlock = some (w.alloc tmp).heap.size) (hbase : base ≤ w.heap.size) :
    Tbl (w1.setCell ⟨g, k, none⟩ u') base t e (.slice (some ⟨g, 0, none⟩) n c) (vs.set k u') (rows.set k us') ∧ w1.cell? ⟨g, k, none⟩ = some u ∧ w1.frozen? ⟨g, k, none⟩ = false ∧ Below base w (w1.setCell ⟨g, k, none⟩ u') := by
  obtain ⟨h1, h2, h3⟩ := h.update hte rfl hu (w1 := w1) (u' := u') (us' := us') (fun b hb hne => (hg.block b (Nat.lt_of_lt_of_le hb (by simp)) (fun e => hne e.symm)).trans (Below.heap_alloc w tmp b hb)) ho (by
    rcases hb with hb | hb
    · exact Or.inl hb
    · refine Or.inr fun b e => ?_
      rw [hb] at e
      injection e with e
      simp at e
      omega)
  refine ⟨h1, h2, h3, ?_⟩
  exact (((Below.refl _ w).alloc hbase tmp).grown hg (by simp; omega) fun j e => (h.lt hu e).1).setCell (p := ⟨g, k, none⟩) (h.out.lt rfl).1 _
/-- one cell of a row -/
theorem Tbl.setIn (h : Tbl w base t e v vs rows) (hte : t ≠ e) {k j : Nat} {us : List Value} {A : Option Addr} {c : Nat} {y : Value} (hk : rows[k]? = some us) (hu : vs[k]? = some (.slice A us.length c)) (hj : us[j]? = some y) (x : Value) :
    ∃ g, A = some ⟨g, 0, none⟩ ∧ base ≤ g ∧ g < w.heap.size ∧ w.cell? ⟨g, j, none⟩ = some y ∧ w.frozen? ⟨g, j, none⟩ = false ∧ Tbl (w.setCell ⟨g, j, none⟩ x) base t e v vs (rows.set k (us.set j x)) := by
  have ho := h.own k us _ hk hu
  obtain ⟨g, eg, hb, hlt, hc, hf, _, hset⟩ := Own1.at_ ho hj
  subst eg
  have hkl : k < rows.length := (List.getElem?_eq_some_iff.1 hk).1
  refine ⟨g, rfl, hb, hlt, hc, hf, h.out.keep fun b e => blk_other fun e' => h.ne hte hu (b := g) rfl (by rw [e, e']), by simp [h.len], fun i us' u' hi hu' => ?_, h.apart⟩
  by_cases e' : k = i
  · subst e'
    rw [List.getElem?_set, if_pos rfl, if_pos hkl] at hi
    injection hi with hi
    rw [hu] at hu'
    injection hu' with hu'
    subst hi hu'
    have := hset x
    rw [show (Value.slice (some ⟨g, 0, none⟩) us.length c) = .slice (some ⟨g, 0, none⟩) us.length c from rfl] at this
    exact this
  · rw [List.getElem?_set, if_neg e'] at hi
    exact (h.own i us' u' hi hu').keep fun b e => blk_other fun e2 => by
      subst e2
      exact h.apart k i _ u' b e' hu hu' rfl e
/-- one row more -/
theorem Tbl.push (h : Tbl w base t e v vs rows) (hte : t ≠ e) {u : Value} {us : List Value} (hk : ∀ b, b < w.heap.size → v.ownBlock ≠ some b → w'.heap[b]? = w.heap[b]?) (hout : Own1 w' base t v' (vs ++ [u])) (ho : Own1 w' base e u us) (hu : ∀ b, u.ownBlock = some b → w.heap.size ≤ b) :
    Tbl w' base t e v' (vs ++ [u]) (rows ++ [us]) := by
  refine ⟨hout, by simp [h.len], fun k us' x hk' hx => ?_, fun i j x y b hij hx hy hb => ?_⟩
  · rcases Nat.lt_or_ge k vs.length with a | a
    · rw [List.getElem?_append_left a] at hx
      rw [List.getElem?_append_left (by rw [← h.len]; exact a)] at hk'
      exact (h.own k us' x hk' hx).keep fun b e => hk b (h.lt hx e).2.1 (h.ne hte hx e)
    · rw [List.getElem?_append_right a] at hx
      rw [List.getElem?_append_right (by rw [← h.len]; exact a)] at hk'
      have e0 : k - vs.length = 0 := by have := (List.getElem?_eq_some_iff.1 hx).1; simp at this; omega
      rw [← h.len] at hk'
      rw [e0] at hx hk'
      simp at hx hk'
      subst hx hk'
      exact ho
  · have last : ∀ {k : Nat} {z : Value}, (vs ++ [u])[k]? = some z → vs[k]? = some z ∨ (k = vs.length ∧ z = u) := by
      intro k z hz
      rcases Nat.lt_or_ge k vs.length with a | a
      · rw [List.getElem?_append_left a] at hz; exact Or.inl hz
      · rw [List.getElem?_append_right a] at hz
        have e0 : k - vs.length = 0 := by have := (List.getElem?_eq_some_iff.1 hz).1; simp at this; omega
        rw [e0] at hz
        simp at hz
        exact Or.inr ⟨by omega, hz.symm⟩
    rcases last hx with hx' | ⟨ei, ex⟩
    · rcases last hy with hy' | ⟨ej, ey⟩
      · exact h.apart i j x y b hij hx' hy' hb
      · intro e2
        rw [ey] at e2
        have := hu b e2
        have := (h.lt hx' hb).2.1
        omega
    · rcases last hy with hy' | ⟨ej, ey⟩
      · intro e2
        rw [ex] at hb
        have := hu b hb
        have := (h.lt hy' e2).2.1
        omega
      · omega
end
/-- rows of numbers are read as such -/
theorem Tbl.irows {w : World} {base : Nat} {n c : Nat} {A : Option Addr} {vs : List Value} {t : TypeId} {ls : List (List Int)} (h : Tbl w base t 3 (.slice A n c) vs (ls.map ints)) : n = ls.length ∧ IRows w A c ls := by
  obtain ⟨hn, hs⟩ := h.out.sl
  have hl : vs.length = ls.length := by rw [h.len]; simp
  refine ⟨by omega, ⟨fun k xs hk => ?_, by have := hs.cap; omega, hs.top, hs.nil⟩⟩
  have hk' : (ls.map ints)[k]? = some (ints xs) := by rw [List.getElem?_map, hk]; rfl
  obtain ⟨u, hu, ho⟩ := h.at_ hk'
  obtain ⟨A', c', e1, hi⟩ := OwnI.ints ho
  subst e1
  obtain ⟨b, off, eA, hc⟩ := hs.cells k _ hu
  exact ⟨b, off, A', c', eA, hc, hi⟩
theorem Tbl.make {w : World} {base : Nat} {t e : TypeId} (hb : base ≤ w.heap.size) (n : Nat) (hn : n ≤ 1000000) {g : Nat} (hg : w.heap.size = g) :
    Tbl (w.alloc (.cells (Array.replicate n (.slice none 0 0)) t)) base t e (.slice (some ⟨g, 0, none⟩) n n) (List.replicate n (.slice none 0 0)) (List.replicate n []) := by
  refine ⟨Own1.make w base t hb n hn _ hg, by simp, fun k us u hk hu => ?_, fun j k x y b _ hx _ hbx => ?_⟩
  · rw [List.getElem?_replicate] at hk hu
    split at hk
    · rw [if_pos (by assumption)] at hu
      injection hk with hk
      injection hu with hu
      subst hk hu
      exact Own1.nil _ _ _
    · cases hk
  · rw [List.getElem?_replicate] at hx
    split at hx
    · injection hx with hx
      subst hx
      cases hbx
    · cases hx

/-! Are all of them places; rows turned round: areVertices, reverse. -/
open Go.RowKit
set_option linter.unusedVariables false

def okRow (n : Nat) (l : List Int) : Bool := l.all fun x => decide (0 ≤ x ∧ x < (n : Int))
def okAll (E : List (List Int)) : Bool := E.all (okRow E.length)
theorem okAll_iff {E : List (List Int)} : okAll E = true ↔ Valid E := by
  unfold okAll okRow Valid
  simp only [List.all_eq_true, decide_eq_true_eq]
theorem take_succ_some {α : Type} {l : List α} {k : Nat} {x : α} (h : l[k]? = some x) : l.take (k + 1) = l.take k ++ [x] := by rw [List.take_add_one, h]; rfl

set_option maxHeartbeats 1600000 in
theorem areV_any (E : List (List Int)) (w : World) (A : Option Addr) (c : Nat) (h : IRows w A c E) (hn : E.length ≤ 1000000) (r : Bool) (hr : okAll E = r) :
    Calls Tryd.prog 77 #[.slice A E.length c] w fun e w' => e = .returned (.bool r) ∧ w = w' := by
  have H := Lib.hid h; clear h
  have HR := Lib.hid hr; clear hr
  go_enter Tryd.func77, Tryd.ntmps77
  go_wp2
  go_loop [9] (fun i => ∃ k : Nat, k ≤ E.length ∧ i = .int .i64 k ∧ Hid ((E.take k).all (okRow E.length) = true)) (fun i => E.length - (intOf i).toNat)
  case atStart => exact ⟨0, Nat.zero_le _, rfl, Lib.hid (by simp)⟩
  case round =>
    obtain ⟨k, hk, rfl, HT⟩ := hrel
    by_cases hlt : k < E.length
    · obtain ⟨b, off, A', c', xs, rfl, hx, hc, hi⟩ := H.out.at_ hlt
      have HX := Lib.hid hx
      have HI := Lib.hid hi
      have hxl : xs.length ≤ 9223372036854775807 := Nat.le_trans hi.len (by have := Sl.top hi; simpa [maxLen] using this)
      clear hx hi
      go_wp2
      go_loop [15] (fun i => ∃ j : Nat, j ≤ xs.length ∧ i = .int .i64 j ∧ Hid (okRow E.length (xs.take j) = true)) (fun i => xs.length - (intOf i).toNat)
      case atStart => exact ⟨0, Nat.zero_le _, rfl, Lib.hid (by simp [okRow])⟩
      case round =>
        obtain ⟨j, hj, rfl, HT2⟩ := hrel
        by_cases hjl : j < xs.length
        · obtain ⟨b2, off2, x, rfl, hy, hcy⟩ := HI.out.at_ hjl
          have HY := Lib.hid hy; clear hy
          by_cases h0 : x < 0
          · have HF : Hid (r = false) := Lib.hid (by
              rw [← HR.out, Bool.eq_false_iff]; intro hok
              have := (okAll_iff.1 hok) xs (List.mem_of_getElem? HX.out) x (List.mem_of_getElem? HY.out)
              omega)
            go_wp2
            go_ret
            rw [HF.out]
            exact ⟨rfl, rfl⟩
          · by_cases h1 : (E.length : Int) ≤ x
            · have HF : Hid (r = false) := Lib.hid (by
                rw [← HR.out, Bool.eq_false_iff]; intro hok
                have := (okAll_iff.1 hok) xs (List.mem_of_getElem? HX.out) x (List.mem_of_getElem? HY.out)
                omega)
              go_wp2
              go_ret
              rw [HF.out]
              exact ⟨rfl, rfl⟩
            · go_wp2
              go_round
              case rel =>
                refine ⟨j + 1, by omega, by go_num, Lib.hid ?_⟩
                have := HT2.out
                rw [take_succ_some HY.out]
                unfold okRow at this ⊢
                rw [List.all_append, this]
                simp; omega
              case measure => simp [intOf]; omega
        · obtain rfl : j = xs.length := by omega
          go_wp2
          go_round
          case rel =>
            refine ⟨k + 1, by omega, by go_num, Lib.hid ?_⟩
            have h2 := HT2.out
            rw [List.take_length] at h2
            rw [take_succ_some HX.out, List.all_append, HT.out]
            simp [h2]
          case measure => simp [intOf]; omega
    · obtain rfl : k = E.length := by omega
      have HF : Hid (r = true) := Lib.hid (by rw [← HR.out]; have := HT.out; rwa [List.take_length] at this)
      go_wp2
      go_ret
      rw [HF.out]
      exact ⟨rfl, rfl⟩

/-! Rows turned round: reverse. -/
open Go.RowKit
set_option linter.unusedVariables false

def rowsV (n : Nat) (f : Nat → List Nat) : List (List Value) := (List.range n).map fun w => ints (num (f w))
theorem rowsV_get {n w : Nat} (f : Nat → List Nat) (h : w < n) : (rowsV n f)[w]? = some (ints (num (f w))) := range_map_get _ h
theorem rowsV_set {n w : Nat} {f g : Nat → List Nat} (hw : w < n) (h : ∀ i, i < n → i ≠ w → g i = f i) : (rowsV n f).set w (ints (num (g w))) = rowsV n g :=
  range_map_set hw rfl fun i hi hne => by rw [h i hi hne]
theorem rowsV_congr {n : Nat} {f g : Nat → List Nat} (h : ∀ i, i < n → f i = g i) : rowsV n f = rowsV n g :=
  List.map_congr_left fun i hi => by rw [h i (by simpa using hi)]
def revA (E : List (List Int)) (k w : Nat) : List Nat := (List.range k).filter fun v => arc E v w
def revM (E : List (List Int)) (k j w : Nat) : List Nat := revA E k w ++ if (w : Int) ∈ (row E k).take j then [k] else []
theorem revA_lt {E : List (List Int)} {k w v : Nat} (h : v ∈ revA E k w) : v < k := filter_range_lt h
theorem revM_zero (E : List (List Int)) (k : Nat) : revM E k 0 = revA E k := by funext w; simp [revM]
theorem revM_end (E : List (List Int)) (k : Nat) : revM E k (row E k).length = revA E (k + 1) := by
  funext w
  unfold revM revA
  rw [List.take_length, List.range_succ, List.filter_append]
  congr 1
  by_cases h : (w : Int) ∈ row E k
  · have : arc E k w = true := arc_iff.2 h
    simp [h, this]
  · have : arc E k w = false := by rw [Bool.eq_false_iff]; intro e; exact h (arc_iff.1 e)
    simp [h, this]
theorem revA_end (E : List (List Int)) (n : Nat) (hn : n = E.length) : revA E n = behL E := by subst hn; rfl
theorem revM_in {E : List (List Int)} {k j u : Nat} (hx : (row E k)[j]? = some (u : Int)) (hu : (u : Int) ∈ (row E k).take j) : revM E k (j + 1) = revM E k j := by
  funext w
  unfold revM
  rw [take_succ_some hx]
  by_cases e : w = u
  · subst e; simp [hu]
  · have : ¬ ((w : Int) = (u : Int)) := by omega
    simp [this]
theorem revM_out {E : List (List Int)} {k j u : Nat} (hx : (row E k)[j]? = some (u : Int)) (hu : (u : Int) ∉ (row E k).take j) : revM E k (j + 1) u = revM E k j u ++ [k] ∧ ∀ i, i ≠ u → revM E k (j + 1) i = revM E k j i := by
  constructor
  · unfold revM
    rw [take_succ_some hx]
    simp [hu]
  · intro i hi
    unfold revM
    rw [take_succ_some hx]
    have : ¬ ((i : Int) = (u : Int)) := by omega
    simp [this]

theorem ints_get1 (x : Int) : ints [x] = [.int .i64 x] := rfl
theorem num_one (k : Nat) : num [k] = [(k : Int)] := rfl
def RetT (w : World) (n : Nat) (rows : List (List Value)) (e : Ending) (w' : World) : Prop := ∃ A c vs, e = .returned (.slice A n c) ∧ Tbl w' w.heap.size 25 3 (.slice A n c) vs rows ∧ Below w.heap.size w w'

set_option maxRecDepth 100000 in
set_option maxHeartbeats 3200000 in
theorem reverse_any (E : List (List Int)) (w : World) (A : Option Addr) (c : Nat) (h : IRows w A c E) (hn : E.length ≤ 4096) (hE : Valid E) (hlen : ∀ l ∈ E, l.length ≤ 1000000) :
    Calls Tryd.prog 78 #[.slice A E.length c] w (RetT w E.length (rowsV E.length (behL E))) := by
  have H := Lib.hid h; clear h
  have HE := Lib.hid hE; clear hE
  have HL := Lib.hid hlen; clear hlen
  have hmk := fun W : World => run_mk W 60 25 _ 24 Tryd.underlying60 info_is rfl (by decide) E.length (by omega) _ _ rfl rfl
  go_enter Tryd.func78, Tryd.ntmps78
  go_wp2
  have hbm : Below w.heap.size w (w.alloc (.cells (Array.replicate E.length (.slice none 0 0)) 25)) := (Below.refl _ _).alloc (Nat.le_refl _) _
  have htm := Tbl.make (w := w) (base := w.heap.size) (t := 25) (e := 3) (Nat.le_refl _) E.length (by omega) rfl
  have h0 : List.replicate E.length ([] : List Value) = rowsV E.length (revA E 0) := by
    unfold rowsV
    apply List.ext_getElem?
    intro i
    rcases Nat.lt_or_ge i E.length with hi | hi
    · rw [range_map_get _ hi, List.getElem?_replicate, if_pos hi]; rfl
    · rw [List.getElem?_eq_none (by simpa using hi), List.getElem?_eq_none (by simpa using hi)]
  rw [h0] at htm
  have HBM := Lib.hid hbm
  have HTM := Lib.hid htm
  clear hbm htm h0 hmk
  generalize w.alloc (.cells (Array.replicate E.length (.slice none 0 0)) 25) = W0 at HBM HTM ⊢
  generalize eg : w.heap.size = g at HTM ⊢
  have HG := Lib.hid eg
  clear eg
  go_loopw [14] (fun i wr => ∃ (k : Nat) (vs : List Value), k ≤ E.length ∧ i = .int .i64 k ∧ Hid (Tbl wr g 25 3 (.slice (some ⟨g, 0, none⟩) E.length E.length) vs (rowsV E.length (revA E k))) ∧ Hid (Below w.heap.size w wr)) (fun i _ => E.length - (intOf i).toNat)
  case atStart => exact ⟨0, _, Nat.zero_le _, rfl, HTM, HBM⟩
  case round =>
    obtain ⟨k, vs, hk, rfl, HT, HB⟩ := hrel
    by_cases hlt : k < E.length
    · obtain ⟨b, off, A', c', xs, rfl, hx, hc0, hi⟩ := H.out.at_ hlt
      have hc := (HB.out.cell (p := ⟨b, off + k, none⟩) (World.block_lt_of_cell? w _ hc0)).trans hc0
      have hxr := row_some hx
      have hxl := HL.out xs (List.mem_of_getElem? hx)
      subst hxr
      have HI := Lib.hid hi
      clear hx hi hc0
      go_wp2
      go_loopw [21] (fun i wq => ∃ (j : Nat) (vs : List Value), j ≤ (row E k).length ∧ i = .int .i64 j ∧ Hid (Tbl wq g 25 3 (.slice (some ⟨g, 0, none⟩) E.length E.length) vs (rowsV E.length (revM E k j))) ∧ Hid (Below w.heap.size w wq)) (fun i _ => (row E k).length - (intOf i).toNat)
      case atStart => exact ⟨0, vs, Nat.zero_le _, rfl, by rw [revM_zero]; exact HT, HB⟩
      case round =>
        obtain ⟨j, vs2, hj, rfl, HT2, HB2⟩ := hrel
        by_cases hjl : j < (row E k).length
        · obtain ⟨b2, off2, y, rfl, hy, hcy0⟩ := HI.out.at_ hjl
          have hcy := (HB2.out.cell (p := ⟨b2, off2 + j, none⟩) (World.block_lt_of_cell? w _ hcy0)).trans hcy0
          obtain ⟨u, rfl, hul, _⟩ := HE.out.at_ (List.mem_of_getElem? hy)
          obtain ⟨g', A2, c2, eg, _, hglt, hvu, hcu, hfu, hou⟩ := HT2.out.row (rowsV_get _ hul)
          injection eg with eg
          injection eg with eg
          subst eg
          obtain ⟨R, hR⟩ : ∃ R, revM E k j u = R := ⟨_, rfl⟩
          rw [hR] at hou hcu hvu
          rw [ints_len, num_len] at hcu hvu hou
          have HY := Lib.hid hy
          have HVU := Lib.hid hvu
          have HOU := Lib.hid hou
          have hRl : R.length ≤ 4097 := by
            rw [← hR]
            unfold revM revA
            have h1 := List.length_filter_le (fun v => arc E v u) (List.range k)
            rw [List.length_append]
            simp only [List.length_range] at h1
            split <;> simp <;> omega
          clear hy hcy0 hvu hou
          by_cases hin : (u : Int) ∈ (row E k).take j
          · have e1 : R = revA E k u ++ [k] := by rw [← hR]; simp [revM, hin]
            obtain ⟨q, hq⟩ : ∃ q, (revA E k u).length = q := ⟨_, rfl⟩
            have e2 : R.length = q + 1 := by rw [e1]; simp [hq]
            have e3 : (ints (num R))[q]? = some (.int .i64 (k : Int)) := by
              rw [e1, num_app]
              refine ints_get ?_
              rw [List.getElem?_append_right (by rw [num_len]; omega), num_len, hq]
              simp [num]
            obtain ⟨g3, eg3, _, _, hcl, _⟩ := Own1.at_ HOU.out e3
            subst eg3
            rw [e2] at hcu
            have hIN := Lib.hid hin
            have HR3 := Lib.hid hR
            have HQ := Lib.hid e2
            have hqb : q ≤ 4096 := by omega
            clear e1 e2 e3 hq hin hR
            have hqz : ((q : Int) + 1 == 0) = false := by rw [beq_eq_false_iff_ne]; omega
            go_wp2
            go_roundw
            case rel => exact ⟨j + 1, vs2, by omega, by go_num, by rw [revM_in HY.out hIN.out]; exact HT2, HB2⟩
            case measure => simp [intOf]; omega
          · obtain ⟨er1, er2⟩ := revM_out HY.out hin
            rw [hR] at er1
            have ER1 := Lib.hid er1
            have ER2 := Lib.hid er2
            have e1 : R = revA E k u := by rw [← hR]; simp [revM, hin]
            have E1 := Lib.hid e1
            have HR3 := Lib.hid hR
            clear er1 er2 e1 hin hR
            by_cases hR0 : R.length = 0
            · have hR0' : (R.length : Int) = 0 := by omega
              have HR0 := Lib.hid hR0
              have HVU0 : Hid (vs2[u]? = some (.slice A2 0 c2)) := Lib.hid (by rw [← HR0.out]; exact HVU.out)
              rw [hR0] at hcu
              clear hR0 hR0'
              go_wp2_with (at_builtin; refine wpList_appg rfl _ _ 25 3 (.int .i64 0) 8 Tryd.underlying25 info_int rfl (by decide) rfl g (.slice A2 0 c2) (ints (num R)) rfl (by have h9 := HOU.out; rw [HR0.out] at h9; exact h9.below ((Below.refl _ _).alloc (Nat.le_refl _) _)) (some ⟨wr.heap.size, 0, none⟩) 1 1 [.int .i64 (k : Int)] rfl rfl (Sl.one rfl) (by simp [Value.oneCell']) (by rw [ints_len, num_len]; simp; omega) (by simp; omega) ?_; intro l A9 c9 w9 el ho9 hg9 hb9 _; obtain ⟨htb, hcg, hfg, hbw⟩ := Tbl.appended HT2.out (by decide) HVU0.out hg9 ho9 hb9 (by omega); have HTB := Lib.hid htb; have HBW := Lib.hid hbw; have EL := Lib.hid el; clear htb hbw ho9 hg9 hb9 el)
              go_roundw
              case rel =>
                refine ⟨j + 1, vs2.set u (.slice A9 l.length c9), by omega, by go_num, Lib.hid ?_, Lib.hid (HB2.out.trans (by rw [HG.out]; exact HBW.out))⟩
                have e2 : (rowsV E.length (revM E k j)).set u l = rowsV E.length (revM E k (j + 1)) := by
                  rw [EL.out, ← ints_get1, ← num_one, ← ints_app, ← num_app, ← ER1.out]
                  exact rowsV_set hul fun i _ hi => ER2.out i hi
                rw [← e2]
                exact HTB.out
              case measure => simp [intOf]; omega
            · obtain ⟨q, hq⟩ : ∃ q, R.length = q + 1 := ⟨R.length - 1, by omega⟩
              obtain ⟨y, hy⟩ : ∃ y, R[q]? = some y := ⟨_, List.getElem?_eq_getElem (by omega)⟩
              have hyk : y < k := by rw [E1.out] at hy; exact revA_lt (List.mem_of_getElem? hy)
              have e3 : (ints (num R))[q]? = some (.int .i64 (y : Int)) := ints_get (by rw [num_get, hy]; rfl)
              obtain ⟨g3, eg3, _, _, hcl, _⟩ := Own1.at_ HOU.out e3
              subst eg3
              have hyz : ((y : Int) == (k : Int)) = false := by rw [beq_eq_false_iff_ne]; omega
              have hqz : ((q : Int) + 1 == 0) = false := by rw [beq_eq_false_iff_ne]; omega
              have hqb : q ≤ 4096 := by omega
              have HQ := Lib.hid hq
              have HVU0 : Hid (vs2[u]? = some (.slice (some ⟨g3, 0, none⟩) (q + 1) c2)) := Lib.hid (by rw [← HQ.out]; exact HVU.out)
              rw [hq] at hcu
              clear hq hy e3 hR0
              go_wp2_with (at_builtin; refine wpList_appg rfl _ _ 25 3 (.int .i64 0) 8 Tryd.underlying25 info_int rfl (by decide) rfl g (.slice (some ⟨g3, 0, none⟩) (q + 1) c2) (ints (num R)) rfl (by have h9 := HOU.out; rw [HQ.out] at h9; exact h9.below ((Below.refl _ _).alloc (Nat.le_refl _) _)) (some ⟨wr.heap.size, 0, none⟩) 1 1 [.int .i64 (k : Int)] rfl rfl (Sl.one rfl) (by simp [Value.oneCell']) (by rw [ints_len, num_len]; simp; omega) (by simp; omega) ?_; intro l A9 c9 w9 el ho9 hg9 hb9 _; obtain ⟨htb, hcg, hfg, hbw⟩ := Tbl.appended HT2.out (by decide) HVU0.out hg9 ho9 hb9 (by omega); have HTB := Lib.hid htb; have HBW := Lib.hid hbw; have EL := Lib.hid el; clear htb hbw ho9 hg9 hb9 el)
              go_roundw
              case rel =>
                refine ⟨j + 1, vs2.set u (.slice A9 l.length c9), by omega, by go_num, Lib.hid ?_, Lib.hid (HB2.out.trans (by rw [HG.out]; exact HBW.out))⟩
                have e2 : (rowsV E.length (revM E k j)).set u l = rowsV E.length (revM E k (j + 1)) := by
                  rw [EL.out, ← ints_get1, ← num_one, ← ints_app, ← num_app, ← ER1.out]
                  exact rowsV_set hul fun i _ hi => ER2.out i hi
                rw [← e2]
                exact HTB.out
              case measure => simp [intOf]; omega
        · obtain rfl : j = (row E k).length := by omega
          go_wp2
          go_roundw
          case rel => exact ⟨k + 1, vs2, by omega, by go_num, by rw [← revM_end]; exact HT2, HB2⟩
          case measure => simp [intOf]; omega
    · obtain rfl : k = E.length := by omega
      go_wp2
      go_ret
      refine ⟨_, _, vs, rfl, ?_, HB.out⟩
      rw [HG.out]
      have := HT.out
      rw [revA_end E _ rfl] at this
      exact this

end Go.Proofs.YtgejonmjmieglaaDoor.Dag
namespace Go.Proofs.YtgejonmjmieglaaDoor.Dag
set_option maxRecDepth 100000
/-! The order: the walk of arrange. -/
open Go.RowKit Go.Shelf
set_option linter.unusedVariables false
attribute [local go_sem] Oper.semAt_some

/-- how long the order is, read off its box -/
def lenAt (W : World) (b : Nat) : Nat := match W.cell? ⟨b, 0, none⟩ with
  | some (.slice _ n _) => n
  | _ => 0
theorem lenAt_arr {n : Nat} {w0 : World} {b3 b5 bm b6 b7 N : Nat} {hv vp : Value} {W : World} {o : List Nat} {ms : List Int} {wd : Nat} (h : Arr n w0 b3 b5 bm b6 b7 N hv vp W o ms wd) : lenAt W b5 = o.length := by
  obtain ⟨vo, h5, ho⟩ := h.x5
  obtain ⟨A, c, e, _⟩ := OwnI.ints ho
  subst e
  have := blk_cell h5 0
  simp only [List.getElem?_toArray, List.getElem?_cons_zero] at this
  unfold lenAt
  rw [this]
  exact num_len o

def RetO (w : World) (o : List Int) (e : Ending) (w' : World) : Prop := ∃ v, e = .returned v ∧ OwnI w' w.heap.size v o ∧ Below w.heap.size w w'

set_option maxRecDepth 100000 in
set_option maxHeartbeats 4000000 in
theorem arrange_in (m : Nat) (E : List (List Int)) (w : World) (A A' : Option Addr) (c c' : Nat) (hn : E.length ≤ 4096) (hE : Valid E) (h1 : IRows w A c (fro E)) (h2 : IRows w A' c' (rev E)) (hT : Tab w) :
    CallsIn Fence.wide m Tryd.prog 79 #[.slice A E.length c, .slice A' E.length c'] w (RetO w (num (order E))) := by
  have H1 := Lib.hid h1; clear h1
  have H2 := Lib.hid h2; clear h2
  have HT := Lib.hid hT; clear hT
  have HE := Lib.hid hE; clear hE
  have hmk := fun W : World => run_mk W 25 3 _ 8 Tryd.underlying25 info_int rfl (by decide) E.length (by omega) _ _ rfl rfl
  have HMK := Lib.hid hmk
  refine callsIn_of_wp_marks Tryd.func79 rfl trivial ?_ rfl
  simp only [Tryd.ntmps79, List.size_toArray, List.length_cons, List.length_nil, Nat.reduceAdd, Nat.reduceSub, Array.replicate_succ, Array.replicate_zero, List.push_toArray, List.append_toArray, List.nil_append, List.cons_append]
  gi_wp2_with fail
  refine wpIn_scope ?_
  gi_wp2_with fail
  refine wide_call (newSet_any E.length _ hn) ?_
  rintro e w1 ⟨vp, rfl, hsp, hb1⟩
  have ha := Arr.start E.length w w1 _ vp (by omega) hb1 hsp
  obtain ⟨gp, kk, hkk, rfl⟩ : ∃ gp kk, Hid (kk = (E.length + 63) / 64) ∧ vp = .slice (some ⟨gp, 0, none⟩) kk kk := by
    obtain ⟨⟨g, e, _⟩, _⟩ := hsp
    exact ⟨g, _, Lib.hid rfl, e⟩
  rw [begM_zero] at ha
  have HA := Lib.hid ha
  clear ha hsp hb1
  gi_wp2_with fail
  generalize w1.alloc (.cells #[.slice (some ⟨gp, 0, none⟩) kk kk] 113) = W0 at HA ⊢
  generalize w.heap.size + 1 + 1 + 1 = b6 at HA ⊢
  generalize w.heap.size + 1 + 1 = bm at HA ⊢
  generalize w.heap.size + 1 = b5 at HA ⊢
  generalize eb3 : w.heap.size = b3 at HA ⊢
  generalize w1.heap.size = b7 at HA ⊢
  clear HMK hmk
  gi_loopw [21] (fun i wr => ∃ (k wd : Nat), k ≤ E.length ∧ i = .int .i64 k ∧ Hid (Arr E.length w b3 b5 bm b6 b7 (b7 + 1) (.slice A' E.length c') (.slice (some ⟨gp, 0, none⟩) kk kk) wr [] (begM E k) wd) ∧ Hid (∀ i, i < E.length → wd.testBit i = begB E k i)) (fun i _ => E.length - (intOf i).toNat)
  case atStart => exact ⟨0, 0, Nat.zero_le _, rfl, HA, Lib.hid (by simp [begB])⟩
  case round =>
    obtain ⟨k, wd, hk, rfl, HR, HB⟩ := hrel
    by_cases hlt : k < E.length
    · obtain ⟨b, off, A2, c2, xs, rfl, hx, hcx, _⟩ := (H1.out.below HR.out.below).at_ (k := k) (by rw [fro_len]; exact hlt)
      rw [fro_get hlt] at hx
      injection hx with hx
      subst hx
      rw [num_len] at hcx
      have hbl : (befL E k).length ≤ 4096 := Nat.le_trans (nodup_len (bef_nodup E k) fun u hu => (bef_mem.1 hu).1) hn
      have e6 := blk_cell HR.out.x6 0
      have e7 := blk_cell HR.out.x7 0
      simp only [List.getElem?_toArray, List.getElem?_cons_zero] at e6 e7
      obtain ⟨em, fm, _⟩ := HR.out.cell (k := k) (range_map_get _ hlt)
      by_cases h0 : (befL E k).length = 0
      · have h0' : ((befL E k).length : Int) = 0 := by omega
        rw [h0] at hcx
        have HRM := HR.out.setM hlt (0 : Int)
        have HRM' := Lib.hid HRM
        have e7' := blk_cell HRM.x7 0
        simp only [List.getElem?_toArray, List.getElem?_cons_zero] at e7'
        have HW := Lib.hid HRM.xp.open_.2.2
        have H0 := Lib.hid h0
        clear HRM h0 h0'
        gi_wp2_with fail
        refine wide_call (add_any gp E.length k wd kk _ HW.out hkk.out hlt hn) ?_
        rintro e w2 ⟨⟨v2, rfl⟩, hwd2, ih, xh, hwr⟩
        have HWR := Lib.hid hwr; have HWD := Lib.hid hwd2; clear hwr hwd2
        gi_wp2_with fail
        go_roundw
        case rel =>
          refine ⟨k + 1, wd ||| 2 ^ k, by omega, by go_num, Lib.hid ?_, Lib.hid fun i hi => ?_⟩
          · rw [← begM_step hlt, H0.out]
            exact HRM'.out.wr rfl HWR.out HWD.out (or_lt HRM'.out.xp.lt hlt)
          · rw [or_bit, HB.out i hi, begB_step1 H0.out]
        case measure => simp [intOf]; omega
      · have h0' : (((befL E k).length : Int) == 0) = false := by rw [beq_eq_false_iff_ne]; omega
        have HRM' := Lib.hid (HR.out.setM hlt ((befL E k).length : Int))
        have H0 := Lib.hid h0
        clear h0
        gi_wp2_with fail
        go_roundw
        case rel =>
          refine ⟨k + 1, wd, by omega, by go_num, Lib.hid ?_, Lib.hid fun i hi => ?_⟩
          · rw [← begM_step hlt]
            exact HRM'.out
          · rw [HB.out i hi, begB_step2 H0.out]
        case measure => simp [intOf]; omega
    · obtain rfl : k = E.length := by omega
      have HR' : Hid (Arr E.length w b3 b5 bm b6 b7 (b7 + 1) (.slice A' E.length c') (.slice (some ⟨gp, 0, none⟩) kk kk) wr [] (missL E []) wd) := Lib.hid (by rw [← begM_end]; exact HR.out)
      have HB' : Hid (∀ i, i < E.length → wd.testBit i = may E [] i) := Lib.hid fun i hi => by rw [HB.out i hi, begB_end hi]
      clear HR HB
      gi_wp2_with fail
      refine wpIn_label ?_
      gi_wp2_with fail
      obtain ⟨INV, hINV⟩ : ∃ INV : Act → World → Prop, INV = fun a' W => ∃ (ds o : List Nat) (wd : Nat), Hid (Arr E.length w b3 b5 bm b6 b7 (b7 + 1) (.slice A' E.length c') (.slice (some ⟨gp, 0, none⟩) kk kk) W o (missL E o) wd) ∧ Hid (∀ i, i < E.length → wd.testBit i = may E o i) ∧ Hid (Ord E o) ∧ Hid (ordF E (E.length - o.length) o = order E) ∧ Hid (Marks W ds) ∧ Hid (∀ D ∈ ds, b7 + 1 ≤ D) ∧
        ∃ q8 q9 q10 q11 q12 q21 q22 q23 q24 q25 q26 q27 q28 q29 q30 q31 q32 q33 q34 q35 q36 q37 q38 q39 q40 q41 q42 q43 q44 q45 q46 q47 q48 q49 q50 q51 q52 q53 q54 q55 q56 q57 q58 q59 q60 q61 q62 q63 q64 q65 q66 q67 q68 q69 q70 q71 q72 : Value, a' = { tmps := #[.slice A E.length c, .slice A' E.length c', undef, .pointer (some ⟨b3, 0, none⟩), .slice none 0 0, .pointer (some ⟨b5, 0, none⟩), .pointer (some ⟨b6, 0, none⟩), .pointer (some ⟨b7, 0, none⟩), q8, q9, q10, q11, q12, .slice A E.length c, .int .i64 E.length, .slice (some ⟨bm, 0, none⟩) E.length E.length, .slice A E.length c, .int .i64 E.length, .slice (some ⟨gp, 0, none⟩) kk kk, .slice A E.length c, .int .i64 E.length, q21, q22, q23, q24, q25, q26, q27, q28, q29, q30, q31, q32, q33, q34, q35, q36, q37, q38, q39, q40, q41, q42, q43, q44, q45, q46, q47, q48, q49, q50, q51, q52, q53, q54, q55, q56, q57, q58, q59, q60, q61, q62, q63, q64, q65, q66, q67, q68, q69, q70, q71, q72], defers := ds.map markD } := ⟨_, rfl⟩
      have HINV := Lib.hid hINV
      clear hINV
      refine wpIn_loop INV (fun _ W => E.length - lenAt W b5) ?atStart ?round
      case atStart =>
        rw [HINV.out]
        exact ⟨[], [], wd, HR', HB', Lib.hid (Ord.nil E), Lib.hid rfl, Lib.hid ⟨List.nodup_nil, (fun D h => by cases h)⟩, Lib.hid (fun D h => by cases h), _, _, _, _, _, _, _, _, _, _, _, _, _, _, _, _, _, _, _, _, _, _, _, _, _, _, _, _, _, _, _, _, _, _, _, _, _, _, _, _, _, _, _, _, _, _, _, _, _, _, _, _, _, _, _, _, _, rfl⟩
      case round =>
        clear HR' HB'
        intro a' W hinv
        rw [HINV.out] at hinv
        obtain ⟨ds, o, wd, HR, HB, HO, HF, HM, HD, q8, q9, q10, q11, q12, q21, q22, q23, q24, q25, q26, q27, q28, q29, q30, q31, q32, q33, q34, q35, q36, q37, q38, q39, q40, q41, q42, q43, q44, q45, q46, q47, q48, q49, q50, q51, q52, q53, q54, q55, q56, q57, q58, q59, q60, q61, q62, q63, q64, q65, q66, q67, q68, q69, q70, q71, q72, rfl⟩ := hinv
        have e7 := blk_cell HR.out.x7 0
        simp only [List.getElem?_toArray, List.getElem?_cons_zero] at e7
        gi_wp2_with fail
        refine range_set (.slice (some ⟨gp, 0, none⟩) kk kk) w.heap.size E.length wd rfl rfl hn
          (fun pre W' => Hid (pre = []) ∧ Hid (Arr E.length w b3 b5 bm b6 b7 (b7 + 1) (.slice A' E.length c') (.slice (some ⟨gp, 0, none⟩) kk kk) W' o (missL E o) wd) ∧ Hid (Marks W' ds))
          (fun cd pre W' => Hid (cd = .exit 3 ∧ ∃ x wd', nextV E o = some x ∧ Arr E.length w b3 b5 bm b6 b7 (b7 + 1) (.slice A' E.length c') (.slice (some ⟨gp, 0, none⟩) kk kk) W' (o ++ [x]) (missL E (o ++ [x])) wd' ∧ (∀ i, i < E.length → wd'.testBit i = may E (o ++ [x]) i)) ∧ Hid (Marks W' ds))
          ?oi ?oix ?tab ?ks ?h0 (fun x => { tmps := #[.slice A E.length c, .slice A' E.length c', undef, .pointer (some ⟨b3, 0, none⟩), .slice none 0 0, .pointer (some ⟨b5, 0, none⟩), .pointer (some ⟨b6, 0, none⟩), .pointer (some ⟨b7, 0, none⟩), q8, q9, .int .i64 (x : Int), q11, q12, .slice A E.length c, .int .i64 E.length, .slice (some ⟨bm, 0, none⟩) E.length E.length, .slice A E.length c, .int .i64 E.length, .slice (some ⟨gp, 0, none⟩) kk kk, .slice A E.length c, .int .i64 E.length, q21, q22, q23, q24, q25, q26, q27, q28, q29, q30, q31, q32, q33, q34, q35, q36, q37, .slice (some ⟨gp, 0, none⟩) kk kk, .func (.func 91) #[.slice (some ⟨gp, 0, none⟩) kk kk] #[], .int .i64 (x : Int), q41, q42, q43, q44, q45, q46, q47, q48, q49, q50, q51, q52, q53, q54, q55, q56, q57, q58, q59, q60, q61, q62, q63, q64, q65, q66, q67, q68, q69, q70, q71, q72], defers := [] }) ?assign ?body ?done ?stop
        case oi =>
          rintro pre X Y row ⟨h1, h2, h3⟩ hg hr
          refine ⟨h1, Lib.hid (h2.out.turn hg fun r e => ⟨Nat.le_trans HR.out.below.size (hr r e).1, (hr r e).2⟩), Lib.hid ⟨h3.out.1, fun D hD => ?_⟩⟩
          rw [hg.block D (blk_lt (h3.out.2 D hD)) fun e => ?_]
          · exact h3.out.2 D hD
          · have := (hr D e.symm).1
            have := blk_lt (HM.out.2 D hD)
            omega
        case oix =>
          rintro cd pre X Y row ⟨h1, h3⟩ hg hr
          refine ⟨Lib.hid ?_, Lib.hid ⟨h3.out.1, fun D hD => ?_⟩⟩
          · obtain ⟨e1, x, wd', e2, e3, e4⟩ := h1.out
            exact ⟨e1, x, wd', e2, e3.turn hg fun r e => ⟨Nat.le_trans HR.out.below.size (hr r e).1, (hr r e).2⟩, e4⟩
          · rw [hg.block D (blk_lt (h3.out.2 D hD)) fun e => ?_]
            · exact h3.out.2 D hD
            · have := (hr D e.symm).1
              have := blk_lt (HM.out.2 D hD)
              omega
        case tab =>
          rintro pre X ⟨_, h2, _⟩
          exact HT.out.below h2.out.below HT.out.lt
        case ks =>
          rintro pre X ⟨_, h2, _⟩
          exact h2.out.xp
        case h0 => exact ⟨Lib.hid rfl, HR, HM⟩
        case assign =>
          intro l x X K hK
          gi_wp2
          exact hK
        case body =>
          rintro l pre x X ⟨h1, h2, h3⟩ ⟨post, hpost⟩
          obtain rfl := h1.out
          have hnx : nextV E o = some x := by rw [next_of_bits HB.out, hpost]; rfl
          obtain ⟨hxl, hxo, hxb⟩ := next_some hnx
          obtain ⟨b, off, A3, c3, eA', hc0, hI0⟩ := H2.out.cells x _ (rev_get hxl)
          subst eA'
          have hmx : may E o x = true := may_iff.2 ⟨hxo, hxb⟩
          obtain ⟨L, hL⟩ : ∃ L, behL E x = L := ⟨_, rfl⟩
          rw [hL, num_len] at hc0
          rw [hL] at hI0
          have hLl : L.length ≤ 4096 := by rw [← hL]; exact Nat.le_trans (nodup_len (beh_nodup E x) fun u hu => (beh_mem.1 hu).1) hn
          have hwd := h2.out.xp.open_.2.2
          have HNX := Lib.hid hnx
          have HXO := Lib.hid hxo
          have HMX := Lib.hid hmx
          have HL := Lib.hid hL
          have HC0 := Lib.hid hc0
          have HI0 := Lib.hid hI0
          have HLT : Hid (wd < 2 ^ E.length) := Lib.hid h2.out.xp.lt
          have HW := Lib.hid hwd
          obtain ⟨QB, hQB⟩ : ∃ QB, QB = bodyEnd (fun pre W' => Hid (pre = []) ∧ Hid (Arr E.length w b3 b5 bm b6 b7 (b7 + 1) (.slice (some ⟨b, off, none⟩) E.length c') (.slice (some ⟨gp, 0, none⟩) kk kk) W' o (missL E o) wd) ∧ Hid (Marks W' ds))
            (fun cd pre W' => Hid (cd = .exit 3 ∧ ∃ x wd', nextV E o = some x ∧ Arr E.length w b3 b5 bm b6 b7 (b7 + 1) (.slice (some ⟨b, off, none⟩) E.length c') (.slice (some ⟨gp, 0, none⟩) kk kk) W' (o ++ [x]) (missL E (o ++ [x])) wd' ∧ (∀ i, i < E.length → wd'.testBit i = may E (o ++ [x]) i)) ∧ Hid (Marks W' ds)) ([] ++ [x]) X := ⟨_, rfl⟩
          rw [← hQB]
          have HQB := Lib.hid hQB
          clear hnx hxo hxb hpost hwd h1 hQB hmx hL hc0 hI0
          have k7 := blk_cell h2.out.x7 0
          simp only [List.getElem?_toArray, List.getElem?_cons_zero] at k7
          gi_wp2_with fail
          refine wide_call_in (remove_any gp E.length x wd kk _ HW.out hkk.out hxl hn) ?_
          rintro e X1 ⟨⟨v1, rfl⟩, hwd1, i1, x1, hwr⟩
          have HA1 := Lib.hid (h2.out.wr rfl hwr hwd1 (clr_lt HLT.out))
          have HK1 := Lib.hid hwr.others
          clear k7 hwr hwd1
          obtain ⟨vo, k5, ho⟩ := HA1.out.x5
          have f5 := blk_frozen k5 0
          have c5 := blk_cell k5 0
          simp only [List.getElem?_toArray, List.getElem?_cons_zero] at c5
          have K5 := Lib.hid k5
          have HOW := Lib.hid ho
          have hol : (ints (num o)).length ≤ 4096 := by rw [ints_len, num_len]; exact Nat.le_trans HO.out.len hn
          obtain ⟨i0, hi0, hz0, hz1, hz2⟩ := info_parts info_int
          clear k5 ho
          gi_wp2_with (gi_at_builtin; refine wpListIn_append_own _ rfl _ _ 25 rfl (b7 + 1) 3 i0 (.int .i64 0) 1 8 Tryd.underlying25 hi0 hz0 hz1 hz2 rfl (by decide) vo _ _ rfl (World.ownsRow.alloc HOW.out _) ⟨X1.heap.size, 0, none⟩ 1 1 [.int .i64 (x : Int)] rfl rfl (cell_one_new _ _ _) (by simp [Value.oneCell']) (by simp only [maxLen]; omega) (by omega) (by have := HA1.out.ne.2.2; simp; omega) ?_; intro v' Y hown' hgrow _; obtain ⟨g9, cap9, rfl⟩ := ownsRow_succ hown'; obtain ⟨hap, hko, k9⟩ := HA1.out.append K5.out hgrow hown'; have c9 := blk_cell k9 0; have f9 := blk_frozen k9 0; simp only [List.getElem?_toArray, List.getElem?_cons_zero] at c9; have HAP := Lib.hid hap; have HKO := Lib.hid (HK1.out.trans hko); have x3 := blk_cell hap.x3 0; simp only [List.getElem?_toArray, List.getElem?_cons_zero] at x3; have hcx := (hap.below.cell (p := ⟨b, off + x, none⟩) (World.block_lt_of_cell? w _ HC0.out)).trans HC0.out; clear hap hko k9 hown' hgrow)
          generalize Y.setCell ⟨b5, 0, none⟩ (.slice (some ⟨g9, 0, none⟩) ((ints (num o)).length + 1) cap9) = Z at HAP HKO hcx x3 ⊢
          clear c9 f9 c5 f5 hi0 hz0 hz1 hz2
          gi_loopw [53] (fun i wr => ∃ (j wd' : Nat), j ≤ L.length ∧ i = .int .i64 j ∧ Hid (Arr E.length w b3 b5 bm b6 b7 (b7 + 1) (.slice (some ⟨b, off, none⟩) E.length c') (.slice (some ⟨gp, 0, none⟩) kk kk) wr (o ++ [x]) (midM E o (L.take j)) wd') ∧ Hid (∀ i, i < E.length → wd'.testBit i = midB E o x (L.take j) i) ∧ Hid (KeepsOthers X wr)) (fun i _ => L.length - (intOf i).toNat)
          case atStart =>
            refine ⟨0, clr wd x, Nat.zero_le _, rfl, Lib.hid (by rw [List.take_zero, mid_start]; exact HAP.out), Lib.hid fun i hi => ?_, HKO⟩
            rw [clr_bit, HB.out i hi, List.take_zero]
            simp [midB, Bool.and_comm]
          case round =>
            obtain ⟨j, wd', hj, rfl, HR2, HB2, HK2⟩ := hrel
            by_cases hjl : j < L.length
            · obtain ⟨bb, off3, y, rfl, hy, hcy0⟩ := HI0.out.at_ (k := j) (by rw [num_len]; exact hjl)
              have hcy := (HR2.out.below.cell (p := ⟨bb, off3 + j, none⟩) (World.block_lt_of_cell? w _ hcy0)).trans hcy0
              obtain ⟨u, hu⟩ : ∃ u, L[j]? = some u := ⟨_, List.getElem?_eq_getElem hjl⟩
              rw [num_get, hu] at hy
              injection hy with hy
              subst hy
              have hum : u ∈ behL E x := by rw [HL.out]; exact List.mem_of_getElem? hu
              obtain ⟨hul, hua⟩ := beh_mem.1 hum
              have htk : L.take (j + 1) = L.take j ++ [u] := by rw [List.take_add_one, hu]; rfl
              have hut : u ∉ L.take j := by
                intro hin
                have hnd : (L.take (j + 1)).Nodup := List.Nodup.sublist (List.take_sublist _ _) (by rw [← HL.out]; exact beh_nodup E x)
                rw [htk, List.nodup_append] at hnd
                exact hnd.2.2 u hin u (by simp) rfl
              have hcn : 1 ≤ cntN E o u := by
                rcases Nat.eq_zero_or_pos (cntN E o u) with h0 | h0
                · exact absurd (cnt_zero.1 h0 x (bef_mem.2 ⟨hxl, hua⟩)) HXO.out
                · exact h0
              obtain ⟨cm, fm, _⟩ := HR2.out.cell (mid_get hul hut)
              have e6 := blk_cell HR2.out.x6 0
              simp only [List.getElem?_toArray, List.getElem?_cons_zero] at e6
              have hms := mid_step (E := E) (o := o) (P := L.take j) hul
              have HTK := Lib.hid htk
              have HUT := Lib.hid hut
              clear hcy0 hu hum hua hut htk
              by_cases h1 : cntN E o u = 1
              · have HCN := Lib.hid h1
                rw [h1] at cm hms
                have HM2 := Lib.hid (HR2.out.setM hul (0 : Int))
                have hms' : (midM E o (L.take j)).set u 0 = midM E o (L.take j ++ [u]) := hms
                have HMS := Lib.hid hms'
                obtain ⟨cm', _, _⟩ := HM2.out.cell (k := u) (x := 0) (by rw [List.getElem?_set]; simp; rw [HR2.out.len]; exact hul)
                have e6' := blk_cell HM2.out.x6 0
                have e7' := blk_cell HM2.out.x7 0
                simp only [List.getElem?_toArray, List.getElem?_cons_zero] at e6' e7'
                have HW2 := Lib.hid HM2.out.xp.open_.2.2
                clear hms hms' h1
                gi_wp2_with fail
                refine wide_call_in (add_any gp E.length u wd' kk _ HW2.out hkk.out hul hn) ?_
                rintro e X5 ⟨⟨v5, rfl⟩, hwd5, i5, x5, hwr5⟩
                have HA5 := Lib.hid (HM2.out.wr rfl hwr5 hwd5 (or_lt HM2.out.xp.lt hul))
                have HK5 := Lib.hid ((HK2.out.trans (KeepsOthers.setCell _ _ _)).trans hwr5.others)
                clear hwr5 hwd5
                gi_wp2_with fail
                go_roundw
                case rel =>
                  refine ⟨j + 1, wd' ||| 2 ^ u, by omega, by go_num, Lib.hid ?_, Lib.hid fun i hi => ?_, HK5⟩
                  · rw [HTK.out, ← HMS.out]; exact HA5.out
                  · rw [or_bit, HB2.out i hi, HTK.out, midB_step1 HCN.out]
                case measure => simp [intOf]; omega
              · obtain ⟨cn, hcn'⟩ : ∃ cn, cntN E o u = cn := ⟨_, rfl⟩
                rw [hcn'] at cm hms h1 hcn
                have h2' : 2 ≤ cn := by omega
                have hz : ((cn : Int) - 1 == 0) = false := by rw [beq_eq_false_iff_ne]; omega
                have hcb : cn ≤ 4096 := by
                  rw [← hcn']
                  unfold cntN
                  exact Nat.le_trans (List.length_filter_le _ _) (Nat.le_trans (nodup_len (bef_nodup E u) fun v hv => (bef_mem.1 hv).1) hn)
                have HCN := Lib.hid hcn'
                have HM2 := Lib.hid (HR2.out.setM hul ((cn : Int) - 1))
                have HMS := Lib.hid hms
                obtain ⟨cm', _, _⟩ := HM2.out.cell (k := u) (x := (cn : Int) - 1) (by rw [List.getElem?_set]; simp; rw [HR2.out.len]; exact hul)
                have e6' := blk_cell HM2.out.x6 0
                simp only [List.getElem?_toArray, List.getElem?_cons_zero] at e6'
                clear hms hcn'
                gi_wp2_with fail
                go_roundw
                case rel =>
                  refine ⟨j + 1, wd', by omega, by go_num, Lib.hid ?_, Lib.hid fun i hi => ?_, Lib.hid (HK2.out.trans (KeepsOthers.setCell _ _ _))⟩
                  · rw [HTK.out, ← HMS.out]; exact HM2.out
                  · rw [HB2.out i hi, HTK.out, midB_step2 (by rw [HCN.out]; exact h1)]
                case measure => simp [intOf]; omega
            · obtain rfl : j = L.length := by omega
              gi_wp2_with fail
              rw [HQB.out]
              refine ⟨HK2.out, Lib.hid ⟨rfl, x, wd', HNX.out, ?_, fun i hi => ?_⟩, Lib.hid (h3.out.others HK2.out)⟩
              · have := HR2.out
                rw [List.take_length, ← HL.out, mid_end HXO.out hxl] at this
                exact this
              · rw [HB2.out i hi, List.take_length, ← HL.out, midB_end HO.out HMX.out hxl hi]
        case done =>
          rintro D X hD ⟨h1, h2, h3⟩ hdef
          have hnx : nextV E o = none := by rw [next_of_bits HB.out, h1.out]; rfl
          have hoo : order E = o := by rw [← HF.out, ordF_none _ hnx]
          have HOO := Lib.hid hoo
          clear hoo hnx
          obtain ⟨vo, k5, ho⟩ := h2.out.x5
          have c5 := blk_cell k5 0
          simp only [List.getElem?_toArray, List.getElem?_cons_zero] at c5
          have HOW := Lib.hid ho
          have HDEF := Lib.hid hdef
          clear k5 ho hdef
          gi_wp2_with fail
          refine leaves_marks (base := w.heap.size) (D :: ds) X ⟨List.nodup_cons.2 ⟨fun hin => ?_, h3.out.1⟩, fun D' hD' => ?_⟩ (fun D' hD' => ?_) fun W' hB' hk hsz => ?_
          · have := blk_lt (HM.out.2 D hin)
            omega
          · rcases List.mem_cons.1 hD' with rfl | hin
            · exact HDEF.out
            · exact h3.out.2 D' hin
          · rcases List.mem_cons.1 hD' with rfl | hin
            · exact Nat.le_trans HR.out.below.size hD
            · have := HD.out D' hin
              have := HR.out.lo.2.2.2.2
              omega
          · refine ⟨_, results_tmp rfl _ _ _, _, rfl, ?_, h2.out.below.trans hB'⟩
            rw [HOO.out]
            refine (HOW.out.rebase (base' := w.heap.size) (by have := h2.out.lo.2.2.2.2; omega)).keep fun bo e => hk bo fun D' hD' e' => ?_
            subst e'
            obtain ⟨cs, hcs⟩ := HOW.out.typed e
            rcases List.mem_cons.1 hD' with rfl | hin
            · rw [HDEF.out] at hcs; cases hcs
            · rw [h3.out.2 _ hin] at hcs; cases hcs
        case stop =>
          rintro D cd pre X hD ⟨h1, h3⟩ hdef
          obtain ⟨rfl, x, wd', e2, e3, e4⟩ := h1.out
          have E3 := Lib.hid e3
          have E4 := Lib.hid e4
          have E2 := Lib.hid e2
          have HDEF := Lib.hid hdef
          clear e2 e3 e4 h1 hdef
          gi_wp2_with fail
          rw [HINV.out]
          have hl := (HO.out.snoc E2.out).len
          refine ⟨⟨D :: ds, o ++ [x], wd', E3, E4, Lib.hid (HO.out.snoc E2.out), Lib.hid (by rw [← ordF_next HO.out E2.out]; exact HF.out), Lib.hid ⟨List.nodup_cons.2 ⟨fun hin => ?_, h3.out.1⟩, fun D' hD' => ?_⟩, Lib.hid fun D' hD' => ?_, _, _, _, _, _, _, _, _, _, _, _, _, _, _, _, _, _, _, _, _, _, _, _, _, _, _, _, _, _, _, _, _, _, _, _, _, _, _, _, _, _, _, _, _, _, _, _, _, _, _, _, _, _, _, _, _, _, rfl⟩, ?_⟩
          · have := blk_lt (HM.out.2 D hin)
            omega
          · rcases List.mem_cons.1 hD' with rfl | hin
            · exact HDEF.out
            · exact h3.out.2 D' hin
          · rcases List.mem_cons.1 hD' with rfl | hin
            · exact Nat.le_trans HR.out.ne.2.2 hD
            · exact HD.out D' hin
          · rw [lenAt_arr E3.out, lenAt_arr HR.out]
            simp at hl ⊢
            omega

/-! New, and the graph in memory. -/
open Go.RowKit
set_option linter.unusedVariables false

theorem rowsV_rev (E : List (List Int)) : rowsV E.length (behL E) = (rev E).map ints := by unfold rowsV rev; rw [List.map_map]; rfl
theorem rev_rows_len {E : List (List Int)} (hn : E.length ≤ 4096) : ∀ l ∈ rev E, l.length ≤ 1000000 := by
  intro l hl
  obtain ⟨v, _, rfl⟩ := List.mem_map.1 hl
  rw [num_len]
  have := nodup_len (beh_nodup E v) fun u hu => (beh_mem.1 hu).1
  omega
def RetI (w : World) (n : Nat) (ls : List (List Int)) (e : Ending) (w' : World) : Prop := ∃ A c, e = .returned (.slice A n c) ∧ IRows w' A c ls ∧ Below w.heap.size w w'
theorem reverse_at (E : List (List Int)) (n : Nat) (he : E.length = n) (w : World) (A : Option Addr) (c : Nat) (h : IRows w A c E) (hn : n ≤ 4096) (hE : Valid E) (hlen : ∀ l ∈ E, l.length ≤ 1000000) :
    Calls Tryd.prog 78 #[.slice A n c] w (RetI w n (rev E)) := by
  subst he
  refine (reverse_any E w A c h hn hE hlen).mono ?_
  rintro e w' ⟨A', c', vs, rfl, ht, hb⟩
  rw [rowsV_rev] at ht
  exact ⟨A', c', rfl, ht.irows.2, hb⟩
theorem arrange_any (E : List (List Int)) (n : Nat) (he : E.length = n) (w : World) (A A' : Option Addr) (c c' : Nat) (hn : n ≤ 4096) (hE : Valid E) (h1 : IRows w A c (fro E)) (h2 : IRows w A' c' (rev E)) (hT : Tab w) :
    Calls Tryd.prog 79 #[.slice A n c, .slice A' n c'] w (RetO w (num (order E))) := by
  subst he
  exact (callsIn_wide (n := 0)).1 (arrange_in 0 E w A A' c c' hn hE h1 h2 hT)

/-- a graph in memory -/
structure Gr (w : World) (E : List (List Int)) (p : Value) : Prop where
  ex : ∃ g A1 c1 A2 c2 A3 c3, p = .pointer (some ⟨g, 0, none⟩) ∧ w.heap[g]? = some (.cells #[.slice A1 E.length c1, .slice A2 E.length c2, .slice A3 E.length c3] 105 (0, 0)) ∧
    IRows w A1 c1 (fro E) ∧ IRows w A2 c2 (rev E) ∧ Ints w A3 c3 (num (order E))
  full : (order E).length = E.length
theorem Gr.below {w w' : World} {E : List (List Int)} {p : Value} (h : Gr w E p) (hb : Below w.heap.size w w') : Gr w' E p := by
  obtain ⟨g, A1, c1, A2, c2, A3, c3, e, hg, h1, h2, h3⟩ := h.ex
  exact ⟨⟨g, A1, c1, A2, c2, A3, c3, e, (hb.block g (blk_lt hg)).trans hg, h1.below hb, h2.below hb, h3.below hb⟩, h.full⟩

def newE (E : List (List Int)) : Int := if okAll E then (if (order E).length < E.length then 40 else 0) else 2
theorem newE_arg {E : List (List Int)} (h : okAll E = false) : newE E = 2 := by simp [newE, h]
theorem newE_cyc {E : List (List Int)} (h : okAll E = true) (h2 : (order E).length < E.length) : newE E = 40 := by simp [newE, h, h2]
theorem newE_ok {E : List (List Int)} (h : okAll E = true) (h2 : ¬ (order E).length < E.length) : newE E = 0 := by simp only [newE, h, if_true, if_neg h2]
def RetNew (w : World) (E : List (List Int)) (e : Ending) (w' : World) : Prop :=
  ∃ p, e = .returned (.tuple #[p, .int .i64 (newE E)]) ∧ Below w.heap.size w w' ∧ (newE E = 0 → Gr w' E p) ∧ (newE E ≠ 0 → p = .pointer none)

set_option maxHeartbeats 1600000 in
theorem new_any (E : List (List Int)) (n : Nat) (he : E.length = n) (w : World) (A : Option Addr) (c : Nat) (h : IRows w A c E) (hn : n ≤ 4096) (hlen : ∀ l ∈ E, l.length ≤ 1000000) (hT : Tab w) :
    Calls Tryd.prog 59 #[.slice A n c] w (RetNew w E) := by
  subst he
  have H := Lib.hid h; clear h
  have HT := Lib.hid hT; clear hT
  have HL := Lib.hid hlen; clear hlen
  cases hok : okAll E with
  | false =>
    have HE := Lib.hid (newE_arg hok)
    have HOK := Lib.hid hok; clear hok
    go_enter Tryd.func59, Tryd.ntmps59
    go_wp2_with fail
    refine (areV_any E _ _ _ H.out (by omega) false HOK.out).mono ?_
    rintro e w1 ⟨rfl, rfl⟩
    go_wp2_with fail
    go_ret2
    exact ⟨_, by rw [HE.out]; rfl, Below.refl _ _, (fun h => by rw [HE.out] at h; cases h), fun _ => rfl⟩
  | true =>
    have HV := Lib.hid (okAll_iff.1 hok)
    have HOK := Lib.hid hok; clear hok
    obtain ⟨m, hm⟩ : ∃ m, (order E).length = m := ⟨_, rfl⟩
    have hml : m ≤ E.length := by rw [← hm]; exact (order_ord E).len
    have HM := Lib.hid hm; clear hm
    by_cases hlt : m < E.length
    · have HE := Lib.hid (newE_cyc HOK.out (by rw [HM.out]; exact hlt))
      go_enter Tryd.func59, Tryd.ntmps59
      go_wp2_with fail
      refine (areV_any E _ _ _ H.out (by omega) true HOK.out).mono ?_
      rintro e w1 ⟨rfl, rfl⟩
      go_wp2_with fail
      refine (reverse_at E _ rfl _ _ _ H.out hn HV.out HL.out).mono ?_
      rintro e w2 ⟨A2, c2, rfl, h2, hb2⟩
      have H2 := Lib.hid h2; have HB2 := Lib.hid hb2; clear h2 hb2
      go_wp2_with fail
      refine (reverse_at (rev E) _ (rev_len E) _ _ _ H2.out hn (valid_rev E) (rev_rows_len hn)).mono ?_
      rintro e w3 ⟨A3, c3, rfl, h3, hb3⟩
      rw [rev_rev] at h3
      have H3 := Lib.hid h3; have HB3 := Lib.hid hb3; clear h3 hb3
      go_wp2_with fail
      refine (arrange_any E _ rfl _ _ _ _ _ hn HV.out H3.out (H2.out.below HB3.out) (HT.out.below (blw HB2.out HB3.out) HT.out.lt)).mono ?_
      rintro e w4 ⟨v4, rfl, h4, hb4⟩
      have HB4 := Lib.hid (blw (blw HB2.out HB3.out) hb4)
      obtain ⟨A4, c4, rfl, h4i⟩ := OwnI.ints h4
      clear h4 hb4 h4i
      have hl4 : (num (order E)).length = m := by rw [num_len, HM.out]
      rw [hl4]
      clear hl4
      go_wp2_with fail
      go_ret2
      exact ⟨_, by rw [HE.out]; rfl, HB4.out, (fun h => by rw [HE.out] at h; cases h), fun _ => rfl⟩
    · have HE := Lib.hid (newE_ok HOK.out (by rw [HM.out]; exact hlt))
      obtain rfl : m = E.length := by omega
      clear hlt
      go_enter Tryd.func59, Tryd.ntmps59
      go_wp2_with fail
      refine (areV_any E _ _ _ H.out (by omega) true HOK.out).mono ?_
      rintro e w1 ⟨rfl, rfl⟩
      go_wp2_with fail
      refine (reverse_at E _ rfl _ _ _ H.out hn HV.out HL.out).mono ?_
      rintro e w2 ⟨A2, c2, rfl, h2, hb2⟩
      have H2 := Lib.hid h2; have HB2 := Lib.hid hb2; clear h2 hb2
      go_wp2_with fail
      refine (reverse_at (rev E) _ (rev_len E) _ _ _ H2.out hn (valid_rev E) (rev_rows_len hn)).mono ?_
      rintro e w3 ⟨A3, c3, rfl, h3, hb3⟩
      rw [rev_rev] at h3
      have H3 := Lib.hid h3; have HB3 := Lib.hid hb3; clear h3 hb3
      go_wp2_with fail
      refine (arrange_any E _ rfl _ _ _ _ _ hn HV.out H3.out (H2.out.below HB3.out) (HT.out.below (blw HB2.out HB3.out) HT.out.lt)).mono ?_
      rintro e w4 ⟨v4, rfl, h4, hb4⟩
      have HBX := Lib.hid hb4
      have HB4 := Lib.hid (blw (blw HB2.out HB3.out) hb4)
      obtain ⟨A4, c4, rfl, h4i⟩ := OwnI.ints h4
      have H4 := Lib.hid h4i
      clear h4 hb4 h4i
      have hl4 : (num (order E)).length = E.length := by rw [num_len, HM.out]
      rw [hl4]
      clear hl4
      go_wp2_with fail
      go_ret2
      have hbl : Below w4.heap.size w4 (w4.alloc (.cells #[.slice A3 E.length c3, .slice A2 E.length c2, .slice A4 E.length c4] 105)) := (Below.refl _ _).alloc (Nat.le_refl _) _
      refine ⟨_, by rw [HE.out]; rfl, blw HB4.out hbl, fun _ => ⟨⟨_, A3, c3, A2, c2, A4, c4, rfl, heap_alloc_new w4 _, H3.out.below (blw HBX.out hbl), H2.out.below (blw (blw HB3.out HBX.out) hbl), H4.out.below hbl⟩, HM.out⟩, fun h => absurd HE.out h⟩

end Go.Proofs.YtgejonmjmieglaaDoor.Dag

