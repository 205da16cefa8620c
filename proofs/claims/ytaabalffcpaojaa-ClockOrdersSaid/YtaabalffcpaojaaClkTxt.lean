/- Plain texts of numbers: decimal digits, the number of a text, and that each is the other's. No Go text here. -/
namespace Go.Proofs.Ytaabalffcpaojaa

def dig (n : Nat) : UInt8 := UInt8.ofNat (48 + n % 10)
theorem dig_toNat (n : Nat) : (dig n).toNat = 48 + n % 10 := by
  unfold dig; rw [UInt8.toNat_ofNat']; omega

/-- the digits, the last one first; f: how many steps at most -/
def rtxF : Nat → Nat → List UInt8
  | 0, n => [dig n]
  | f + 1, n => if n < 10 then [dig n] else dig n :: rtxF f (n / 10)
def rtx (n : Nat) : List UInt8 := rtxF n n

def txt (n : Nat) : List UInt8 := (rtx n).reverse

theorem rtxF_any (f : Nat) : ∀ g n : Nat, n ≤ f → n ≤ g → rtxF f n = rtxF g n := by
  induction f with
  | zero =>
    intro g n hf _
    obtain rfl : n = 0 := by omega
    cases g with
    | zero => rfl
    | succ g => rfl
  | succ f ih =>
    intro g n hf hg
    cases g with
    | zero =>
      obtain rfl : n = 0 := by omega
      rfl
    | succ g =>
      show (if n < 10 then [dig n] else dig n :: rtxF f (n / 10)) = (if n < 10 then [dig n] else dig n :: rtxF g (n / 10))
      by_cases h : n < 10
      · rw [if_pos h, if_pos h]
      · rw [if_neg h, if_neg h, ih g (n / 10) (by omega) (by omega)]
theorem rtx_small {n : Nat} (h : n < 10) : rtx n = [dig n] := by
  unfold rtx
  cases n with
  | zero => rfl
  | succ k =>
    show (if k + 1 < 10 then [dig (k + 1)] else dig (k + 1) :: rtxF k ((k + 1) / 10)) = _
    rw [if_pos h]
theorem rtx_more {n : Nat} (h : ¬ n < 10) : rtx n = dig n :: rtx (n / 10) := by
  unfold rtx
  cases n with
  | zero => exact absurd (by omega) h
  | succ k =>
    show (if k + 1 < 10 then [dig (k + 1)] else dig (k + 1) :: rtxF k ((k + 1) / 10)) = _
    rw [if_neg h, rtxF_any k ((k + 1) / 10) ((k + 1) / 10) (by omega) (by omega)]
theorem txt_small {n : Nat} (h : n < 10) : txt n = [dig n] := by rw [txt, rtx_small h]; rfl
theorem txt_more {n : Nat} (h : ¬ n < 10) : txt n = txt (n / 10) ++ [dig n] := by rw [txt, rtx_more h, List.reverse_cons]; rfl

theorem rtx_pos (n : Nat) : 1 ≤ (rtx n).length := by
  by_cases h : n < 10
  · rw [rtx_small h]; simp
  · rw [rtx_more h]; simp
theorem txt_len (n : Nat) : (txt n).length = (rtx n).length := by simp [txt]

theorem rtx_get (k : Nat) : ∀ n : Nat, k < (rtx n).length → (rtx n)[k]? = some (dig (n / 10 ^ k)) := by
  induction k with
  | zero =>
    intro n _
    by_cases h : n < 10
    · rw [rtx_small h]; simp
    · rw [rtx_more h]; simp
  | succ k ih =>
    intro n hk
    by_cases h : n < 10
    · rw [rtx_small h] at hk; simp at hk
    · rw [rtx_more h] at hk ⊢
      simp at hk
      rw [List.getElem?_cons_succ, ih _ hk, Nat.div_div_eq_div_mul, Nat.pow_succ, Nat.mul_comm 10]
theorem txt_get {n k : Nat} (hk : k < (txt n).length) : (txt n)[(txt n).length - 1 - k]? = some (dig (n / 10 ^ k)) := by
  rw [txt_len] at hk
  rw [txt_len]
  have h2 : (rtx n).length - 1 - k < (rtx n).length := by omega
  rw [txt, List.getElem?_reverse h2]
  rw [show (rtx n).length - 1 - ((rtx n).length - 1 - k) = k from by omega]
  exact rtx_get k n hk

/-- no time has more than 13 digits -/
theorem rtx_bound (f : Nat) : ∀ n : Nat, n < 10 ^ (f + 1) → (rtx n).length ≤ f + 1 := by
  induction f with
  | zero => intro n h; rw [rtx_small (by simpa using h)]; simp
  | succ f ih =>
    intro n h
    by_cases hs : n < 10
    · rw [rtx_small hs]; simp
    · rw [rtx_more hs]
      have : n / 10 < 10 ^ (f + 1) := by
        rw [Nat.div_lt_iff_lt_mul (by omega)]
        rwa [Nat.pow_succ] at h
      have := ih _ this
      simp; omega
theorem txt_bound {n : Nat} (h : n ≤ 1099511627775) : (txt n).length ≤ 13 := by
  rw [txt_len]; exact rtx_bound 12 n (by omega)

theorem head_app {l r : List UInt8} (h : l ≠ []) : (l ++ r).head? = l.head? := by
  cases l with
  | nil => exact absurd rfl h
  | cons a t => rfl

/-- the number of a text of digits -/
def valA (a : Nat) : List UInt8 → Nat
  | [] => a
  | c :: r => valA (10 * a + (c.toNat - 48)) r
def val (l : List UInt8) : Nat := valA 0 l
theorem valA_snoc (l : List UInt8) : ∀ (a : Nat) (c : UInt8), valA a (l ++ [c]) = 10 * valA a l + (c.toNat - 48) := by
  induction l with
  | nil => intro a c; rfl
  | cons d r ih => intro a c; exact ih _ c
theorem val_snoc (l : List UInt8) (c : UInt8) : val (l ++ [c]) = 10 * val l + (c.toNat - 48) := valA_snoc l 0 c
theorem valA_ge (l : List UInt8) : ∀ a : Nat, a ≤ valA a l := by
  induction l with
  | nil => intro a; exact Nat.le_refl _
  | cons d r ih => intro a; exact Nat.le_trans (by omega) (ih _)
theorem valA_append (l r : List UInt8) : ∀ a : Nat, valA a (l ++ r) = valA (valA a l) r := by
  induction l with
  | nil => intro a; rfl
  | cons d t ih => intro a; exact ih _
theorem val_take_le (l : List UInt8) (k : Nat) : val (l.take k) ≤ val l := by
  have e : val l = valA (val (l.take k)) (l.drop k) := by
    rw [val, val, ← valA_append, List.take_append_drop]
  rw [e]; exact valA_ge _ _

def isDig (c : UInt8) : Bool := decide (48 ≤ c.toNat) && decide (c.toNat ≤ 57)
def numB (l : List UInt8) : Bool := l.all isDig && (l == [48] || (l != [] && l.head? != some 48))

theorem isDig_bd {c : UInt8} (h : isDig c = true) : 48 ≤ c.toNat ∧ c.toNat ≤ 57 := by simpa [isDig] using h
theorem isDig_dig (n : Nat) : isDig (dig n) = true := by
  simp only [isDig, dig_toNat, Bool.and_eq_true, decide_eq_true_eq]; omega
theorem dig_of {c : UInt8} (h : isDig c = true) (m : Nat) : dig (10 * m + (c.toNat - 48)) = c := by
  have b := isDig_bd h
  apply UInt8.toNat_inj.1
  rw [dig_toNat]; omega

theorem rtx_val (n : Nat) : val (rtx n).reverse = n := by
  induction n using Nat.strongRecOn with
  | _ n ih =>
    by_cases h : n < 10
    · rw [rtx_small h]
      show 10 * 0 + ((dig n).toNat - 48) = n
      rw [dig_toNat]; omega
    · rw [rtx_more h, List.reverse_cons, val_snoc, ih (n / 10) (by omega), dig_toNat]; omega
theorem txt_val (n : Nat) : val (txt n) = n := rtx_val n
theorem txt_digs (n : Nat) : (txt n).all isDig = true := by
  rw [txt, List.all_reverse]
  induction n using Nat.strongRecOn with
  | _ n ih =>
    by_cases h : n < 10
    · rw [rtx_small h]; simp [isDig_dig]
    · rw [rtx_more h, List.all_cons, isDig_dig, ih (n / 10) (by omega)]; rfl
theorem txt_ne (n : Nat) : txt n ≠ [] := by
  intro h
  have := rtx_pos n
  rw [← txt_len, h] at this; simp at this
theorem txt_head (n : Nat) (hn : n ≠ 0) : (txt n).head? ≠ some 48 := by
  induction n using Nat.strongRecOn with
  | _ n ih =>
    by_cases h : n < 10
    · rw [txt_small h]
      intro e
      have e2 : dig n = 48 := by simpa using e
      have := dig_toNat n
      rw [e2] at this
      have h48 : (48 : UInt8).toNat = 48 := rfl
      omega
    · rw [txt_more h, head_app (txt_ne _)]
      exact ih (n / 10) (by omega) (by omega)
theorem txt_numB (n : Nat) : numB (txt n) = true := by
  unfold numB
  rw [txt_digs]
  by_cases h : n = 0
  · subst h; rw [txt_small (by omega)]; rfl
  · have h1 := txt_ne n
    have h2 := txt_head n h
    simp [h1, h2]

theorem all_snoc (l : List UInt8) (c : UInt8) : (l ++ [c]).all isDig = (l.all isDig && isDig c) := by simp

/-- a text of digits, its first one not 0, is its number's -/
theorem txt_of_val (m : Nat) : ∀ l : List UInt8, l.length = m → l ≠ [] → l.all isDig = true → l.head? ≠ some 48 → 1 ≤ val l ∧ txt (val l) = l := by
  induction m with
  | zero => intro l hl hne; exact absurd (List.eq_nil_of_length_eq_zero hl) hne
  | succ m ih =>
    intro l hl hne hall hh
    rcases List.eq_nil_or_concat l with e | ⟨r, c, e⟩
    · exact absurd e hne
    · rw [List.concat_eq_append] at e
      subst e
      rw [all_snoc, Bool.and_eq_true] at hall
      have bc := isDig_bd hall.2
      by_cases hr : r = []
      · subst hr
        have hc : c ≠ 48 := fun e => hh (by rw [e]; rfl)
        have hc2 : c.toNat ≠ 48 := fun e => hc (UInt8.toNat_inj.1 (by rw [e]; rfl))
        have hv : val ([] ++ [c]) = c.toNat - 48 := by rw [val_snoc]; show 10 * 0 + _ = _; omega
        rw [hv]
        refine ⟨by omega, ?_⟩
        rw [txt_small (by omega)]
        have := dig_of hall.2 0
        rw [show 10 * 0 + (c.toNat - 48) = c.toNat - 48 from by omega] at this
        rw [this]; rfl
      · have hl2 : r.length = m := by simpa using hl
        rw [head_app hr] at hh
        obtain ⟨h1, h2⟩ := ih r hl2 hr hall.1 hh
        rw [val_snoc]
        refine ⟨by omega, ?_⟩
        rw [txt_more (by omega), dig_of hall.2, show (10 * val r + (c.toNat - 48)) / 10 = val r from by omega, h2]
theorem txt_back {l : List UInt8} (h : numB l = true) : txt (val l) = l := by
  simp only [numB, Bool.and_eq_true, Bool.or_eq_true, beq_iff_eq, bne_iff_ne] at h
  obtain ⟨h1, h2 | h2⟩ := h
  · subst h2; show txt 0 = [48]; rw [txt_small (by omega)]; rfl
  · exact (txt_of_val _ l rfl h2.1 h1 h2.2).2

theorem numB_bad {l : List UInt8} {k : Nat} {c : UInt8} (h : l[k]? = some c) (hc : isDig c = false) : numB l = false := by
  have : l.all isDig = false := by
    cases e : l.all isDig
    · rfl
    · rw [List.all_eq_true] at e
      have := e c (List.mem_of_getElem? h)
      rw [this] at hc; cases hc
  simp [numB, this]
theorem numB_nil : numB [] = false := rfl
theorem numB_one {l : List UInt8} (h : l = [48]) : numB l = true := by subst h; rfl
theorem numB_lead {l : List UInt8} (hn : l ≠ [48]) (hh : l.head? = some 48) : numB l = false := by
  simp [numB, hn, hh]
theorem numB_yes {l : List UInt8} (h : l.all isDig = true) (hne : l ≠ []) (hh : l.head? ≠ some 48) : numB l = true := by
  simp [numB, h, hne, hh]
theorem numB_digs {l : List UInt8} (h : numB l = true) : l.all isDig = true := by
  simp only [numB, Bool.and_eq_true] at h; exact h.1
theorem isDig_low {c : UInt8} (h : c.toNat < 48) : isDig c = false := by simp [isDig]; omega
theorem isDig_high {c : UInt8} (h : 57 < c.toNat) : isDig c = false := by simp [isDig]; omega
theorem isDig_mid {c : UInt8} (h : 48 ≤ c.toNat) (h2 : c.toNat ≤ 57) : isDig c = true := by simp [isDig, h, h2]

theorem val_lt (m : Nat) : ∀ l : List UInt8, l.length = m → l.all isDig = true → val l < 10 ^ m := by
  induction m with
  | zero => intro l hl _; rw [List.eq_nil_of_length_eq_zero hl]; decide
  | succ m ih =>
    intro l hl hall
    rcases List.eq_nil_or_concat l with e | ⟨r, c, e⟩
    · rw [e] at hl; simp at hl
    · rw [List.concat_eq_append] at e
      subst e
      rw [all_snoc, Bool.and_eq_true] at hall
      have bc := isDig_bd hall.2
      have := ih r (by simpa using hl) hall.1
      rw [val_snoc, Nat.pow_succ]; omega
theorem val_lt13 {l : List UInt8} (hall : l.all isDig = true) (h : l.length ≤ 13) : val l < 10000000000000 := by
  have a := val_lt _ l rfl hall
  have b : 10 ^ l.length ≤ 10 ^ 13 := Nat.pow_le_pow_right (by omega) h
  omega
theorem val_long {l : List UInt8} (h : numB l = true) (hl : 13 < l.length) : 1099511627775 < val l := by
  rcases Nat.lt_or_ge 1099511627775 (val l) with g | g
  · exact g
  · have := txt_bound g
    rw [txt_back h] at this; omega

def readE (l : List UInt8) : Int := if numB l = true then (if val l ≤ 1099511627775 then 0 else 6) else 5
def readV (l : List UInt8) : Int := if numB l = true ∧ val l ≤ 1099511627775 then (val l : Int) else 0

theorem read_form {l : List UInt8} (h : numB l = false) : readV l = 0 ∧ readE l = 5 := by simp [readV, readE, h]
theorem read_over {l : List UInt8} (h : numB l = true) (ho : 1099511627775 < val l) : readV l = 0 ∧ readE l = 6 := by
  have : ¬ val l ≤ 1099511627775 := by omega
  simp [readV, readE, h, this]
theorem read_yes {l : List UInt8} (h : numB l = true) (ho : val l ≤ 1099511627775) : readV l = (val l : Int) ∧ readE l = 0 := by simp [readV, readE, h, ho]

/-- digits laid from the end on: the last k of n places hold the last k digits of m -/
def Filled (m n k : Nat) (l : List Int) : Prop := l.length = n ∧ ∀ j, j < k → l[n - 1 - j]? = some ((dig (m / 10 ^ j)).toNat : Int)
theorem Filled.next {m n k : Nat} {l : List Int} (h : Filled m n k l) (hk : k < n) : Filled m n (k + 1) (l.set (n - 1 - k) ((dig (m / 10 ^ k)).toNat : Int)) := by
  refine ⟨by simpa using h.1, fun j hj => ?_⟩
  by_cases e : j = k
  · subst e
    rw [List.getElem?_set_self (by rw [h.1]; omega)]
  · rw [List.getElem?_set_ne (by omega)]
    exact h.2 j (by omega)
theorem Filled.whole {m : Nat} {l : List Int} (h : Filled m (txt m).length (txt m).length l) : l = (txt m).map fun c => (c.toNat : Int) := by
  apply List.ext_getElem?
  intro i
  by_cases hi : i < (txt m).length
  · have a := h.2 ((txt m).length - 1 - i) (by omega)
    have b := txt_get (n := m) (k := (txt m).length - 1 - i) (by omega)
    rw [show (txt m).length - 1 - ((txt m).length - 1 - i) = i from by omega] at a b
    rw [a, List.getElem?_map, b]; rfl
  · rw [List.getElem?_eq_none (by rw [h.1]; omega), List.getElem?_eq_none (by simp; omega)]

end Go.Proofs.Ytaabalffcpaojaa
