/- Layer 9 in plain words: so many more for a while; two together: the values, the form. -/
import Derived.Test.YtapojmniokdjfaaStpE
import Derived.Test.YtapojmniokdjfaaStpG
import Derived.Test.YtapojmniokdjfaaStpH
namespace Go.Proofs.Ytapojmniokdjfaa.Stp
open Go.RowKit Go.Shelf
set_option linter.unusedVariables false
set_option maxRecDepth 100000

def inW (a b k t : Int) : Int := if a ≤ t ∧ t < b then k else 0
def moreL (a b k : Int) : List StepD := tdF [] [⟨0, 0⟩, ⟨a, k⟩, ⟨b, 0⟩]
theorem more_is (a b k : Int) (ha : 0 ≤ a) (hab : a ≤ b) : moreL a b k = if a = b ∨ k = 0 then [⟨0, 0⟩] else if a = 0 then [⟨0, k⟩, ⟨b, 0⟩] else [⟨0, 0⟩, ⟨a, k⟩, ⟨b, 0⟩] := by
  unfold moreL tdF
  by_cases h0 : a = 0
  · subst h0
    by_cases hb : b = 0
    · subst hb
      simp [tdF, putD]
    · by_cases hk : k = 0
      · subst hk; simp [tdF, putD, hb, lastV]
      · have hb' : ¬ 0 = b := fun e => hb e.symm
        simp [tdF, putD, hb, hb', lastV, hk]
  · by_cases hb : b = a
    · subst hb
      simp [tdF, putD, h0, lastV]
    · have hb' : ¬ a = b := fun e => hb e.symm
      by_cases hk : k = 0
      · subst hk; simp [tdF, putD, h0, hb, hb', lastV]
      · have hk' : ¬ 0 = k := fun e => hk e.symm
        simp [tdF, putD, h0, hb, hb', lastV, hk, hk']
theorem more_facts {a b k : Int} (ha : 0 ≤ a ∧ a ≤ 1099511627775) (hb : 0 ≤ b ∧ b ≤ 1099511627775) (hab : a ≤ b) (hk : -10000 ≤ k ∧ k ≤ 10000) :
    Rise (-1) (moreL a b k) ∧ (moreL a b k).length ≤ 3 ∧ (∀ s ∈ moreL a b k, (0 ≤ s.at_ ∧ s.at_ ≤ 1099511627775) ∧ -10000 ≤ s.fr ∧ s.fr ≤ 10000) ∧ ∀ t, valF 0 (moreL a b k) t = inW a b k t := by
  rw [more_is a b k ha.1 hab]
  unfold inW
  by_cases h1 : a = b ∨ k = 0
  · rw [if_pos h1]
    refine ⟨⟨(by simp), trivial⟩, (by simp), fun s hs => ?_, fun t => ?_⟩
    · simp at hs; subst hs; exact ⟨⟨(by simp), (by simp)⟩, (by simp), (by simp)⟩
    · have e1 : valF 0 [⟨0, 0⟩] t = 0 := by
        simp [valF]
      rw [e1]
      rcases h1 with h1 | h1
      · rw [if_neg (by omega)]
      · subst h1; split <;> rfl
  · rw [if_neg h1]
    have hlt : a < b := by
      rcases Int.lt_or_eq_of_le hab with q | q
      · exact q
      · exact absurd (Or.inl q) h1
    by_cases h0 : a = 0
    · rw [if_pos h0]
      subst h0
      refine ⟨⟨(by simp), hlt, trivial⟩, (by simp), fun s hs => ?_, fun t => ?_⟩
      · simp at hs
        rcases hs with rfl | rfl
        · exact ⟨⟨(by simp), (by simp)⟩, hk⟩
        · exact ⟨hb, (by simp), (by simp)⟩
      · simp only [valF]
        by_cases c1 : 0 ≤ t
        · rw [if_pos c1]
          by_cases c2 : b ≤ t
          · rw [if_pos c2, if_neg (by omega)]
          · rw [if_neg c2, if_pos (by omega)]
        · rw [if_neg c1, if_neg (by omega)]
    · rw [if_neg h0]
      refine ⟨⟨(by simp), (by show (0 : Int) < a; omega), hlt, trivial⟩, (by simp), fun s hs => ?_, fun t => ?_⟩
      · simp at hs
        rcases hs with rfl | rfl | rfl
        · exact ⟨⟨(by simp), (by simp)⟩, (by simp), (by simp)⟩
        · exact ⟨ha, hk⟩
        · exact ⟨hb, (by simp), (by simp)⟩
      · simp only [valF]
        by_cases c0 : 0 ≤ t
        · rw [if_pos c0]
          by_cases c1 : a ≤ t
          · rw [if_pos c1]
            by_cases c2 : b ≤ t
            · rw [if_pos c2, if_neg (by omega)]
            · rw [if_neg c2, if_pos (by omega)]
          · rw [if_neg c1, if_neg (by omega)]
        · rw [if_neg c0, if_neg (by omega)]
theorem val_mem : ∀ {l : List StepD} {d t : Int}, valF d l t = d ∨ ∃ s ∈ l, s.fr = valF d l t
  | [], _, _ => Or.inl rfl
  | s :: l, d, t => by
    by_cases h : s.at_ ≤ t
    · rw [val_cons h]
      rcases val_mem (l := l) (d := s.fr) (t := t) with e | ⟨u, hu, e⟩
      · exact Or.inr ⟨s, by simp, e.symm⟩
      · exact Or.inr ⟨u, by simp [hu], e⟩
    · exact Or.inl (val_ahead (by omega))
theorem val_elem : ∀ {l : List StepD} {lo d : Int} {s : StepD}, Rise lo l → s ∈ l → valF d l s.at_ = s.fr
  | [], _, _, _, _, h => by cases h
  | a :: l, lo, d, s, ⟨h1, h2⟩, h => by
    rcases List.mem_cons.1 h with rfl | h
    · exact val_head h2
    · have : a.at_ < s.at_ := by
        obtain ⟨k, hk⟩ := List.getElem?_of_mem h
        exact rise_at h2 hk
      rw [val_cons (by omega)]
      exact val_elem h2 h
theorem ok_val {R : List StepD} {g : Int → Int} (hR : Rise (-1) R) (hv : ∀ t, 0 ≤ t → valF DD R t = g t) (hg : ∀ t, 0 ≤ t → g t ≠ DD) : okS R = true ↔ ∀ t, 0 ≤ t → nodeOK (g t) = true := by
  unfold okS
  rw [List.all_eq_true]
  constructor
  · intro h t ht
    rw [← hv t ht]
    rcases val_mem (l := R) (d := DD) (t := t) with e | ⟨u, hu, e⟩
    · exact absurd ((hv t ht).symm.trans e) (hg t ht)
    · rw [← e]; exact h u hu
  · intro h s hs
    obtain ⟨k, hk⟩ := List.getElem?_of_mem hs
    have h0 := rise_at hR hk
    have := h s.at_ (by omega)
    rwa [← hv s.at_ (by omega), val_elem hR hs] at this
theorem head_zero {R : List StepD} (hR : Norm (-1) DD R) (h0 : valF DD R 0 ≠ DD) : ∃ s r, R = s :: r ∧ s.at_ = 0 := by
  cases R with
  | nil => exact absurd rfl h0
  | cons s r =>
    refine ⟨s, r, rfl, ?_⟩
    have h1 := hR.1
    rcases Int.lt_or_le 0 s.at_ with q | q
    · exact absurd (val_ahead q) h0
    · omega
theorem _root_.Go.Proofs.Ytapojmniokdjfaa.Prof.bd {l : List StepD} (h : Prof l) {t : Int} (ht : 0 ≤ t) : 0 ≤ valF 0 l t ∧ valF 0 l t ≤ 10000 := by
  obtain ⟨s, r, rfl, hz⟩ := h.zero
  rcases val_mem (l := s :: r) (d := 0) (t := t) with e | ⟨u, hu, e⟩
  · rw [e]; omega
  · rw [← e]; exact (h.ok u hu).2
theorem _root_.Go.Proofs.Ytapojmniokdjfaa.Prof.zero' {l : List StepD} (h : Prof l) : ∃ s r, l = s :: r ∧ s.at_ = -1 + 1 := by
  obtain ⟨s, r, e, hz⟩ := h.zero
  exact ⟨s, r, e, by omega⟩
theorem _root_.Go.Proofs.Ytapojmniokdjfaa.Prof.inTog {l m : List StepD} (h : Prof l) (hm : Rise (-1) m) (hb : ∀ s ∈ m, -10000 ≤ s.fr ∧ s.fr ≤ 10000) : TogI [] l m 0 0 (-1) :=
  ⟨trivial, Int.le_refl _, Int.le_refl _, h.rise, hm, fun e => absurd rfl e, fun _ => Or.inl h.zero', fun s hs => by have := (h.ok s hs).2; omega, hb, by omega, by omega⟩

/-- what comes of two together -/
structure SumR (l m : List StepD) (R : List StepD) : Prop where
  norm : Norm (-1) DD R
  val : ∀ t, 0 ≤ t → valF DD R t = valF 0 l t + valF 0 m t
  len : R.length ≤ l.length + m.length
  time : ∀ s ∈ R, 0 ≤ s.at_ ∧ s.at_ ≤ 1099511627775
theorem sum_of {l m : List StepD} (h : Prof l) (hm : Rise (-1) m) (hb : ∀ s ∈ m, (0 ≤ s.at_ ∧ s.at_ ≤ 1099511627775) ∧ -10000 ≤ s.fr ∧ s.fr ≤ 10000) : SumR l m (togD (l.length + m.length) 0 0 l m []) := by
  have hR := tog_val (l.length + m.length) 0 0 l m [] (-1) (Nat.le_refl _) (h.inTog hm fun s hs => (hb s hs).2)
  refine ⟨hR.norm, fun t ht => hR.val t (by omega), by have := hR.len; simpa using this, fun s hs => ?_⟩
  rcases hR.mem s hs with q | ⟨a, ha, e⟩ | ⟨a, ha, e⟩
  · cases q
  · rw [← e]; exact (h.ok a ha).1
  · rw [← e]; exact (hb a ha).1
theorem SumR.prof {l m R : List StepD} (h : SumR l m R) (hn : l.length + m.length ≤ 20000) (hok : okS R = true) (hd : ∀ t, 0 ≤ t → valF 0 l t + valF 0 m t ≠ DD) : Prof R := by
  refine ⟨Nat.le_trans h.len hn, head_zero h.norm (by rw [h.val 0 (Int.le_refl _)]; exact hd 0 (Int.le_refl _)), h.norm, fun s hs => ⟨h.time s hs, ?_⟩⟩
  unfold okS at hok
  exact nodeOK_iff.1 (List.all_eq_true.1 hok s hs)

def addR (l : List StepD) (a b k : Int) : List StepD := togD (l.length + (moreL a b k).length) 0 0 l (moreL a b k) []
def addE (l : List StepD) (a b k : Int) : Int := if durE l a b = 0 ∧ -10000 ≤ k ∧ k ≤ 10000 then (if okS (addR l a b k) = true then 0 else 70) else 2
def addL (l : List StepD) (a b k : Int) : List StepD := if addE l a b k = 0 then addR l a b k else []
def sumR (l m : List StepD) : List StepD := togD (l.length + m.length) 0 0 l m []
def sumE (l m : List StepD) : Int := if chkD l = true ∧ chkD m = true then (if okS (sumR l m) = true then 0 else 2) else 2
def sumL (l m : List StepD) : List StepD := if sumE l m = 0 then sumR l m else []
theorem _root_.Go.Proofs.Ytapojmniokdjfaa.Prof.togB {l m : List StepD} (h : Prof l) (hb : ∀ s ∈ m, (0 ≤ s.at_ ∧ s.at_ ≤ 1099511627775) ∧ -10000 ≤ s.fr ∧ s.fr ≤ 10000) : TogB l m 0 0 :=
  ⟨fun s hs => by have := h.ok s hs; omega, fun s hs => by have := hb s hs; omega, by omega, by omega⟩
theorem _root_.Go.Proofs.Ytapojmniokdjfaa.Prof.frees {l : List StepD} (h : Prof l) : ∀ s ∈ l, (0 ≤ s.at_ ∧ s.at_ ≤ 1099511627775) ∧ -10000 ≤ s.fr ∧ s.fr ≤ 10000 := fun s hs => by have := h.ok s hs; omega
/-- the profile with more -/
structure AddR (l : List StepD) (a b k : Int) (R : List StepD) : Prop where
  norm : Norm (-1) DD R
  val : ∀ t, 0 ≤ t → valF DD R t = valF 0 l t + inW a b k t
  len : R.length ≤ l.length + 3
  time : ∀ s ∈ R, 0 ≤ s.at_ ∧ s.at_ ≤ 1099511627775
theorem add_of {l : List StepD} {a b k : Int} (he : durE l a b = 0) (hk : -10000 ≤ k ∧ k ≤ 10000) : AddR l a b k (addR l a b k) := by
  obtain ⟨hp, hi, hj, hab⟩ := dur_yes he
  obtain ⟨m1, m2, m3, m4⟩ := more_facts (Clk.isT_bd hi) (Clk.isT_bd hj) hab hk
  have hS := sum_of hp m1 m3
  refine ⟨hS.norm, fun t ht => ?_, Nat.le_trans hS.len (by omega), hS.time⟩
  have := hS.val t ht
  rw [m4] at this
  exact this
theorem inW_bd {a b k t : Int} (hk : -10000 ≤ k ∧ k ≤ 10000) : -10000 ≤ inW a b k t ∧ inW a b k t ≤ 10000 := by
  unfold inW; split <;> omega
theorem AddR.ok {l R : List StepD} {a b k : Int} (h : AddR l a b k R) (hp : Prof l) (hk : -10000 ≤ k ∧ k ≤ 10000) : okS R = true ↔ ∀ t, 0 ≤ t → nodeOK (valF 0 l t + inW a b k t) = true :=
  ok_val h.norm.rise h.val fun t ht => by have h1 := hp.bd ht; have h2 := inW_bd (a := a) (b := b) (t := t) hk; unfold DD; omega
theorem AddR.prof {l R : List StepD} {a b k : Int} (h : AddR l a b k R) (hp : Prof l) (hk : -10000 ≤ k ∧ k ≤ 10000) (hn : l.length + 3 ≤ 20000) (hok : okS R = true) : Prof R := by
  refine ⟨Nat.le_trans h.len hn, head_zero h.norm ?_, h.norm, fun s hs => ⟨h.time s hs, ?_⟩⟩
  · rw [h.val 0 (Int.le_refl _)]
    have h1 := hp.bd (Int.le_refl 0); have h2 := inW_bd (a := a) (b := b) (t := 0) hk; unfold DD; omega
  · unfold okS at hok
    exact nodeOK_iff.1 (List.all_eq_true.1 hok s hs)
/-- one form -/
theorem prof_uniq {l m : List StepD} (h : Prof l) (k : Prof m) (e : ∀ t, 0 ≤ t → valF 0 l t = valF 0 m t) : l = m :=
  uniq l m (-1) DD h.norm k.norm fun t ht => by rw [h.val (by omega) DD 0, k.val (by omega) DD 0]; exact e t (by omega)
end Go.Proofs.Ytapojmniokdjfaa.Stp

