/- Layer 9 in plain words: the times; time by time comes to the same. -/
import Derived.Test.YtldmkbmkjdnaaaaStpM
import Derived.Test.YtldmkbmkjdnaaaaStpI
namespace Go.Proofs.Ytldmkbmkjdnaaaa.Stp
open Go.RowKit Go.Shelf
set_option linter.unusedVariables false
set_option maxRecDepth 100000

theorem fold_low : ∀ {l : List StepD} {lo x t : Int}, Rise lo l → t ≤ lo → foldV x l t = x
  | [], _, _, _, _, _ => rfl
  | s :: l, lo, x, t, ⟨h1, h2⟩, h => by
    unfold foldV
    rw [if_neg (by omega)]
    exact fold_low h2 (by omega)
theorem fold_val : ∀ {l : List StepD} {lo x t : Int}, Rise lo l → foldV x l t = valF x l t
  | [], _, _, _, _ => rfl
  | s :: l, lo, x, t, ⟨h1, h2⟩ => by
    unfold foldV
    by_cases h : s.at_ ≤ t
    · rw [if_pos h, val_cons h]; exact fold_val h2
    · rw [if_neg h, val_ahead (by omega)]; exact fold_low h2 (by omega)
theorem val_const : ∀ {l : List StepD} {d t : Int}, (∀ s ∈ l, s.at_ ≠ t) → valF d l t = valF d l (t - 1)
  | [], _, _, _ => rfl
  | s :: l, d, t, h => by
    have h1 := h s (by simp)
    by_cases hs : s.at_ ≤ t
    · rw [val_cons hs, val_cons (by omega)]
      exact val_const fun u hu => h u (by simp [hu])
    · rw [val_ahead (by omega), val_ahead (by omega)]

/-- rising numbers -/
def RiseI : Int → List Int → Prop
  | _, [] => True
  | lo, t :: l => lo < t ∧ RiseI t l
theorem riseI_mono : ∀ {l : List Int} {lo lo' : Int}, RiseI lo l → lo' ≤ lo → RiseI lo' l
  | [], _, _, _, _ => trivial
  | t :: l, _, _, ⟨h1, h2⟩, h => ⟨by omega, h2⟩
theorem riseI_mem : ∀ {l : List Int} {lo t : Int}, RiseI lo l → t ∈ l → lo < t
  | [], _, _, _, h => by cases h
  | u :: l, lo, t, ⟨h1, h2⟩, h => by
    rcases List.mem_cons.1 h with rfl | h
    · exact h1
    · have := riseI_mem h2 h; omega
theorem minI_le : ∀ (r : List Int) (x : Int), minI x r ≤ x ∧ ∀ y ∈ r, minI x r ≤ y
  | [], x => ⟨Int.le_refl _, fun y h => by cases h⟩
  | y :: r, x => by
    unfold minI
    by_cases h : y < x
    · rw [if_pos h]
      obtain ⟨h1, h2⟩ := minI_le r y
      refine ⟨by omega, fun z hz => ?_⟩
      rcases List.mem_cons.1 hz with rfl | hz
      · exact h1
      · exact h2 z hz
    · rw [if_neg h]
      obtain ⟨h1, h2⟩ := minI_le r x
      refine ⟨h1, fun z hz => ?_⟩
      rcases List.mem_cons.1 hz with rfl | hz
      · omega
      · exact h2 z hz
theorem tim_is : ∀ (g : Nat) (xs ys : List Int) (lo : Int), xs.length ≤ g → (∀ x ∈ xs, lo < x) → ∃ S, timF g xs ys = ys ++ S ∧ RiseI lo S ∧ ∀ t, t ∈ S ↔ t ∈ xs
  | 0, xs, ys, lo, hg, h => by
    have : xs = [] := List.eq_nil_of_length_eq_zero (by omega)
    subst this
    exact ⟨[], by simp [timF], trivial, fun t => Iff.rfl⟩
  | g + 1, [], ys, lo, hg, h => ⟨[], by simp [timF], trivial, fun t => Iff.rfl⟩
  | g + 1, x :: r, ys, lo, hg, h => by
    have hfl := filt_lt x r
    obtain ⟨T, hT⟩ : ∃ T, minI x (x :: r) = T := ⟨_, rfl⟩
    have hm := minI_le (x :: r) x
    have hme : T ∈ x :: r := by
      rw [← hT]
      rcases minI_mem (x :: r) x with e | e
      · rw [e]; exact List.mem_cons_self
      · exact e
    rw [hT] at hm hfl
    obtain ⟨S, h1, h2, h3⟩ := tim_is g ((x :: r).filter fun y => y != T) (ys ++ [T]) T (by simp at hg hfl ⊢; omega) (fun y hy => by
      obtain ⟨k1, k2⟩ := List.mem_filter.1 hy
      have k3 := hm.2 y k1
      have k4 : y ≠ T := by simpa using k2
      omega)
    refine ⟨T :: S, ?_, ⟨h T hme, h2⟩, fun t => ?_⟩
    · show timF g ((x :: r).filter fun y => y != minI x (x :: r)) (ys ++ [minI x (x :: r)]) = _
      rw [hT, h1, List.append_assoc]; rfl
    · rw [List.mem_cons, h3, List.mem_filter]
      constructor
      · rintro (rfl | ⟨k, _⟩)
        · exact hme
        · exact k
      · intro k
        by_cases e : t = T
        · exact Or.inl e
        · exact Or.inr ⟨k, by simpa using e⟩
theorem times_is (l m : List StepD) (a b : Int) (h : ∀ t, (t = a ∨ t = b ∨ (∃ s ∈ l, s.at_ = t) ∨ ∃ s ∈ m, s.at_ = t) → 0 ≤ t) :
    RiseI (-1) (timesL l m a b) ∧ ∀ t, t ∈ timesL l m a b ↔ (t = a ∨ t = b ∨ (∃ s ∈ l, s.at_ = t) ∨ ∃ s ∈ m, s.at_ = t) := by
  have hmem : ∀ t, t ∈ [a, b] ++ atsL l ++ atsL m ↔ (t = a ∨ t = b ∨ (∃ s ∈ l, s.at_ = t) ∨ ∃ s ∈ m, s.at_ = t) := fun t => by
    unfold atsL; simp
  obtain ⟨S, h1, h2, h3⟩ := tim_is (2 + l.length + m.length) ([a, b] ++ atsL l ++ atsL m) [] (-1) (by unfold atsL; simp; omega) (fun x hx => by
    have := h x ((hmem x).1 hx); omega)
  have e : timesL l m a b = S := by unfold timesL; rw [h1]; rfl
  rw [e]
  exact ⟨h2, fun t => by rw [h3, hmem]⟩
theorem times_len (l m : List StepD) (a b : Int) : ∀ (g : Nat) (xs ys : List Int), xs.length ≤ g → (timF g xs ys).length ≤ xs.length + ys.length
  | 0, xs, ys, h => by unfold timF; omega
  | g + 1, [], ys, h => by unfold timF; omega
  | g + 1, x :: r, ys, h => by
    have hfl := filt_lt x r
    have := times_len l m a b g ((x :: r).filter fun y => y != minI x (x :: r)) (ys ++ [minI x (x :: r)]) (by simp at h hfl ⊢; omega)
    show (timF g _ _).length ≤ _
    simp at this hfl ⊢
    omega
theorem timesL_len (l m : List StepD) (a b : Int) : (timesL l m a b).length ≤ 2 + l.length + m.length := by
  have := times_len l m a b (2 + l.length + m.length) ([a, b] ++ atsL l ++ atsL m) [] (by unfold atsL; simp; omega)
  unfold timesL
  unfold atsL at this ⊢
  simp at this ⊢
  omega

/-- time by time -/
def runF (g : Int → Int) : List StepD → List Int → List StepD
  | out, [] => out
  | out, t :: ts => runF g (putD out ⟨t, g t⟩) ts
theorem const_from {g : Int → Int} {τ u : Int} (h : ∀ t, τ < t → t < u → g t = g (t - 1)) : ∀ (n : Nat) (t : Int), τ ≤ t → t < u → t - τ = n → g t = g τ
  | 0, t, _, _, e => by have : t = τ := by omega
                        rw [this]
  | n + 1, t, h1, h2, e => by rw [h t (by omega) h2]; exact const_from h n (t - 1) (by omega) (by omega) (by omega)
structure RunR (g : Int → Int) (out : List StepD) (ts : List Int) (τ : Int) (R : List StepD) : Prop where
  norm : Norm (-1) DD R
  low : ∀ t, t ≤ τ → valF DD R t = valF DD out t
  val : ∀ t, τ < t → valF DD R t = g t
  mem : ∀ s ∈ R, s ∈ out ∨ ∃ t ∈ ts, s = ⟨t, g t⟩
theorem run_val {g : Int → Int} : ∀ (ts : List Int) (out : List StepD) (τ : Int), RiseI τ ts → Norm (-1) DD out → lastA (-1) out ≤ τ → (∀ t, τ < t → g t ≠ DD) → (∀ t, τ < t → t ∉ ts → g t = g (t - 1)) →
    (out ≠ [] → lastV DD out = g τ) → (out = [] → ∃ r, ts = (τ + 1) :: r) → RunR g out ts τ (runF g out ts)
  | [], out, τ, hr, hn, hl, hg, hc, ho, he => by
    refine ⟨hn, fun _ _ => rfl, fun t ht => ?_, fun s hs => Or.inl hs⟩
    by_cases e : out = []
    · obtain ⟨r, hr⟩ := he e; cases hr
    · show valF DD out t = g t
      rw [val_end hn.rise (by omega), ho e]
      exact (const_from (u := t + 1) (fun u h1 h2 => hc u h1 (by simp)) (t - τ).toNat t (by omega) (by omega) (by omega)).symm
  | u :: ts, out, τ, ⟨h1, h2⟩, hn, hl, hg, hc, ho, he => by
    have hlt : lastA (-1) out < (StepD.mk u (g u)).at_ := by show _ < u; omega
    have ih := run_val ts (putD out ⟨u, g u⟩) u h2 (put_norm hn hlt (hg u h1)) (put_lastA hlt) (fun t ht => hg t (by omega)) (fun t ht hm => hc t (by omega) (by simp; exact ⟨by omega, hm⟩)) (fun _ => put_lastV _ _ _) (fun e => absurd e (put_ne _ _))
    refine ⟨ih.norm, fun t ht => ?_, fun t ht => ?_, fun s hs => ?_⟩
    · show valF DD (runF g (putD out ⟨u, g u⟩) ts) t = _
      rw [ih.low t (by omega), put_val hn.rise hlt, if_neg (by show ¬ u ≤ t; omega)]
    · show valF DD (runF g (putD out ⟨u, g u⟩) ts) t = _
      rcases Int.lt_or_le u t with q | q
      · exact ih.val t q
      · rw [ih.low t q, put_val hn.rise hlt]
        by_cases e : u ≤ t
        · rw [if_pos e]
          have : t = u := by omega
          rw [this]
        · rw [if_neg e]
          by_cases eo : out = []
          · obtain ⟨r, hr⟩ := he eo
            injection hr with hr _
            omega
          · rw [val_end hn.rise (by omega), ho eo]
            exact (const_from (u := u) (fun v k1 k2 => hc v k1 (fun hm => by
              rcases List.mem_cons.1 hm with rfl | hm
              · omega
              · have := riseI_mem h2 hm; omega)) (t - τ).toNat t (by omega) (by omega) (by omega)).symm
    · rcases ih.mem s hs with h | ⟨t, ht, e⟩
      · rcases put_mem h with h | h
        · exact Or.inl h
        · exact Or.inr ⟨u, by simp, h⟩
      · exact Or.inr ⟨t, by simp [ht], e⟩
/-- of rising times from 0 on, with all at which something changes -/
theorem run_is {g : Int → Int} {ts : List Int} (hr : RiseI (-1) ts) (h0 : (0 : Int) ∈ ts) (hg : ∀ t, 0 ≤ t → g t ≠ DD) (hc : ∀ t, 0 < t → t ∉ ts → g t = g (t - 1)) : RunR g [] ts (-1) (runF g [] ts) := by
  refine run_val ts [] (-1) hr trivial (Int.le_refl _) (fun t ht => hg t (by omega)) (fun t ht hm => hc t ?_ hm) (fun e => absurd rfl e) (fun _ => ?_)
  · rcases Int.lt_or_le 0 t with q | q
    · exact q
    · have : t = 0 := by omega
      subst this; exact absurd h0 hm
  · cases ts with
    | nil => cases h0
    | cons u r =>
      have h1 := hr.1
      rcases List.mem_cons.1 h0 with e | e
      · exact ⟨r, by rw [← e]; rfl⟩
      · have := riseI_mem hr.2 e; omega
theorem run_ok {g : Int → Int} {ts : List Int} {R : List StepD} (h : RunR g [] ts (-1) R) (hts : ∀ t ∈ ts, 0 ≤ t) (hg : ∀ t, 0 ≤ t → g t ≠ DD) : okS R = true ↔ ∀ t ∈ ts, nodeOK (g t) = true := by
  constructor
  · intro hk t ht
    exact (ok_val h.norm.rise (fun t ht => h.val t (by omega)) hg).1 hk t (hts t ht)
  · intro hk
    unfold okS
    rw [List.all_eq_true]
    intro s hs
    rcases h.mem s hs with q | ⟨t, ht, e⟩
    · cases q
    · rw [e]; exact hk t ht

/-- Add, time by time -/
def gAdd (l : List StepD) (a b k t : Int) : Int := foldV 0 l t + inW a b k t
structure DocR (R : List StepD) (g : Int → Int) (ts : List Int) : Prop where
  run : runF g [] ts = R
  ok : okS R = true ↔ ∀ t ∈ ts, nodeOK (g t) = true
theorem add_doc {l : List StepD} {a b k : Int} (he : durE l a b = 0) (hk : -10000 ≤ k ∧ k ≤ 10000) : DocR (addR l a b k) (gAdd l a b k) (timesL l [] a b) := by
  obtain ⟨hp, hi, hj, hab⟩ := dur_yes he
  have ha := Clk.isT_bd hi; have hb := Clk.isT_bd hj
  have hA := add_of he hk
  have hnn : ∀ t, (t = a ∨ t = b ∨ (∃ s ∈ l, s.at_ = t) ∨ ∃ s ∈ ([] : List StepD), s.at_ = t) → 0 ≤ t := by
    rintro t (rfl | rfl | ⟨s, hs, rfl⟩ | ⟨s, hs, _⟩)
    · exact ha.1
    · exact hb.1
    · exact (hp.ok s hs).1.1
    · cases hs
  obtain ⟨hr, hm⟩ := times_is l [] a b hnn
  have hz : (0 : Int) ∈ timesL l [] a b := by
    obtain ⟨s, r, e, h0⟩ := hp.zero
    exact (hm 0).2 (Or.inr (Or.inr (Or.inl ⟨s, by rw [e]; simp, h0⟩)))
  have hgv : ∀ t, gAdd l a b k t = valF 0 l t + inW a b k t := fun t => by unfold gAdd; rw [fold_val hp.rise]
  have hg : ∀ t, 0 ≤ t → gAdd l a b k t ≠ DD := fun t ht => by
    rw [hgv]; have h1 := hp.bd ht; have h2 := inW_bd (a := a) (b := b) (t := t) hk; unfold DD; omega
  have hc : ∀ t, 0 < t → t ∉ timesL l [] a b → gAdd l a b k t = gAdd l a b k (t - 1) := fun t ht hn => by
    rw [hgv, hgv]
    have hna : t ≠ a := fun e => hn ((hm t).2 (Or.inl e))
    have hnb : t ≠ b := fun e => hn ((hm t).2 (Or.inr (Or.inl e)))
    rw [val_const (fun s hs e => hn ((hm t).2 (Or.inr (Or.inr (Or.inl ⟨s, hs, e⟩)))))]
    congr 1
    unfold inW
    by_cases q : a ≤ t ∧ t < b
    · rw [if_pos q, if_pos (by omega)]
    · rw [if_neg q, if_neg (by omega)]
  have hR := run_is hr hz hg hc
  have e : runF (gAdd l a b k) [] (timesL l [] a b) = addR l a b k := uniq _ _ (-1) DD hR.norm hA.norm fun t ht => by rw [hR.val t ht, hA.val t (by omega), hgv]
  exact ⟨e, by rw [← e]; exact run_ok hR (fun t ht => hnn t ((hm t).1 ht)) hg⟩
/-- Sum, time by time -/
def gSum (l m : List StepD) (t : Int) : Int := foldV 0 l t + foldV 0 m t
theorem sum_doc {l m : List StepD} (hp : Prof l) (hq : Prof m) : DocR (sumR l m) (gSum l m) (timesL l m 0 0) := by
  have hA := sum_of hp hq.rise hq.frees
  have hnn : ∀ t, (t = (0 : Int) ∨ t = 0 ∨ (∃ s ∈ l, s.at_ = t) ∨ ∃ s ∈ m, s.at_ = t) → 0 ≤ t := by
    rintro t (rfl | rfl | ⟨s, hs, rfl⟩ | ⟨s, hs, rfl⟩)
    · exact Int.le_refl _
    · exact Int.le_refl _
    · exact (hp.ok s hs).1.1
    · exact (hq.ok s hs).1.1
  obtain ⟨hr, hm⟩ := times_is l m 0 0 hnn
  have hgv : ∀ t, gSum l m t = valF 0 l t + valF 0 m t := fun t => by unfold gSum; rw [fold_val hp.rise, fold_val hq.rise]
  have hg : ∀ t, 0 ≤ t → gSum l m t ≠ DD := fun t ht => by
    rw [hgv]; have h1 := hp.bd ht; have h2 := hq.bd ht; unfold DD; omega
  have hc : ∀ t, 0 < t → t ∉ timesL l m 0 0 → gSum l m t = gSum l m (t - 1) := fun t ht hn => by
    rw [hgv, hgv, val_const (fun s hs e => hn ((hm t).2 (Or.inr (Or.inr (Or.inl ⟨s, hs, e⟩))))), val_const (fun s hs e => hn ((hm t).2 (Or.inr (Or.inr (Or.inr ⟨s, hs, e⟩)))))]
  have hR := run_is hr ((hm 0).2 (Or.inl rfl)) hg hc
  have e : runF (gSum l m) [] (timesL l m 0 0) = sumR l m := uniq _ _ (-1) DD hR.norm hA.norm fun t ht => by
    rw [hR.val t ht, hgv]; exact (hA.val t (by omega)).symm
  exact ⟨e, by rw [← e]; exact run_ok hR (fun t ht => hnn t ((hm t).1 ht)) hg⟩
theorem run_len (g : Int → Int) : ∀ (ts : List Int) (out : List StepD), (runF g out ts).length ≤ out.length + ts.length
  | [], out => by simp [runF]
  | t :: ts, out => by
    have h1 := run_len g ts (putD out ⟨t, g t⟩)
    have h2 := put_len out ⟨t, g t⟩
    show (runF g (putD out ⟨t, g t⟩) ts).length ≤ _
    simp; omega
end Go.Proofs.Ytldmkbmkjdnaaaa.Stp

