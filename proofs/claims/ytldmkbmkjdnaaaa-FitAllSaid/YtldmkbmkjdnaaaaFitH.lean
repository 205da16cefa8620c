/- Layer 10 in plain words: the first time, the last one, and all. No program. -/
import Derived.Test.YtldmkbmkjdnaaaaFitG
namespace Go.Proofs.Ytldmkbmkjdnaaaa.Ft
open Stp
set_option linter.unusedVariables false

theorem sep_fst {x : StepD} {l : List StepD} {lo t : Int} (h : SepW lo (x :: l)) (k : InW (x :: l) t) : x.at_ ≤ t := by
  rcases inW_cons.1 k with q | q
  · exact q.1
  · have := sepW_low h.2.2 q; have := h.2.1; omega
theorem sep_up : ∀ {l : List StepD} {lo d t : Int}, SepW lo l → InW l t → t ≤ lastV d l
  | [], _, _, _, _, k => (inW_nil k).elim
  | [x], lo, d, t, h, k => by
    rcases inW_cons.1 k with q | q
    · exact q.2
    · exact (inW_nil q).elim
  | x :: y :: l, lo, d, t, h, k => by
    have hy : InW (y :: l) y.at_ := inW_cons.2 (Or.inl ⟨Int.le_refl _, h.2.2.2.1⟩)
    have h1 := sep_up (d := x.fr) h.2.2 hy
    have h2 : x.fr + 1 < y.at_ := h.2.2.1
    rcases inW_cons.1 k with q | q
    · show t ≤ lastV x.fr (y :: l); omega
    · exact sep_up (d := x.fr) h.2.2 q
theorem lst_in : ∀ {l : List StepD} {lo d : Int}, l ≠ [] → SepW lo l → InW l (lastV d l)
  | [], _, _, h, _ => absurd rfl h
  | [x], _, _, _, h => inW_cons.2 (Or.inl ⟨h.2.1, Int.le_refl _⟩)
  | x :: y :: l, _, _, _, h => inW_cons.2 (Or.inr (lst_in (d := x.fr) (by simp) h.2.2))
theorem sep_get : ∀ {l : List StepD} {lo : Int} {k : Nat} {x : StepD}, SepW lo l → l[k]? = some x → x.at_ ≤ x.fr ∧ lo < x.at_
  | [], _, _, _, _, h => by simp at h
  | y :: l, lo, 0, x, h, hk => by simp at hk; subst hk; exact ⟨h.2.1, h.1⟩
  | y :: l, lo, k + 1, x, h, hk => by
    have := sep_get (k := k) h.2.2 (by simpa using hk)
    have := h.2.1; have := h.1
    exact ⟨by omega, by omega⟩
theorem sep_next : ∀ {l : List StepD} {lo : Int} {k : Nat} {x y : StepD}, SepW lo l → l[k]? = some x → l[k + 1]? = some y → x.fr + 1 < y.at_
  | [], _, _, _, _, _, h, _ => by simp at h
  | z :: l, lo, 0, x, y, h, hk, hy => by
    simp at hk; subst hk
    exact (sep_get (k := 0) h.2.2 (by simpa using hy)).2
  | z :: l, lo, k + 1, x, y, h, hk, hy => sep_next (k := k) h.2.2 (by simpa using hk) (by simpa using hy)

/-- what First, Last and All say of a request -/
structure FitY (l : List StepD) (a b n d : Int) (R : List StepD) : Prop where
  req : ReqY l a b n d
  is : R = fitL l n d a b
  in_ : ∀ t, InW R t ↔ FitP (valF 0 l) n d a b t
  sep : SepW (-1) R
  fst : R ≠ [] → FitP (valF 0 l) n d a b (fstV R) ∧ ∀ t, FitP (valF 0 l) n d a b t → fstV R ≤ t
  lst : R ≠ [] → FitP (valF 0 l) n d a b (lstV R) ∧ ∀ t, FitP (valF 0 l) n d a b t → t ≤ lstV R
  nil : R = [] → ∀ t, ¬ FitP (valF 0 l) n d a b t
theorem fitY {l : List StepD} {a b n d : Int} (h : ReqY l a b n d) : FitY l a b n d (fitL l n d a b) := by
  have hi := fun t => fit_in h.prof (n := n) (d := d) (a := a) (b := b) (by have := h.hn; omega) h.hd.1 h.ha.1 h.hb.2 t
  have hs : SepW (-1) (fitL l n d a b) := fit_sep h.prof (by have := h.hn; omega) h.hd.1
  refine ⟨h, rfl, hi, hs, fun hne => ?_, fun hne => ?_, fun e t ht => ?_⟩
  · generalize fitL l n d a b = R at *
    cases R with
    | nil => exact absurd rfl hne
    | cons x R => exact ⟨(hi _).1 (inW_cons.2 (Or.inl ⟨Int.le_refl _, hs.2.1⟩)), fun t ht => sep_fst hs ((hi t).2 ht)⟩
  · exact ⟨(hi _).1 (lst_in hne hs), fun t ht => sep_up hs ((hi t).2 ht)⟩
  · have := (hi t).2 ht
    rw [e] at this
    exact inW_nil this
theorem FitY.ne {l : List StepD} {a b n d : Int} {R : List StepD} (h : FitY l a b n d R) {t : Int} (ht : FitP (valF 0 l) n d a b t) : R ≠ [] := fun e => h.nil e t ht
theorem fst_zero {R : List StepD} : fstE R = 0 ↔ R ≠ [] := by cases R <;> simp [fstE]
theorem fstE_or (R : List StepD) : fstE R = 0 ∨ fstE R = 70 := by cases R <;> simp [fstE]
theorem first_or (l : List StepD) (a b n d : Int) : firstE l a b n d = 0 ∨ firstE l a b n d = 2 ∨ firstE l a b n d = 70 := by
  unfold firstE
  split
  · rcases fstE_or (fitL l n d a b) with h | h <;> simp [h]
  · simp
theorem firstE_ok {l : List StepD} {a b n d : Int} (h : firstE l a b n d = 0) : FitY l a b n d (fitL l n d a b) ∧ fitL l n d a b ≠ [] ∧ firstV l a b n d = fstV (fitL l n d a b) ∧ lastR l a b n d = lstV (fitL l n d a b) := by
  unfold firstE at h
  rcases req_or l a b n d with hr | hr
  · rw [if_pos hr] at h
    refine ⟨fitY (req_yes.1 hr), fst_zero.1 h, ?_, ?_⟩
    · unfold firstV; rw [if_pos hr]
    · unfold lastR; rw [if_pos hr]
  · rw [if_neg (by omega)] at h; cases h
theorem firstE_arg {l : List StepD} {a b n d : Int} (h : firstE l a b n d ≠ 2) : ReqY l a b n d := by
  unfold firstE at h
  rcases req_or l a b n d with hr | hr
  · exact req_yes.1 hr
  · rw [if_neg (by omega)] at h; exact absurd rfl h
theorem firstE_of {l : List StepD} {a b n d t : Int} (h : ReqY l a b n d) (ht : FitP (valF 0 l) n d a b t) : firstE l a b n d = 0 := by
  unfold firstE
  rw [if_pos (req_yes.2 h)]
  exact fst_zero.2 ((fitY h).ne ht)
theorem firstE_no {l : List StepD} {a b n d : Int} (h : ReqY l a b n d) (ht : ∀ t, ¬ FitP (valF 0 l) n d a b t) : firstE l a b n d = 70 := by
  unfold firstE
  rw [if_pos (req_yes.2 h)]
  rcases fstE_or (fitL l n d a b) with k | k
  · exact absurd ((fitY h).fst (fst_zero.1 k)).1 (ht _)
  · exact k
/-- the first time, told by what is so of it -/
theorem first_is {l : List StepD} {a b n d t : Int} (h : ReqY l a b n d) (ht : FitP (valF 0 l) n d a b t) (hl : ∀ u, FitP (valF 0 l) n d a b u → t ≤ u) : firstE l a b n d = 0 ∧ firstV l a b n d = t := by
  have h0 := firstE_of h ht
  obtain ⟨hy, hne, e1, e2⟩ := firstE_ok h0
  refine ⟨h0, ?_⟩
  rw [e1]
  have k1 := (hy.fst hne).2 t ht
  have k2 := hl _ (hy.fst hne).1
  omega
theorem last_is {l : List StepD} {a b n d t : Int} (h : ReqY l a b n d) (ht : FitP (valF 0 l) n d a b t) (hl : ∀ u, FitP (valF 0 l) n d a b u → u ≤ t) : firstE l a b n d = 0 ∧ lastR l a b n d = t := by
  have h0 := firstE_of h ht
  obtain ⟨hy, hne, e1, e2⟩ := firstE_ok h0
  refine ⟨h0, ?_⟩
  rw [e2]
  have k1 := (hy.lst hne).2 t ht
  have k2 := hl _ (hy.lst hne).1
  omega
theorem FitP.mono {f : Int → Int} {n d a b n' d' a' b' t : Int} (h : FitP f n d a b t) (hn : n' ≤ n) (hd : d' ≤ d) (ha : a' ≤ a) (hb : b ≤ b') : FitP f n' d' a' b' t :=
  ⟨by have := h.1; omega, by have := h.2.1; omega, fun u k1 k2 => by have := h.2.2 u k1 (by omega); omega⟩

/-! FitLess -/
theorem fit_less {l : List StepD} {a b n d a' b' n' d' : Int} (h : firstE l a b n d = 0) (h' : firstE l a' b' n' d' ≠ 2) (hn : n' ≤ n) (hd : d' ≤ d) (ha : a' ≤ a) (hb : b ≤ b') :
    firstE l a' b' n' d' = 0 ∧ firstV l a' b' n' d' ≤ firstV l a b n d ∧ lastR l a b n d ≤ lastR l a' b' n' d' := by
  obtain ⟨hy, hne, e1, e2⟩ := firstE_ok h
  have hr' := firstE_arg h'
  have k1 := (hy.fst hne).1.mono hn hd ha hb
  have k2 := (hy.lst hne).1.mono hn hd ha hb
  have h0 := firstE_of hr' k1
  obtain ⟨hy', hne', e1', e2'⟩ := firstE_ok h0
  rw [e1, e2, e1', e2']
  exact ⟨h0, (hy'.fst hne').2 _ k1, (hy'.lst hne').2 _ k2⟩
/-! FitEnds -/
structure EndsY (l : List StepD) (a b n d x y : Int) : Prop where
  c : firstE l x b n d = 0 ∧ firstV l x b n d = x
  e : firstE l a (y + d) n d = 0 ∧ lastR l a (y + d) n d = y
  f : firstE l a (x + d) n d = 0 ∧ firstV l a (x + d) n d = x
  j : 0 < x + d → (0 < d ∨ a < x) → firstE l a (x + d - 1) n d = 70
  bx : 0 ≤ x ∧ x + d ≤ 1099511627775
  by_ : 0 ≤ y ∧ y + d ≤ 1099511627775
  ax : a ≤ x
  z : d = 0 → x = a
  fit : fitB l n d a b x = true
  prof : Prof l
  req : ReqY l a b n d
theorem fit_ends {l : List StepD} {a b n d : Int} (h : firstE l a b n d = 0) : EndsY l a b n d (firstV l a b n d) (lastR l a b n d) := by
  obtain ⟨hy, hne, e1, e2⟩ := firstE_ok h
  obtain ⟨x, hx⟩ : ∃ x, firstV l a b n d = x := ⟨_, rfl⟩
  obtain ⟨y, hyy⟩ : ∃ x, lastR l a b n d = x := ⟨_, rfl⟩
  obtain ⟨f1, f2⟩ := hy.fst hne
  obtain ⟨l1, l2⟩ := hy.lst hne
  rw [← e1, hx] at f1 f2
  rw [← e2, hyy] at l1 l2
  rw [hx, hyy]
  have r := hy.req
  obtain ⟨a1, a2, a3⟩ := f1
  obtain ⟨b1, b2, b3⟩ := l1
  have ra := r.ha; have rb := r.hb; have rd := r.hd; have rn := r.hn
  have mk : ∀ {A B : Int}, (0 ≤ A ∧ A ≤ 1099511627775) → (0 ≤ B ∧ B ≤ 1099511627775) → ReqY l A B n d := fun hA hB => ⟨r.prof, hA, hB, rn, rd⟩
  refine ⟨first_is (mk (by omega) rb) ⟨Int.le_refl _, a2, a3⟩ fun u hu => hu.1, last_is (mk ra (by omega)) ⟨b1, Int.le_refl _, b3⟩ fun u hu => by have := hu.2.1; omega, first_is (mk ra (by omega)) ⟨a1, Int.le_refl _, a3⟩ fun u hu => f2 u (hu.mono (Int.le_refl _) (Int.le_refl _) (Int.le_refl _) (by omega)), fun k1 k2 => firstE_no (mk ra (by omega)) fun t ht => ?_, ⟨by omega, by omega⟩, ⟨by omega, by omega⟩, a1, fun hd0 => ?_, (fitB_iff r.prof rd.1 ra.1 rb.2).2 ⟨a1, a2, a3⟩, r.prof, r⟩
  · have := f2 t (ht.mono (Int.le_refl _) (Int.le_refl _) (Int.le_refl _) (by omega))
    have := ht.2.1
    omega
  · have := f2 a ⟨Int.le_refl _, by omega, fun u k1 k2 => by omega⟩
    omega
end Go.Proofs.Ytldmkbmkjdnaaaa.Ft

