/- Layer 9 in plain words: profiles of free nodes. No program. -/
import Derived.Test.YtapojmniokdjfaaClkA
namespace Go.Proofs.Ytapojmniokdjfaa
set_option linter.unusedVariables false

structure StepD where
  at_ : Int
  fr : Int
theorem stepD_ext {a b : StepD} (h : a.at_ = b.at_) (k : a.fr = b.fr) : a = b := by cases a; cases b; simp at h k; simp [h, k]
def DD : Int := 1000000
def nodeOK (n : Int) : Bool := decide (0 ≤ n) && decide (n ≤ 10000)
theorem nodeOK_iff {n : Int} : nodeOK n = true ↔ 0 ≤ n ∧ n ≤ 10000 := by simp [nodeOK]

/-- rising behind lo, each other than the one ahead -/
def Norm : Int → Int → List StepD → Prop
  | _, _, [] => True
  | lo, d, s :: l => lo < s.at_ ∧ s.fr ≠ d ∧ Norm s.at_ s.fr l
def Rise : Int → List StepD → Prop
  | _, [] => True
  | lo, s :: l => lo < s.at_ ∧ Rise s.at_ l
def valF : Int → List StepD → Int → Int
  | d, [], _ => d
  | d, s :: l, t => if s.at_ ≤ t then valF s.fr l t else d
def lastV : Int → List StepD → Int
  | d, [] => d
  | _, s :: l => lastV s.fr l
def lastA : Int → List StepD → Int
  | d, [] => d
  | _, s :: l => lastA s.at_ l
theorem Norm.rise : ∀ {l : List StepD} {lo d : Int}, Norm lo d l → Rise lo l
  | [], _, _, _ => trivial
  | s :: l, _, _, ⟨h1, _, h3⟩ => ⟨h1, h3.rise⟩
theorem Rise.mono : ∀ {l : List StepD} {lo lo' : Int}, Rise lo l → lo' ≤ lo → Rise lo' l
  | [], _, _, _, _ => trivial
  | s :: l, _, _, ⟨h1, h2⟩, h => ⟨by omega, h2⟩
theorem val_low : ∀ {l : List StepD} {lo d t : Int}, Rise lo l → t ≤ lo → valF d l t = d
  | [], _, _, _, _, _ => rfl
  | s :: l, _, _, _, ⟨h1, _⟩, h => if_neg (by omega)
theorem val_cons {s : StepD} {l : List StepD} {d t : Int} (h : s.at_ ≤ t) : valF d (s :: l) t = valF s.fr l t := if_pos h
theorem val_ahead {s : StepD} {l : List StepD} {d t : Int} (h : t < s.at_) : valF d (s :: l) t = d := if_neg (by omega)
theorem val_head {s : StepD} {l : List StepD} {d : Int} (h : Rise s.at_ l) : valF d (s :: l) s.at_ = s.fr := by rw [val_cons (Int.le_refl _), val_low h (Int.le_refl _)]
theorem uniq : ∀ (l m : List StepD) (lo d : Int), Norm lo d l → Norm lo d m → (∀ t, lo < t → valF d l t = valF d m t) → l = m
  | [], [], _, _, _, _, _ => rfl
  | [], s :: m, lo, d, _, ⟨h1, h2, h3⟩, h => by
    have := h s.at_ h1
    rw [val_head h3.rise] at this
    exact absurd this.symm h2
  | s :: m, [], lo, d, ⟨h1, h2, h3⟩, _, h => by
    have := h s.at_ h1
    rw [val_head h3.rise] at this
    exact absurd this h2
  | a :: l, b :: m, lo, d, ⟨a1, a2, a3⟩, ⟨b1, b2, b3⟩, h => by
    have hA := val_head (d := d) a3.rise
    have hB := val_head (d := d) b3.rise
    have e : a.at_ = b.at_ := by
      rcases Int.lt_trichotomy a.at_ b.at_ with q | q | q
      · have := h a.at_ a1; rw [hA, val_ahead q] at this; exact absurd this a2
      · exact q
      · have := h b.at_ b1; rw [hB, val_ahead q] at this; exact absurd this.symm b2
    have e2 : a.fr = b.fr := by have := h a.at_ a1; rw [hA] at this; rw [this, e, hB]
    obtain rfl := stepD_ext e e2
    congr 1
    exact uniq l m _ _ a3 b3 (fun t ht => by have := h t (by omega); rwa [val_cons (by omega), val_cons (by omega)] at this)

/-- a step more, if it is another one -/
def putD (l : List StepD) (s : StepD) : List StepD := if 0 < l.length ∧ lastV 0 l = s.fr then l else l ++ [s]
theorem lastV_any {l : List StepD} (h : l ≠ []) (d d' : Int) : lastV d l = lastV d' l := by cases l with
  | nil => exact absurd rfl h
  | cons s l => rfl
theorem lastV_get : ∀ {l : List StepD} {u : StepD} (d : Int), l[l.length - 1]? = some u → lastV d l = u.fr
  | [], u, _, h => by simp at h
  | [s], u, _, h => by simp at h; subst h; rfl
  | s :: r :: l, u, d, h => by
    have := lastV_get (l := r :: l) (u := u) s.fr (by simpa using h)
    exact this
theorem norm_snoc : ∀ {l : List StepD} {lo d : Int} {s : StepD}, Norm lo d l → lastA lo l < s.at_ → lastV d l ≠ s.fr → Norm lo d (l ++ [s])
  | [], _, _, s, _, h1, h2 => ⟨h1, fun e => h2 e.symm, trivial⟩
  | a :: l, _, _, s, ⟨k1, k2, k3⟩, h1, h2 => ⟨k1, k2, norm_snoc k3 h1 h2⟩
theorem lastA_low : ∀ {l : List StepD} {lo : Int}, Rise lo l → lo ≤ lastA lo l
  | [], _, _ => Int.le_refl _
  | a :: l, lo, ⟨h1, h2⟩ => by have := lastA_low h2; show lo ≤ lastA a.at_ l; omega
theorem val_snoc : ∀ {l : List StepD} {lo d t : Int} {s : StepD}, Rise lo l → lastA lo l < s.at_ → valF d (l ++ [s]) t = if s.at_ ≤ t then s.fr else valF d l t
  | [], _, _, _, s, _, _ => rfl
  | a :: l, lo, d, t, s, ⟨h1, h2⟩, h => by
    have hl := lastA_low h2
    have h' : lastA a.at_ l < s.at_ := h
    rw [List.cons_append]
    by_cases ht : a.at_ ≤ t
    · rw [val_cons ht, val_cons ht, val_snoc h2 h']
    · rw [val_ahead (by omega), val_ahead (by omega), if_neg (by omega)]
theorem val_end : ∀ {l : List StepD} {lo d t : Int}, Rise lo l → lastA lo l ≤ t → valF d l t = lastV d l
  | [], _, _, _, _, _ => rfl
  | a :: l, lo, d, t, ⟨h1, h2⟩, h => by
    have hl := lastA_low h2
    have h' : lastA a.at_ l ≤ t := h
    rw [val_cons (by omega), val_end h2 h']; rfl
theorem lastA_snoc : ∀ (l : List StepD) (lo : Int) (s : StepD), lastA lo (l ++ [s]) = s.at_
  | [], _, _ => rfl
  | a :: l, _, s => lastA_snoc l a.at_ s
theorem lastV_snoc : ∀ (l : List StepD) (d : Int) (s : StepD), lastV d (l ++ [s]) = s.fr
  | [], _, _ => rfl
  | a :: l, _, s => lastV_snoc l a.fr s
theorem put_ne (l : List StepD) (s : StepD) : putD l s ≠ [] := by
  unfold putD
  by_cases h : 0 < l.length ∧ lastV 0 l = s.fr
  · rw [if_pos h]; intro e; rw [e] at h; simp at h
  · rw [if_neg h]; simp
theorem put_len (l : List StepD) (s : StepD) : (putD l s).length ≤ l.length + 1 := by
  unfold putD
  by_cases h : 0 < l.length ∧ lastV 0 l = s.fr
  · rw [if_pos h]; omega
  · rw [if_neg h]; simp
theorem put_mem {l : List StepD} {s x : StepD} (h : x ∈ putD l s) : x ∈ l ∨ x = s := by
  unfold putD at h
  by_cases k : 0 < l.length ∧ lastV 0 l = s.fr
  · rw [if_pos k] at h; exact Or.inl h
  · rw [if_neg k] at h; simpa using h
theorem put_lastV (l : List StepD) (s : StepD) (d : Int) : lastV d (putD l s) = s.fr := by
  unfold putD
  by_cases h : 0 < l.length ∧ lastV 0 l = s.fr
  · rw [if_pos h, lastV_any (by intro e; rw [e] at h; simp at h) d 0]; exact h.2
  · rw [if_neg h, lastV_snoc]
theorem put_lastA {l : List StepD} {s : StepD} {lo : Int} (h : lastA lo l < s.at_) : lastA lo (putD l s) ≤ s.at_ := by
  unfold putD
  by_cases k : 0 < l.length ∧ lastV 0 l = s.fr
  · rw [if_pos k]; omega
  · rw [if_neg k, lastA_snoc]; exact Int.le_refl _
theorem put_norm {l : List StepD} {s : StepD} {lo d : Int} (h : Norm lo d l) (h1 : lastA lo l < s.at_) (h2 : s.fr ≠ d) : Norm lo d (putD l s) := by
  unfold putD
  by_cases k : 0 < l.length ∧ lastV 0 l = s.fr
  · rw [if_pos k]; exact h
  · rw [if_neg k]
    refine norm_snoc h h1 fun e => ?_
    by_cases hl : l = []
    · subst hl; exact h2 e.symm
    · exact k ⟨List.length_pos_iff.2 hl, by rw [lastV_any hl 0 d]; exact e⟩
theorem put_val {l : List StepD} {s : StepD} {lo d t : Int} (h : Rise lo l) (h1 : lastA lo l < s.at_) : valF d (putD l s) t = if s.at_ ≤ t then s.fr else valF d l t := by
  unfold putD
  by_cases k : 0 < l.length ∧ lastV 0 l = s.fr
  · rw [if_pos k]
    by_cases ht : s.at_ ≤ t
    · rw [if_pos ht, val_end h (by omega), lastV_any (by intro e; rw [e] at k; simp at k) d 0]; exact k.2
    · rw [if_neg ht]
  · rw [if_neg k]; exact val_snoc h h1

/-- two added up, time by time -/
def togD : Nat → Int → Int → List StepD → List StepD → List StepD → List StepD
  | 0, _, _, _, _, out => out
  | g + 1, x, y, l, m, out => match l, m with
    | [], [] => out
    | a :: l, [] => togD g a.fr y l [] (putD out ⟨a.at_, a.fr + y⟩)
    | [], b :: m => togD g x b.fr [] m (putD out ⟨b.at_, x + b.fr⟩)
    | a :: l, b :: m => if a.at_ < b.at_ then togD g a.fr y l (b :: m) (putD out ⟨a.at_, a.fr + y⟩) else if b.at_ < a.at_ then togD g x b.fr (a :: l) m (putD out ⟨b.at_, x + b.fr⟩) else togD g a.fr b.fr l m (putD out ⟨a.at_, a.fr + b.fr⟩)
/-- what comes of it -/
structure TogR (out l m : List StepD) (x y τ : Int) (R : List StepD) : Prop where
  norm : Norm (-1) DD R
  low : ∀ t, t ≤ τ → valF DD R t = valF DD out t
  val : ∀ t, τ < t → valF DD R t = valF x l t + valF y m t
  len : R.length ≤ out.length + l.length + m.length
  mem : ∀ s ∈ R, s ∈ out ∨ (∃ a ∈ l, a.at_ = s.at_) ∨ (∃ b ∈ m, b.at_ = s.at_)
structure TogI (out l m : List StepD) (x y τ : Int) : Prop where
  norm : Norm (-1) DD out
  last : lastA (-1) out ≤ τ
  low : -1 ≤ τ
  rl : Rise τ l
  rm : Rise τ m
  one : out ≠ [] → lastV DD out = x + y
  none : out = [] → (∃ a l', l = a :: l' ∧ a.at_ = τ + 1) ∨ (∃ b m', m = b :: m' ∧ b.at_ = τ + 1)
  bl : ∀ s ∈ l, -10000 ≤ s.fr ∧ s.fr ≤ 10000
  bm : ∀ s ∈ m, -10000 ≤ s.fr ∧ s.fr ≤ 10000
  bx : -10000 ≤ x ∧ x ≤ 10000
  by_ : -10000 ≤ y ∧ y ≤ 10000
theorem tog_step {out l m l' m' R : List StepD} {x y x' y' u τ : Int} (H : TogI out l m x y τ) (hu : τ < u)
    (hn1 : ∀ t, τ < t → t < u → valF x l t = x ∧ valF y m t = y) (hn2 : ∀ t, u ≤ t → valF x l t = valF x' l' t ∧ valF y m t = valF y' m' t)
    (hone : out = [] → u = τ + 1) (hrl : Rise u l') (hrm : Rise u m') (hx : -10000 ≤ x' ∧ x' ≤ 10000) (hy : -10000 ≤ y' ∧ y' ≤ 10000)
    (hsl : ∀ s ∈ l', s ∈ l) (hsm : ∀ s ∈ m', s ∈ m) (hlen : l'.length + m'.length + 1 ≤ l.length + m.length) (hat : (∃ a ∈ l, a.at_ = u) ∨ (∃ b ∈ m, b.at_ = u))
    (ih : TogI (putD out ⟨u, x' + y'⟩) l' m' x' y' u → TogR (putD out ⟨u, x' + y'⟩) l' m' x' y' u R) : TogR out l m x y τ R := by
  have hlt : lastA (-1) out < (StepD.mk u (x' + y')).at_ := by have := H.last; show _ < u; omega
  have hI := ih ⟨put_norm H.norm hlt (by show x' + y' ≠ DD; unfold DD; omega), put_lastA hlt, by have := H.low; omega, hrl, hrm, fun _ => put_lastV _ _ _, fun e => absurd e (put_ne _ _), fun s hs => H.bl s (hsl s hs), fun s hs => H.bm s (hsm s hs), hx, hy⟩
  refine ⟨hI.norm, fun t ht => ?_, fun t ht => ?_, ?_, fun s hs => ?_⟩
  · rw [hI.low t (by omega), put_val H.norm.rise hlt, if_neg (by show ¬ u ≤ t; omega)]
  · rcases Int.lt_or_le t u with q | q
    · rw [hI.low t (by omega), put_val H.norm.rise hlt, if_neg (by show ¬ u ≤ t; omega)]
      obtain ⟨e1, e2⟩ := hn1 t ht q
      rw [e1, e2]
      by_cases ho : out = []
      · have := hone ho; omega
      · rw [val_end H.norm.rise (by have := H.last; omega), H.one ho]
    · obtain ⟨e1, e2⟩ := hn2 t q
      rw [e1, e2]
      rcases Int.lt_or_eq_of_le q with q | q
      · exact hI.val t q
      · subst q
        rw [hI.low u (Int.le_refl _), put_val H.norm.rise hlt, if_pos (Int.le_refl _), val_low hrl (Int.le_refl _), val_low hrm (Int.le_refl _)]
  · have h1 := hI.len
    have h2 := put_len out ⟨u, x' + y'⟩
    omega
  · rcases hI.mem s hs with h | ⟨a, ha, e⟩ | ⟨b, hb, e⟩
    · rcases put_mem h with h | h
      · exact Or.inl h
      · subst h; exact Or.inr hat
    · exact Or.inr (Or.inl ⟨a, hsl a ha, e⟩)
    · exact Or.inr (Or.inr ⟨b, hsm b hb, e⟩)
theorem tog_val : ∀ (g : Nat) (x y : Int) (l m out : List StepD) (τ : Int), l.length + m.length ≤ g → TogI out l m x y τ → TogR out l m x y τ (togD g x y l m out)
  | g, x, y, [], [], out, τ, hg, H => by
    have e : togD g x y [] [] out = out := by cases g <;> rfl
    rw [e]
    refine ⟨H.norm, fun _ _ => rfl, fun t ht => ?_, by simp, fun s hs => Or.inl hs⟩
    by_cases ho : out = []
    · rcases H.none ho with ⟨a, l', h, _⟩ | ⟨a, l', h, _⟩ <;> cases h
    · rw [val_end H.norm.rise (by have := H.last; omega), H.one ho]; rfl
  | 0, x, y, a :: l, m, out, τ, hg, H => by simp at hg
  | 0, x, y, [], b :: m, out, τ, hg, H => by simp at hg
  | g + 1, x, y, a :: l, [], out, τ, hg, H => by
    obtain ⟨h1, h2⟩ := H.rl
    refine tog_step (u := a.at_) (x' := a.fr) (y' := y) (l' := l) (m' := []) H h1 (fun t q1 q2 => ⟨val_ahead q2, rfl⟩) (fun t q => ⟨val_cons q, rfl⟩) (fun ho => ?_) h2 trivial (H.bl a (by simp)) H.by_ (fun s hs => by simp [hs]) (fun s hs => hs) (by simp) (Or.inl ⟨a, by simp, rfl⟩) (fun hI => tog_val g _ _ _ _ _ _ (by simp at hg ⊢; omega) hI)
    rcases H.none ho with ⟨c, l', h, e⟩ | ⟨c, l', h, _⟩
    · cases h; exact e
    · cases h
  | g + 1, x, y, [], b :: m, out, τ, hg, H => by
    obtain ⟨h1, h2⟩ := H.rm
    refine tog_step (u := b.at_) (x' := x) (y' := b.fr) (l' := []) (m' := m) H h1 (fun t q1 q2 => ⟨rfl, val_ahead q2⟩) (fun t q => ⟨rfl, val_cons q⟩) (fun ho => ?_) trivial h2 H.bx (H.bm b (by simp)) (fun s hs => hs) (fun s hs => by simp [hs]) (by simp) (Or.inr ⟨b, by simp, rfl⟩) (fun hI => tog_val g _ _ _ _ _ _ (by simp at hg ⊢; omega) hI)
    rcases H.none ho with ⟨c, l', h, _⟩ | ⟨c, l', h, e⟩
    · cases h
    · cases h; exact e
  | g + 1, x, y, a :: l, b :: m, out, τ, hg, H => by
    obtain ⟨h1, h2⟩ := H.rl
    obtain ⟨k1, k2⟩ := H.rm
    have hno : out = [] → a.at_ = τ + 1 ∨ b.at_ = τ + 1 := fun ho => by
      rcases H.none ho with ⟨c, l', h, e⟩ | ⟨c, l', h, e⟩
      · cases h; exact Or.inl e
      · cases h; exact Or.inr e
    show TogR _ _ _ _ _ _ (if a.at_ < b.at_ then togD g a.fr y l (b :: m) (putD out ⟨a.at_, a.fr + y⟩) else if b.at_ < a.at_ then togD g x b.fr (a :: l) m (putD out ⟨b.at_, x + b.fr⟩) else togD g a.fr b.fr l m (putD out ⟨a.at_, a.fr + b.fr⟩))
    by_cases c1 : a.at_ < b.at_
    · rw [if_pos c1]
      refine tog_step (u := a.at_) (x' := a.fr) (y' := y) (l' := l) (m' := b :: m) H h1 (fun t q1 q2 => ⟨val_ahead q2, val_ahead (by omega)⟩) (fun t q => ⟨val_cons q, rfl⟩) (fun ho => ?_) h2 ⟨c1, k2⟩ (H.bl a (by simp)) H.by_ (fun s hs => by simp [hs]) (fun s hs => hs) (by simp; omega) (Or.inl ⟨a, by simp, rfl⟩) (fun hI => tog_val g _ _ _ _ _ _ (by simp at hg ⊢; omega) hI)
      rcases hno ho with e | e <;> omega
    · rw [if_neg c1]
      by_cases c2 : b.at_ < a.at_
      · rw [if_pos c2]
        refine tog_step (u := b.at_) (x' := x) (y' := b.fr) (l' := a :: l) (m' := m) H k1 (fun t q1 q2 => ⟨val_ahead (by omega), val_ahead q2⟩) (fun t q => ⟨rfl, val_cons q⟩) (fun ho => ?_) ⟨c2, h2⟩ k2 H.bx (H.bm b (by simp)) (fun s hs => hs) (fun s hs => by simp [hs]) (by simp; omega) (Or.inr ⟨b, by simp, rfl⟩) (fun hI => tog_val g _ _ _ _ _ _ (by simp at hg ⊢; omega) hI)
        rcases hno ho with e | e <;> omega
      · rw [if_neg c2]
        have e : a.at_ = b.at_ := by omega
        refine tog_step (u := a.at_) (x' := a.fr) (y' := b.fr) (l' := l) (m' := m) H h1 (fun t q1 q2 => ⟨val_ahead q2, val_ahead (by omega)⟩) (fun t q => ⟨val_cons q, val_cons (by omega)⟩) (fun ho => ?_) h2 (by rw [e]; exact k2) (H.bl a (by simp)) (H.bm b (by simp)) (fun s hs => by simp [hs]) (fun s hs => by simp [hs]) (by simp; omega) (Or.inl ⟨a, by simp, rfl⟩) (fun hI => tog_val g _ _ _ _ _ _ (by simp at hg ⊢; omega) hI)
        rcases hno ho with e | e <;> omega
end Go.Proofs.Ytapojmniokdjfaa
namespace Go.Proofs.Ytapojmniokdjfaa
/-! a profile -/
def chkF : Int → Int → List StepD → Bool
  | _, _, [] => true
  | lo, d, s :: l => Clk.isT s.at_ && (nodeOK s.fr && (decide (lo < s.at_) && (decide (s.fr ≠ d) && chkF s.at_ s.fr l)))
def zeroF : List StepD → Bool
  | [] => false
  | s :: _ => decide (s.at_ = 0)
def chkD (l : List StepD) : Bool := decide (l.length ≤ 20000) && (zeroF l && chkF (-1) DD l)
def chkE (l : List StepD) : Int := if chkD l = true then 0 else 2
structure Prof (l : List StepD) : Prop where
  len : l.length ≤ 20000
  zero : ∃ s r, l = s :: r ∧ s.at_ = 0
  norm : Norm (-1) DD l
  ok : ∀ s ∈ l, (0 ≤ s.at_ ∧ s.at_ ≤ 1099511627775) ∧ 0 ≤ s.fr ∧ s.fr ≤ 10000
theorem chkF_norm : ∀ {l : List StepD} {lo d : Int}, chkF lo d l = true → Norm lo d l ∧ ∀ s ∈ l, (0 ≤ s.at_ ∧ s.at_ ≤ 1099511627775) ∧ 0 ≤ s.fr ∧ s.fr ≤ 10000
  | [], _, _, _ => ⟨trivial, fun s h => by cases h⟩
  | s :: l, lo, d, h => by
    simp only [chkF, Bool.and_eq_true, decide_eq_true_eq] at h
    obtain ⟨h1, h2, h3, h4, h5⟩ := h
    obtain ⟨k1, k2⟩ := chkF_norm h5
    refine ⟨⟨h3, h4, k1⟩, fun u hu => ?_⟩
    rcases List.mem_cons.1 hu with rfl | hu
    · exact ⟨Clk.isT_bd h1, nodeOK_iff.1 h2⟩
    · exact k2 u hu
theorem norm_chkF : ∀ {l : List StepD} {lo d : Int}, Norm lo d l → (∀ s ∈ l, (0 ≤ s.at_ ∧ s.at_ ≤ 1099511627775) ∧ 0 ≤ s.fr ∧ s.fr ≤ 10000) → chkF lo d l = true
  | [], _, _, _, _ => rfl
  | s :: l, lo, d, ⟨h1, h2, h3⟩, h => by
    have hs := h s (by simp)
    simp only [chkF, Bool.and_eq_true, decide_eq_true_eq]
    exact ⟨Clk.isT_yes hs.1.1 hs.1.2, nodeOK_iff.2 hs.2, h1, h2, norm_chkF h3 fun u hu => h u (by simp [hu])⟩
theorem chkD_prof {l : List StepD} : chkD l = true ↔ Prof l := by
  unfold chkD
  simp only [Bool.and_eq_true, decide_eq_true_eq]
  constructor
  · rintro ⟨h1, h2, h3⟩
    obtain ⟨k1, k2⟩ := chkF_norm h3
    cases l with
    | nil => cases h2
    | cons s r => exact ⟨h1, ⟨s, r, rfl, by simpa [zeroF] using h2⟩, k1, k2⟩
  · rintro ⟨h1, ⟨s, r, rfl, h2⟩, h3, h4⟩
    exact ⟨h1, by simpa [zeroF] using h2, norm_chkF h3 h4⟩
end Go.Proofs.Ytapojmniokdjfaa

