/- Layer 9 in plain words: profiles of free nodes. No program.
   A stable sort in plain words, by positions: moves, keys, what stays. No program.
   A stable sort in plain words, what its parts do: insertion, the merge in place, runs. No program.
   A stable sort is one list; the greedy choice of the greatest one that is left makes it. No program. -/
import Derived.Test.YtaiolhanbjndcaaDoorMDag
namespace Go.Proofs.YtaiolhanbjndcaaDoor
set_option linter.unusedVariables false

structure StepD where
  at_ : Int
  fr : Int
theorem stepD_ext {a b : StepD} (h : a.at_ = b.at_) (k : a.fr = b.fr) : a = b := by cases a; cases b; simp at h k; simp [h, k]
def DD : Int := 1000000
def nodeOK (n : Int) : Bool := decide (0 ≤ n) && decide (n ≤ 10000)
theorem nodeOK_iff {n : Int} : nodeOK n = true ↔ 0 ≤ n ∧ n ≤ 10000 := by simp [nodeOK]

/-- rising behind lo, each other than the one ahead -/
def Norm : Int → Int → List StepD → Prop
  | _, _, [] => True
  | lo, d, s :: l => lo < s.at_ ∧ s.fr ≠ d ∧ Norm s.at_ s.fr l
def Rise : Int → List StepD → Prop
  | _, [] => True
  | lo, s :: l => lo < s.at_ ∧ Rise s.at_ l
def valF : Int → List StepD → Int → Int
  | d, [], _ => d
  | d, s :: l, t => if s.at_ ≤ t then valF s.fr l t else d
def lastV : Int → List StepD → Int
  | d, [] => d
  | _, s :: l => lastV s.fr l
def lastA : Int → List StepD → Int
  | d, [] => d
  | _, s :: l => lastA s.at_ l
theorem Norm.rise : ∀ {l : List StepD} {lo d : Int}, Norm lo d l → Rise lo l
  | [], _, _, _ => trivial
  | s :: l, _, _, ⟨h1, _, h3⟩ => ⟨h1, h3.rise⟩
theorem Rise.mono : ∀ {l : List StepD} {lo lo' : Int}, Rise lo l → lo' ≤ lo → Rise lo' l
  | [], _, _, _, _ => trivial
  | s :: l, _, _, ⟨h1, h2⟩, h => ⟨by omega, h2⟩
theorem val_low : ∀ {l : List StepD} {lo d t : Int}, Rise lo l → t ≤ lo → valF d l t = d
  | [], _, _, _, _, _ => rfl
  | s :: l, _, _, _, ⟨h1, _⟩, h => if_neg (by omega)
theorem val_cons {s : StepD} {l : List StepD} {d t : Int} (h : s.at_ ≤ t) : valF d (s :: l) t = valF s.fr l t := if_pos h
theorem val_ahead {s : StepD} {l : List StepD} {d t : Int} (h : t < s.at_) : valF d (s :: l) t = d := if_neg (by omega)
theorem val_head {s : StepD} {l : List StepD} {d : Int} (h : Rise s.at_ l) : valF d (s :: l) s.at_ = s.fr := by rw [val_cons (Int.le_refl _), val_low h (Int.le_refl _)]
theorem uniq : ∀ (l m : List StepD) (lo d : Int), Norm lo d l → Norm lo d m → (∀ t, lo < t → valF d l t = valF d m t) → l = m
  | [], [], _, _, _, _, _ => rfl
  | [], s :: m, lo, d, _, ⟨h1, h2, h3⟩, h => by
    have := h s.at_ h1
    rw [val_head h3.rise] at this
    exact absurd this.symm h2
  | s :: m, [], lo, d, ⟨h1, h2, h3⟩, _, h => by
    have := h s.at_ h1
    rw [val_head h3.rise] at this
    exact absurd this h2
  | a :: l, b :: m, lo, d, ⟨a1, a2, a3⟩, ⟨b1, b2, b3⟩, h => by
    have hA := val_head (d := d) a3.rise
    have hB := val_head (d := d) b3.rise
    have e : a.at_ = b.at_ := by
      rcases Int.lt_trichotomy a.at_ b.at_ with q | q | q
      · have := h a.at_ a1; rw [hA, val_ahead q] at this; exact absurd this a2
      · exact q
      · have := h b.at_ b1; rw [hB, val_ahead q] at this; exact absurd this.symm b2
    have e2 : a.fr = b.fr := by have := h a.at_ a1; rw [hA] at this; rw [this, e, hB]
    obtain rfl := stepD_ext e e2
    congr 1
    exact uniq l m _ _ a3 b3 (fun t ht => by have := h t (by omega); rwa [val_cons (by omega), val_cons (by omega)] at this)

/-- a step more, if it is another one -/
def putD (l : List StepD) (s : StepD) : List StepD := if 0 < l.length ∧ lastV 0 l = s.fr then l else l ++ [s]
theorem lastV_any {l : List StepD} (h : l ≠ []) (d d' : Int) : lastV d l = lastV d' l := by cases l with
  | nil => exact absurd rfl h
  | cons s l => rfl
theorem lastV_get : ∀ {l : List StepD} {u : StepD} (d : Int), l[l.length - 1]? = some u → lastV d l = u.fr
  | [], u, _, h => by simp at h
  | [s], u, _, h => by simp at h; subst h; rfl
  | s :: r :: l, u, d, h => by
    have := lastV_get (l := r :: l) (u := u) s.fr (by simpa using h)
    exact this
theorem norm_snoc : ∀ {l : List StepD} {lo d : Int} {s : StepD}, Norm lo d l → lastA lo l < s.at_ → lastV d l ≠ s.fr → Norm lo d (l ++ [s])
  | [], _, _, s, _, h1, h2 => ⟨h1, fun e => h2 e.symm, trivial⟩
  | a :: l, _, _, s, ⟨k1, k2, k3⟩, h1, h2 => ⟨k1, k2, norm_snoc k3 h1 h2⟩
theorem lastA_low : ∀ {l : List StepD} {lo : Int}, Rise lo l → lo ≤ lastA lo l
  | [], _, _ => Int.le_refl _
  | a :: l, lo, ⟨h1, h2⟩ => by have := lastA_low h2; show lo ≤ lastA a.at_ l; omega
theorem val_snoc : ∀ {l : List StepD} {lo d t : Int} {s : StepD}, Rise lo l → lastA lo l < s.at_ → valF d (l ++ [s]) t = if s.at_ ≤ t then s.fr else valF d l t
  | [], _, _, _, s, _, _ => rfl
  | a :: l, lo, d, t, s, ⟨h1, h2⟩, h => by
    have hl := lastA_low h2
    have h' : lastA a.at_ l < s.at_ := h
    rw [List.cons_append]
    by_cases ht : a.at_ ≤ t
    · rw [val_cons ht, val_cons ht, val_snoc h2 h']
    · rw [val_ahead (by omega), val_ahead (by omega), if_neg (by omega)]
theorem val_end : ∀ {l : List StepD} {lo d t : Int}, Rise lo l → lastA lo l ≤ t → valF d l t = lastV d l
  | [], _, _, _, _, _ => rfl
  | a :: l, lo, d, t, ⟨h1, h2⟩, h => by
    have hl := lastA_low h2
    have h' : lastA a.at_ l ≤ t := h
    rw [val_cons (by omega), val_end h2 h']; rfl
theorem lastA_snoc : ∀ (l : List StepD) (lo : Int) (s : StepD), lastA lo (l ++ [s]) = s.at_
  | [], _, _ => rfl
  | a :: l, _, s => lastA_snoc l a.at_ s
theorem lastV_snoc : ∀ (l : List StepD) (d : Int) (s : StepD), lastV d (l ++ [s]) = s.fr
  | [], _, _ => rfl
  | a :: l, _, s => lastV_snoc l a.fr s
theorem put_ne (l : List StepD) (s : StepD) : putD l s ≠ [] := by
  unfold putD
  by_cases h : 0 < l.length ∧ lastV 0 l = s.fr
  · rw [if_pos h]; intro e; rw [e] at h; simp at h
  · rw [if_neg h]; simp
theorem put_len (l : List StepD) (s : StepD) : (putD l s).length ≤ l.length + 1 := by
  unfold putD
  by_cases h : 0 < l.length ∧ lastV 0 l = s.fr
  · rw [if_pos h]; omega
  · rw [if_neg h]; simp
theorem put_mem {l : List StepD} {s x : StepD} (h : x ∈ putD l s) : x ∈ l ∨ x = s := by
  unfold putD at h
  by_cases k : 0 < l.length ∧ lastV 0 l = s.fr
  · rw [if_pos k] at h; exact Or.inl h
  · rw [if_neg k] at h; simpa using h
theorem put_lastV (l : List StepD) (s : StepD) (d : Int) : lastV d (putD l s) = s.fr := by
  unfold putD
  by_cases h : 0 < l.length ∧ lastV 0 l = s.fr
  · rw [if_pos h, lastV_any (by intro e; rw [e] at h; simp at h) d 0]; exact h.2
  · rw [if_neg h, lastV_snoc]
theorem put_lastA {l : List StepD} {s : StepD} {lo : Int} (h : lastA lo l < s.at_) : lastA lo (putD l s) ≤ s.at_ := by
  unfold putD
  by_cases k : 0 < l.length ∧ lastV 0 l = s.fr
  · rw [if_pos k]; omega
  · rw [if_neg k, lastA_snoc]; exact Int.le_refl _
theorem put_norm {l : List StepD} {s : StepD} {lo d : Int} (h : Norm lo d l) (h1 : lastA lo l < s.at_) (h2 : s.fr ≠ d) : Norm lo d (putD l s) := by
  unfold putD
  by_cases k : 0 < l.length ∧ lastV 0 l = s.fr
  · rw [if_pos k]; exact h
  · rw [if_neg k]
    refine norm_snoc h h1 fun e => ?_
    by_cases hl : l = []
    · subst hl; exact h2 e.symm
    · exact k ⟨List.length_pos_iff.2 hl, by rw [lastV_any hl 0 d]; exact e⟩
theorem put_val {l : List StepD} {s : StepD} {lo d t : Int} (h : Rise lo l) (h1 : lastA lo l < s.at_) : valF d (putD l s) t = if s.at_ ≤ t then s.fr else valF d l t := by
  unfold putD
  by_cases k : 0 < l.length ∧ lastV 0 l = s.fr
  · rw [if_pos k]
    by_cases ht : s.at_ ≤ t
    · rw [if_pos ht, val_end h (by omega), lastV_any (by intro e; rw [e] at k; simp at k) d 0]; exact k.2
    · rw [if_neg ht]
  · rw [if_neg k]; exact val_snoc h h1

/-- two added up, time by time -/
def togD : Nat → Int → Int → List StepD → List StepD → List StepD → List StepD
  | 0, _, _, _, _, out => out
  | g + 1, x, y, l, m, out => match l, m with
    | [], [] => out
    | a :: l, [] => togD g a.fr y l [] (putD out ⟨a.at_, a.fr + y⟩)
    | [], b :: m => togD g x b.fr [] m (putD out ⟨b.at_, x + b.fr⟩)
    | a :: l, b :: m => if a.at_ < b.at_ then togD g a.fr y l (b :: m) (putD out ⟨a.at_, a.fr + y⟩) else if b.at_ < a.at_ then togD g x b.fr (a :: l) m (putD out ⟨b.at_, x + b.fr⟩) else togD g a.fr b.fr l m (putD out ⟨a.at_, a.fr + b.fr⟩)
/-- what comes of it -/
structure TogR (out l m : List StepD) (x y τ : Int) (R : List StepD) : Prop where
  norm : Norm (-1) DD R
  low : ∀ t, t ≤ τ → valF DD R t = valF DD out t
  val : ∀ t, τ < t → valF DD R t = valF x l t + valF y m t
  len : R.length ≤ out.length + l.length + m.length
  mem : ∀ s ∈ R, s ∈ out ∨ (∃ a ∈ l, a.at_ = s.at_) ∨ (∃ b ∈ m, b.at_ = s.at_)
structure TogI (out l m : List StepD) (x y τ : Int) : Prop where
  norm : Norm (-1) DD out
  last : lastA (-1) out ≤ τ
  low : -1 ≤ τ
  rl : Rise τ l
  rm : Rise τ m
  one : out ≠ [] → lastV DD out = x + y
  none : out = [] → (∃ a l', l = a :: l' ∧ a.at_ = τ + 1) ∨ (∃ b m', m = b :: m' ∧ b.at_ = τ + 1)
  bl : ∀ s ∈ l, -10000 ≤ s.fr ∧ s.fr ≤ 10000
  bm : ∀ s ∈ m, -10000 ≤ s.fr ∧ s.fr ≤ 10000
  bx : -10000 ≤ x ∧ x ≤ 10000
  by_ : -10000 ≤ y ∧ y ≤ 10000
theorem tog_step {out l m l' m' R : List StepD} {x y x' y' u τ : Int} (H : TogI out l m x y τ) (hu : τ < u)
    (hn1 : ∀ t, τ < t → t < u → valF x l t = x ∧ valF y m t = y) (hn2 : ∀ t, u ≤ t → valF x l t = valF x' l' t ∧ valF y m t = valF y' m' t)
    (hone : out = [] → u = τ + 1) (hrl : Rise u l') (hrm : Rise u m') (hx : -10000 ≤ x' ∧ x' ≤ 10000) (hy : -10000 ≤ y' ∧ y' ≤ 10000)
    (hsl : ∀ s ∈ l', s ∈ l) (hsm : ∀ s ∈ m', s ∈ m) (hlen : l'.length + m'.length + 1 ≤ l.length + m.length) (hat : (∃ a ∈ l, a.at_ = u) ∨ (∃ b ∈ m, b.at_ = u))
    (ih : TogI (putD out ⟨u, x' + y'⟩) l' m' x' y' u → TogR (putD out ⟨u, x' + y'⟩) l' m' x' y' u R) : TogR out l m x y τ R := by
  have hlt : lastA (-1) out < (StepD.mk u (x' + y')).at_ := by have := H.last; show _ < u; omega
  have hI := ih ⟨put_norm H.norm hlt (by show x' + y' ≠ DD; unfold DD; omega), put_lastA hlt, by have := H.low; omega, hrl, hrm, fun _ => put_lastV _ _ _, fun e => absurd e (put_ne _ _), fun s hs => H.bl s (hsl s hs), fun s hs => H.bm s (hsm s hs), hx, hy⟩
  refine ⟨hI.norm, fun t ht => ?_, fun t ht => ?_, ?_, fun s hs => ?_⟩
  · rw [hI.low t (by omega), put_val H.norm.rise hlt, if_neg (by show ¬ u ≤ t; omega)]
  · rcases Int.lt_or_le t u with q | q
    · rw [hI.low t (by omega), put_val H.norm.rise hlt, if_neg (by show ¬ u ≤ t; omega)]
      obtain ⟨e1, e2⟩ := hn1 t ht q
      rw [e1, e2]
      by_cases ho : out = []
      · have := hone ho; omega
      · rw [val_end H.norm.rise (by have := H.last; omega), H.one ho]
    · obtain ⟨e1, e2⟩ := hn2 t q
      rw [e1, e2]
      rcases Int.lt_or_eq_of_le q with q | q
      · exact hI.val t q
      · subst q
        rw [hI.low u (Int.le_refl _), put_val H.norm.rise hlt, if_pos (Int.le_refl _), val_low hrl (Int.le_refl _), val_low hrm (Int.le_refl _)]
  · have h1 := hI.len
    have h2 := put_len out ⟨u, x' + y'⟩
    omega
  · rcases hI.mem s hs with h | ⟨a, ha, e⟩ | ⟨b, hb, e⟩
    · rcases put_mem h with h | h
      · exact Or.inl h
      · subst h; exact Or.inr hat
    · exact Or.inr (Or.inl ⟨a, hsl a ha, e⟩)
    · exact Or.inr (Or.inr ⟨b, hsm b hb, e⟩)
theorem tog_val : ∀ (g : Nat) (x y : Int) (l m out : List StepD) (τ : Int), l.length + m.length ≤ g → TogI out l m x y τ → TogR out l m x y τ (togD g x y l m out)
  | g, x, y, [], [], out, τ, hg, H => by
    have e : togD g x y [] [] out = out := by cases g <;> rfl
    rw [e]
    refine ⟨H.norm, fun _ _ => rfl, fun t ht => ?_, by simp, fun s hs => Or.inl hs⟩
    by_cases ho : out = []
    · rcases H.none ho with ⟨a, l', h, _⟩ | ⟨a, l', h, _⟩ <;> cases h
    · rw [val_end H.norm.rise (by have := H.last; omega), H.one ho]; rfl
  | 0, x, y, a :: l, m, out, τ, hg, H => by simp at hg
  | 0, x, y, [], b :: m, out, τ, hg, H => by simp at hg
  | g + 1, x, y, a :: l, [], out, τ, hg, H => by
    obtain ⟨h1, h2⟩ := H.rl
    refine tog_step (u := a.at_) (x' := a.fr) (y' := y) (l' := l) (m' := []) H h1 (fun t q1 q2 => ⟨val_ahead q2, rfl⟩) (fun t q => ⟨val_cons q, rfl⟩) (fun ho => ?_) h2 trivial (H.bl a (by simp)) H.by_ (fun s hs => by simp [hs]) (fun s hs => hs) (by simp) (Or.inl ⟨a, by simp, rfl⟩) (fun hI => tog_val g _ _ _ _ _ _ (by simp at hg ⊢; omega) hI)
    rcases H.none ho with ⟨c, l', h, e⟩ | ⟨c, l', h, _⟩
    · cases h; exact e
    · cases h
  | g + 1, x, y, [], b :: m, out, τ, hg, H => by
    obtain ⟨h1, h2⟩ := H.rm
    refine tog_step (u := b.at_) (x' := x) (y' := b.fr) (l' := []) (m' := m) H h1 (fun t q1 q2 => ⟨rfl, val_ahead q2⟩) (fun t q => ⟨rfl, val_cons q⟩) (fun ho => ?_) trivial h2 H.bx (H.bm b (by simp)) (fun s hs => hs) (fun s hs => by simp [hs]) (by simp) (Or.inr ⟨b, by simp, rfl⟩) (fun hI => tog_val g _ _ _ _ _ _ (by simp at hg ⊢; omega) hI)
    rcases H.none ho with ⟨c, l', h, _⟩ | ⟨c, l', h, e⟩
    · cases h
    · cases h; exact e
  | g + 1, x, y, a :: l, b :: m, out, τ, hg, H => by
    obtain ⟨h1, h2⟩ := H.rl
    obtain ⟨k1, k2⟩ := H.rm
    have hno : out = [] → a.at_ = τ + 1 ∨ b.at_ = τ + 1 := fun ho => by
      rcases H.none ho with ⟨c, l', h, e⟩ | ⟨c, l', h, e⟩
      · cases h; exact Or.inl e
      · cases h; exact Or.inr e
    show TogR _ _ _ _ _ _ (if a.at_ < b.at_ then togD g a.fr y l (b :: m) (putD out ⟨a.at_, a.fr + y⟩) else if b.at_ < a.at_ then togD g x b.fr (a :: l) m (putD out ⟨b.at_, x + b.fr⟩) else togD g a.fr b.fr l m (putD out ⟨a.at_, a.fr + b.fr⟩))
    by_cases c1 : a.at_ < b.at_
    · rw [if_pos c1]
      refine tog_step (u := a.at_) (x' := a.fr) (y' := y) (l' := l) (m' := b :: m) H h1 (fun t q1 q2 => ⟨val_ahead q2, val_ahead (by omega)⟩) (fun t q => ⟨val_cons q, rfl⟩) (fun ho => ?_) h2 ⟨c1, k2⟩ (H.bl a (by simp)) H.by_ (fun s hs => by simp [hs]) (fun s hs => hs) (by simp; omega) (Or.inl ⟨a, by simp, rfl⟩) (fun hI => tog_val g _ _ _ _ _ _ (by simp at hg ⊢; omega) hI)
      rcases hno ho with e | e <;> omega
    · rw [if_neg c1]
      by_cases c2 : b.at_ < a.at_
      · rw [if_pos c2]
        refine tog_step (u := b.at_) (x' := x) (y' := b.fr) (l' := a :: l) (m' := m) H k1 (fun t q1 q2 => ⟨val_ahead (by omega), val_ahead q2⟩) (fun t q => ⟨rfl, val_cons q⟩) (fun ho => ?_) ⟨c2, h2⟩ k2 H.bx (H.bm b (by simp)) (fun s hs => hs) (fun s hs => by simp [hs]) (by simp; omega) (Or.inr ⟨b, by simp, rfl⟩) (fun hI => tog_val g _ _ _ _ _ _ (by simp at hg ⊢; omega) hI)
        rcases hno ho with e | e <;> omega
      · rw [if_neg c2]
        have e : a.at_ = b.at_ := by omega
        refine tog_step (u := a.at_) (x' := a.fr) (y' := b.fr) (l' := l) (m' := m) H h1 (fun t q1 q2 => ⟨val_ahead q2, val_ahead (by omega)⟩) (fun t q => ⟨val_cons q, val_cons (by omega)⟩) (fun ho => ?_) h2 (by rw [e]; exact k2) (H.bl a (by simp)) (H.bm b (by simp)) (fun s hs => by simp [hs]) (fun s hs => by simp [hs]) (by simp; omega) (Or.inl ⟨a, by simp, rfl⟩) (fun hI => tog_val g _ _ _ _ _ _ (by simp at hg ⊢; omega) hI)
        rcases hno ho with e | e <;> omega
end Go.Proofs.YtaiolhanbjndcaaDoor
namespace Go.Proofs.YtaiolhanbjndcaaDoor
/-! a profile -/
def chkF : Int → Int → List StepD → Bool
  | _, _, [] => true
  | lo, d, s :: l => Clk.isT s.at_ && (nodeOK s.fr && (decide (lo < s.at_) && (decide (s.fr ≠ d) && chkF s.at_ s.fr l)))
def zeroF : List StepD → Bool
  | [] => false
  | s :: _ => decide (s.at_ = 0)
def chkD (l : List StepD) : Bool := decide (l.length ≤ 20000) && (zeroF l && chkF (-1) DD l)
def chkE (l : List StepD) : Int := if chkD l = true then 0 else 2
structure Prof (l : List StepD) : Prop where
  len : l.length ≤ 20000
  zero : ∃ s r, l = s :: r ∧ s.at_ = 0
  norm : Norm (-1) DD l
  ok : ∀ s ∈ l, (0 ≤ s.at_ ∧ s.at_ ≤ 1099511627775) ∧ 0 ≤ s.fr ∧ s.fr ≤ 10000
theorem chkF_norm : ∀ {l : List StepD} {lo d : Int}, chkF lo d l = true → Norm lo d l ∧ ∀ s ∈ l, (0 ≤ s.at_ ∧ s.at_ ≤ 1099511627775) ∧ 0 ≤ s.fr ∧ s.fr ≤ 10000
  | [], _, _, _ => ⟨trivial, fun s h => by cases h⟩
  | s :: l, lo, d, h => by
    simp only [chkF, Bool.and_eq_true, decide_eq_true_eq] at h
    obtain ⟨h1, h2, h3, h4, h5⟩ := h
    obtain ⟨k1, k2⟩ := chkF_norm h5
    refine ⟨⟨h3, h4, k1⟩, fun u hu => ?_⟩
    rcases List.mem_cons.1 hu with rfl | hu
    · exact ⟨Clk.isT_bd h1, nodeOK_iff.1 h2⟩
    · exact k2 u hu
theorem norm_chkF : ∀ {l : List StepD} {lo d : Int}, Norm lo d l → (∀ s ∈ l, (0 ≤ s.at_ ∧ s.at_ ≤ 1099511627775) ∧ 0 ≤ s.fr ∧ s.fr ≤ 10000) → chkF lo d l = true
  | [], _, _, _, _ => rfl
  | s :: l, lo, d, ⟨h1, h2, h3⟩, h => by
    have hs := h s (by simp)
    simp only [chkF, Bool.and_eq_true, decide_eq_true_eq]
    exact ⟨Clk.isT_yes hs.1.1 hs.1.2, nodeOK_iff.2 hs.2, h1, h2, norm_chkF h3 fun u hu => h u (by simp [hu])⟩
theorem chkD_prof {l : List StepD} : chkD l = true ↔ Prof l := by
  unfold chkD
  simp only [Bool.and_eq_true, decide_eq_true_eq]
  constructor
  · rintro ⟨h1, h2, h3⟩
    obtain ⟨k1, k2⟩ := chkF_norm h3
    cases l with
    | nil => cases h2
    | cons s r => exact ⟨h1, ⟨s, r, rfl, by simpa [zeroF] using h2⟩, k1, k2⟩
  · rintro ⟨h1, ⟨s, r, rfl, h2⟩, h3, h4⟩
    exact ⟨h1, by simpa [zeroF] using h2, norm_chkF h3 h4⟩
end Go.Proofs.YtaiolhanbjndcaaDoor
namespace Go.Proofs.YtaiolhanbjndcaaDoor.Srt
set_option linter.unusedVariables false

/-- the key at a place -/
def atK (X : List StepD) (i : Nat) : Int := ((X[i]?).map (·.at_)).getD 0
theorem atK_of {X : List StepD} {i : Nat} {s : StepD} (h : X[i]? = some s) : atK X i = s.at_ := by simp [atK, h]
theorem atK_eq {X Y : List StepD} {i j : Nat} (h : Y[i]? = X[j]?) : atK Y i = atK X j := by simp [atK, h]
def SrtOn (X : List StepD) (a b : Nat) : Prop := ∀ i j, a ≤ i → i < j → j < b → atK X i ≤ atK X j
def Fq (X Y : List StepD) : Prop := ∀ t : Int, Y.filter (fun s => decide (s.at_ = t)) = X.filter (fun s => decide (s.at_ = t))
/-- Y is X, its places moved by f -/
def Via (f : Nat → Nat) (X Y : List StepD) : Prop := Y.length = X.length ∧ ∀ k, k < X.length → Y[k]? = X[f k]?
/-- [a,m) and [m,b) exchanged -/
def rotI (a m b k : Nat) : Nat := if k < a then k else if k < a + (b - m) then m + (k - a) else if k < b then a + (k - (a + (b - m))) else k
/-- n places at a exchanged with n at b -/
def swI (a b n k : Nat) : Nat := if a ≤ k ∧ k < a + n then b + (k - a) else if b ≤ k ∧ k < b + n then a + (k - b) else k
theorem Via.refl (X : List StepD) : Via (fun k => k) X X := ⟨rfl, fun _ _ => rfl⟩
theorem Via.congr {f g : Nat → Nat} {X Y : List StepD} (h : Via f X Y) (e : ∀ k, k < X.length → f k = g k) : Via g X Y := ⟨h.1, fun k hk => by rw [h.2 k hk, e k hk]⟩
theorem Via.trans {f g : Nat → Nat} {X Y Z : List StepD} (h : Via f X Y) (k : Via g Y Z) (hb : ∀ i, i < X.length → g i < X.length) : Via (fun i => f (g i)) X Z :=
  ⟨k.1.trans h.1, fun i hi => by rw [k.2 i (by rw [h.1]; exact hi), h.2 _ (hb i hi)]⟩
theorem Via.key {f : Nat → Nat} {X Y : List StepD} (h : Via f X Y) {k : Nat} (hk : k < X.length) : atK Y k = atK X (f k) := atK_eq (h.2 k hk)

structure Mix (a b : Nat) (X Y : List StepD) : Prop where
  len : Y.length = X.length
  out : ∀ k, k < a ∨ b ≤ k → Y[k]? = X[k]?
  inn : ∀ k, a ≤ k → k < b → ∃ k', a ≤ k' ∧ k' < b ∧ Y[k]? = X[k']?
  fq : Fq X Y
theorem Mix.refl (a b : Nat) (X : List StepD) : Mix a b X X := ⟨rfl, fun _ _ => rfl, fun k h1 h2 => ⟨k, h1, h2, rfl⟩, fun _ => rfl⟩
theorem Mix.trans {a b : Nat} {X Y Z : List StepD} (h : Mix a b X Y) (k : Mix a b Y Z) : Mix a b X Z := by
  refine ⟨k.len.trans h.len, fun i hi => (k.out i hi).trans (h.out i hi), fun i h1 h2 => ?_, fun t => (k.fq t).trans (h.fq t)⟩
  obtain ⟨i1, p1, p2, e1⟩ := k.inn i h1 h2
  obtain ⟨i2, q1, q2, e2⟩ := h.inn i1 p1 p2
  exact ⟨i2, q1, q2, e1.trans e2⟩
theorem Mix.wide {a b a' b' : Nat} {X Y : List StepD} (h : Mix a b X Y) (ha : a' ≤ a) (hb : b ≤ b') : Mix a' b' X Y := by
  refine ⟨h.len, fun i hi => h.out i (by omega), fun i h1 h2 => ?_, h.fq⟩
  by_cases q : a ≤ i ∧ i < b
  · obtain ⟨i1, p1, p2, e⟩ := h.inn i q.1 q.2
    exact ⟨i1, by omega, by omega, e⟩
  · exact ⟨i, h1, h2, h.out i (by omega)⟩
theorem Mix.keyO {a b : Nat} {X Y : List StepD} (h : Mix a b X Y) {k : Nat} (hk : k < a ∨ b ≤ k) : atK Y k = atK X k := atK_eq (h.out k hk)
theorem Mix.keyI {a b : Nat} {X Y : List StepD} (h : Mix a b X Y) {k : Nat} (h1 : a ≤ k) (h2 : k < b) : ∃ k', a ≤ k' ∧ k' < b ∧ atK Y k = atK X k' := by
  obtain ⟨k', p1, p2, e⟩ := h.inn k h1 h2
  exact ⟨k', p1, p2, atK_eq e⟩

theorem split4 {α : Type} (X : List α) (a m b : Nat) (h1 : a ≤ m) (h2 : m ≤ b) : X = X.take a ++ ((X.drop a).take (m - a) ++ ((X.drop m).take (b - m) ++ X.drop b)) := by
  have e1 : (X.drop m).take (b - m) ++ X.drop b = X.drop m := by
    have := List.take_append_drop (b - m) (X.drop m)
    rwa [List.drop_drop, show m + (b - m) = b from by omega] at this
  have e2 : (X.drop a).take (m - a) ++ X.drop m = X.drop a := by
    have := List.take_append_drop (m - a) (X.drop a)
    rwa [List.drop_drop, show a + (m - a) = m from by omega] at this
  rw [e1, e2, List.take_append_drop]
theorem key_part {X : List StepD} {a n : Nat} {s : StepD} (h : s ∈ (X.drop a).take n) : ∃ i, a ≤ i ∧ i < a + n ∧ X[i]? = some s := by
  obtain ⟨j, hj⟩ := List.mem_iff_getElem?.1 h
  rw [List.getElem?_take] at hj
  split at hj
  · rw [List.getElem?_drop] at hj
    exact ⟨a + j, by omega, by omega, hj⟩
  · cases hj
/-- the exchange keeps the order of those of one key, if no key is on both sides -/
theorem rot_mix {X Y : List StepD} {a m b : Nat} (h : Via (rotI a m b) X Y) (h1 : a ≤ m) (h2 : m ≤ b) (h3 : b ≤ X.length)
    (hs : ∀ i j, a ≤ i → i < m → m ≤ j → j < b → atK X j < atK X i) : Mix a b X Y := by
  have hY : Y = X.take a ++ ((X.drop m).take (b - m) ++ ((X.drop a).take (m - a) ++ X.drop b)) := by
    apply List.ext_getElem?
    intro k
    by_cases hk : k < X.length
    · rw [h.2 k hk]
      unfold rotI
      by_cases q1 : k < a
      · rw [if_pos q1, List.getElem?_append_left (by rw [List.length_take]; omega), List.getElem?_take, if_pos q1]
      · rw [if_neg q1, List.getElem?_append_right (by rw [List.length_take]; omega), List.length_take, Nat.min_eq_left (by omega)]
        by_cases q2 : k < a + (b - m)
        · rw [if_pos q2, List.getElem?_append_left (by rw [List.length_take, List.length_drop]; omega), List.getElem?_take, if_pos (by omega), List.getElem?_drop]
        · rw [if_neg q2, List.getElem?_append_right (by rw [List.length_take, List.length_drop]; omega), List.length_take, List.length_drop, Nat.min_eq_left (by omega)]
          by_cases q3 : k < b
          · rw [if_pos q3, List.getElem?_append_left (by rw [List.length_take, List.length_drop]; omega), List.getElem?_take, if_pos (by omega), List.getElem?_drop]
            congr 1; omega
          · rw [if_neg q3, List.getElem?_append_right (by rw [List.length_take, List.length_drop]; omega), List.length_take, List.length_drop, Nat.min_eq_left (by omega), List.getElem?_drop]
            congr 1; omega
    · rw [List.getElem?_eq_none (by rw [h.1]; omega), List.getElem?_eq_none]
      simp only [List.length_append, List.length_take, List.length_drop]
      omega
  refine ⟨h.1, fun k hk => ?_, fun k k1 k2 => ?_, fun t => ?_⟩
  · by_cases hl : k < X.length
    · rw [h.2 k hl]; unfold rotI
      rcases hk with q | q
      · rw [if_pos q]
      · rw [if_neg (by omega), if_neg (by omega), if_neg (by omega)]
    · rw [List.getElem?_eq_none (by rw [h.1]; omega), List.getElem?_eq_none (by omega)]
  · refine ⟨rotI a m b k, ?_, ?_, h.2 k (by omega)⟩ <;>
    · unfold rotI
      repeat' split
      all_goals omega
  · have e := split4 X a m b h1 h2
    generalize hU : (X.drop a).take (m - a) = U at e hY
    generalize hV : (X.drop m).take (b - m) = V at e hY
    have hc : U.filter (fun s => decide (s.at_ = t)) = [] ∨ V.filter (fun s => decide (s.at_ = t)) = [] := by
      by_cases q : U.filter (fun s => decide (s.at_ = t)) = []
      · exact Or.inl q
      · right
        obtain ⟨s, hs1⟩ := List.exists_mem_of_ne_nil _ q
        rw [List.mem_filter, decide_eq_true_eq] at hs1
        rw [← hU] at hs1
        obtain ⟨i, i1, i2, ei⟩ := key_part hs1.1
        rw [List.filter_eq_nil_iff]
        intro u hu
        rw [← hV] at hu
        obtain ⟨j, j1, j2, ej⟩ := key_part hu
        have := hs i j i1 (by omega) j1 (by omega)
        rw [atK_of ei, atK_of ej, hs1.2] at this
        rw [decide_eq_true_eq]; omega
    rw [hY]
    conv => rhs; rw [e]
    simp only [List.filter_append]
    rcases hc with q | q <;> rw [q] <;> simp
/-! the steps of a rotation -/
theorem rot_low {a m i j k : Nat} (h : j < i) (hi : i ≤ m) : swI (m - i) m j (rotI (m - (i - j)) m (m + j) k) = rotI (m - i) m (m + j) k := by
  unfold rotI swI
  repeat' split
  all_goals omega
theorem rot_high {m i j k : Nat} (h : i < j) (hi : i ≤ m) : swI (m - i) (m + j - i) i (rotI (m - i) m (m + (j - i)) k) = rotI (m - i) m (m + j) k := by
  unfold rotI swI
  repeat' split
  all_goals omega
theorem rot_last {m i k : Nat} (hi : i ≤ m) : swI (m - i) m i k = rotI (m - i) m (m + i) k := by
  unfold rotI swI
  repeat' split
  all_goals omega
theorem rot_lt {a m b k n : Nat} (h1 : a ≤ m) (h2 : m ≤ b) (hb : b ≤ n) (hk : k < n) : rotI a m b k < n := by
  unfold rotI
  repeat' split
  all_goals omega
theorem sw_lt {a b c k n : Nat} (ha : a + c ≤ n) (hb : b + c ≤ n) (hk : k < n) : swI a b c k < n := by
  unfold swI
  repeat' split
  all_goals omega
/-- one place more of an exchange of two ranges -/
theorem sw_next {a b i k : Nat} (h : a + i < b ∨ b + i < a) : swI a b i (swI (a + i) (b + i) 1 k) = swI a b (i + 1) k := by
  unfold swI
  repeat' split
  all_goals omega
/-- one carried a place up -/
theorem up_next {a q k : Nat} (h : a ≤ q) : rotI a (a + 1) (q + 1) (swI q (q + 1) 1 k) = rotI a (a + 1) (q + 1 + 1) k := by
  unfold rotI swI
  repeat' split
  all_goals omega
/-- one carried a place down -/
theorem dn_next {m q k : Nat} (h : q + 1 ≤ m) : rotI (q + 1) m (m + 1) (swI (q + 1) q 1 k) = rotI q m (m + 1) k := by
  unfold rotI swI
  repeat' split
  all_goals omega
theorem sw_rot {q k : Nat} : swI (q + 1) q 1 k = rotI q (q + 1) (q + 2) k := by
  unfold rotI swI
  repeat' split
  all_goals omega
end Go.Proofs.YtaiolhanbjndcaaDoor.Srt
namespace Go.Proofs.YtaiolhanbjndcaaDoor.Srt
set_option linter.unusedVariables false
/-- in order but for the one at j, which is ahead of none behind it -/
structure SrtBut (X : List StepD) (a i j : Nat) : Prop where
  but : ∀ p q, a ≤ p → p < q → q ≤ i → p ≠ j → q ≠ j → atK X p ≤ atK X q
  up : ∀ q, j < q → q ≤ i → atK X j ≤ atK X q
theorem SrtOn.but {X : List StepD} {a i : Nat} (h : SrtOn X a i) : SrtBut X a i i :=
  ⟨fun p q h1 h2 h3 _ h5 => h p q h1 h2 (by omega), fun q h1 h2 => by omega⟩
theorem SrtBut.stop {X : List StepD} {a i j : Nat} (h : SrtBut X a i j) (hs : j = a ∨ (a < j ∧ atK X (j - 1) ≤ atK X j)) : SrtOn X a (i + 1) := by
  intro p q h1 h2 h3
  by_cases e1 : p = j
  · subst e1; exact h.up q h2 (by omega)
  · by_cases e2 : q = j
    · subst e2
      rcases hs with e | ⟨hs1, hs⟩
      · omega
      · by_cases e3 : p = q - 1
        · rw [e3]; exact hs
        · exact Int.le_trans (h.but p (q - 1) h1 (by omega) (by omega) e1 (by omega)) hs
    · exact h.but p q h1 h2 (by omega) e1 e2
theorem SrtBut.step {X Y : List StepD} {a i q : Nat} (h : SrtBut X a i (q + 1)) (hq : a ≤ q) (hi : q + 1 ≤ i) (hX : i < X.length) (hY : Via (swI (q + 1) q 1) X Y) (hk : atK X (q + 1) < atK X q) : SrtBut Y a i q := by
  have k0 : ∀ k, k < X.length → k ≠ q → k ≠ q + 1 → atK Y k = atK X k := fun k h1 h2 h3 => by
    rw [hY.key h1]; unfold swI; rw [if_neg (by omega), if_neg (by omega)]
  have k1 : atK Y q = atK X (q + 1) := by
    rw [hY.key (by omega)]; unfold swI; rw [if_neg (by omega), if_pos (by omega)]; congr 1; omega
  have k2 : atK Y (q + 1) = atK X q := by
    rw [hY.key (by omega)]; unfold swI; rw [if_pos (by omega)]; congr 1; omega
  refine ⟨fun p r h1 h2 h3 h4 h5 => ?_, fun r h1 h2 => ?_⟩
  · by_cases e1 : p = q + 1
    · subst e1
      rw [k2, k0 r (by omega) (by omega) (by omega)]
      exact h.but q r hq (by omega) h3 (by omega) (by omega)
    · by_cases e2 : r = q + 1
      · subst e2
        rw [k2, k0 p (by omega) h4 e1]
        exact h.but p q h1 (by omega) (by omega) e1 (by omega)
      · rw [k0 p (by omega) h4 e1, k0 r (by omega) h5 e2]
        exact h.but p r h1 h2 h3 e1 e2
  · rw [k1]
    by_cases e2 : r = q + 1
    · rw [e2, k2]; omega
    · rw [k0 r (by omega) (by omega) e2]
      exact h.up r (by omega) h2
theorem Mix.step {X Y : List StepD} {a b q : Nat} (hq : a ≤ q) (hb : q + 2 ≤ b) (hX : b ≤ X.length) (hY : Via (swI (q + 1) q 1) X Y) (hk : atK X (q + 1) < atK X q) : Mix a b X Y :=
  (rot_mix (hY.congr fun k _ => sw_rot) (by omega) (by omega) (by omega) fun i j h1 h2 h3 h4 => by
    obtain rfl : i = q := by omega
    obtain rfl : j = i + 1 := by omega
    exact hk).wide hq hb
theorem Mix.srtOut {X Y : List StepD} {a b c d : Nat} (h : Mix a b X Y) (hs : SrtOn X c d) (hd : d ≤ a ∨ b ≤ c) : SrtOn Y c d := fun p q h1 h2 h3 => by
  rw [h.keyO (by omega), h.keyO (by omega)]; exact hs p q h1 h2 h3
theorem SrtOn.le {X : List StepD} {a b i j : Nat} (h : SrtOn X a b) (h1 : a ≤ i) (h2 : i ≤ j) (h3 : j < b) : atK X i ≤ atK X j := by
  by_cases e : i = j
  · rw [e]; exact Int.le_refl _
  · exact h i j h1 (by omega) h3
theorem rot_id {X : List StepD} {a m b : Nat} (h : a = m ∨ m = b) (h1 : a ≤ m) (h2 : m ≤ b) : Via (rotI a m b) X X := (Via.refl X).congr fun k _ => by
  unfold rotI
  repeat' split
  all_goals omega
/-- where the runs [a,m) and [m,b) are cut: st and en -/
structure Cut (X : List StepD) (a m b st en mid : Nat) : Prop where
  le1 : a ≤ st
  le2 : st ≤ m
  le3 : m ≤ en
  le4 : en ≤ b
  le5 : st ≤ mid
  le6 : mid ≤ en
  sum : st + en = mid + m
  low : st = a ∨ en = b ∨ atK X (st - 1) ≤ atK X en
  high : st = m ∨ en = m ∨ atK X (en - 1) < atK X st
structure Cut2 (X : List StepD) (a m b st en mid : Nat) (Y : List StepD) : Prop where
  mix : Mix a b X Y
  s1 : SrtOn Y a st
  s2 : SrtOn Y st mid
  s3 : SrtOn Y mid en
  s4 : SrtOn Y en b
  low : ∀ i j, a ≤ i → i < mid → mid ≤ j → j < b → atK Y i ≤ atK Y j
theorem Cut.rot {X Y : List StepD} {a m b st en mid : Nat} (h : Cut X a m b st en mid) (hX : b ≤ X.length) (sa : SrtOn X a m) (sb : SrtOn X m b) (hY : Via (rotI st m en) X Y) : Cut2 X a m b st en mid Y := by
  obtain ⟨l1, l2, l3, l4, l5, l6, hs, hL, hR⟩ := h
  have strict : ∀ i j, st ≤ i → i < m → m ≤ j → j < en → atK X j < atK X i := fun i j h1 h2 h3 h4 => by
    rcases hR with e | e | e
    · omega
    · omega
    · have := sa.le (i := st) (j := i) l1 h1 h2
      have := sb.le (i := j) (j := en - 1) h3 (by omega) (by omega)
      omega
  have k1 : ∀ k, k < st → atK Y k = atK X k := fun k hk => by
    rw [hY.key (by omega)]; unfold rotI; rw [if_pos hk]
  have k2 : ∀ k, st ≤ k → k < mid → atK Y k = atK X (m + (k - st)) := fun k h1 h2 => by
    rw [hY.key (by omega)]; unfold rotI; rw [if_neg (by omega), if_pos (by omega)]
  have k3 : ∀ k, mid ≤ k → k < en → atK Y k = atK X (st + (k - mid)) := fun k h1 h2 => by
    rw [hY.key (by omega)]; unfold rotI; rw [if_neg (by omega), if_neg (by omega), if_pos h2]; congr 1; omega
  have k4 : ∀ k, en ≤ k → k < b → atK Y k = atK X k := fun k h1 h2 => by
    rw [hY.key (by omega)]; unfold rotI; rw [if_neg (by omega), if_neg (by omega), if_neg (by omega)]
  refine ⟨(rot_mix hY l2 l3 (by omega) strict).wide l1 l4, fun i j h1 h2 h3 => ?_, fun i j h1 h2 h3 => ?_, fun i j h1 h2 h3 => ?_, fun i j h1 h2 h3 => ?_, fun i j h1 h2 h3 h4 => ?_⟩
  · rw [k1 i (by omega), k1 j h3]; exact sa i j h1 h2 (by omega)
  · rw [k2 i h1 (by omega), k2 j (by omega) h3]; exact sb _ _ (by omega) (by omega) (by omega)
  · rw [k3 i h1 (by omega), k3 j (by omega) h3]; exact sa _ _ (by omega) (by omega) (by omega)
  · rw [k4 i h1 (by omega), k4 j (by omega) h3]; exact sb i j (by omega) h2 h3
  · by_cases p1 : i < st
    · rw [k1 i p1]
      by_cases p2 : j < en
      · rw [k3 j h3 p2]; exact sa _ _ h1 (by omega) (by omega)
      · rw [k4 j (by omega) h4]
        rcases hL with e | e | e
        · omega
        · omega
        · exact Int.le_trans (sa.le (i := i) (j := st - 1) h1 (by omega) (by omega)) (Int.le_trans e (sb.le (i := en) (j := j) l3 (by omega) h4))
    · rw [k2 i (by omega) h2]
      by_cases p2 : j < en
      · rw [k3 j h3 p2]
        have := strict (st + (j - mid)) (m + (i - st)) (by omega) (by omega) (by omega) (by omega)
        omega
      · rw [k4 j (by omega) h4]; exact sb _ _ (by omega) (by omega) h4
/-- both sides in order, the left below the right: all in order -/
theorem Cut2.done {X Y Z : List StepD} {a m b st en mid : Nat} (h : Cut2 X a m b st en mid Y) (h1 : a ≤ mid) (h2 : mid ≤ b) {U : List StepD} (m1 : Mix a mid Y U) (m2 : Mix mid b U Z) (s1 : SrtOn U a mid) (s2 : SrtOn Z mid b) : Mix a b X Z ∧ SrtOn Z a b := by
  refine ⟨h.mix.trans ((m1.wide (Nat.le_refl _) h2).trans (m2.wide h1 (Nat.le_refl _))), fun i j p1 p2 p3 => ?_⟩
  by_cases q1 : j < mid
  · rw [m2.keyO (by omega), m2.keyO (by omega)]; exact s1 i j p1 p2 q1
  · by_cases q2 : mid ≤ i
    · exact s2 i j q2 p2 p3
    · rw [m2.keyO (k := i) (by omega)]
      obtain ⟨i', r1, r2, e1⟩ := m1.keyI (k := i) p1 (by omega)
      obtain ⟨j', r3, r4, e2⟩ := m2.keyI (k := j) (by omega) p3
      rw [e1, e2, m1.keyO (k := j') (by omega)]
      exact h.low i' j' r1 r2 r3 r4
theorem Cut2.left {X Y : List StepD} {a m b st en mid : Nat} (h : Cut2 X a m b st en mid Y) (e : st = a ∨ st = mid) : SrtOn Y a mid := by
  rcases e with rfl | rfl
  · exact h.s2
  · exact h.s1
theorem Cut2.right {X Y U : List StepD} {a m b st en mid : Nat} (h : Cut2 X a m b st en mid Y) (k : Mix a mid Y U) (e : mid = en ∨ en = b) : SrtOn U mid b := by
  rcases e with e | e
  · exact k.srtOut (by rw [e]; exact h.s4) (Or.inr (Nat.le_refl _))
  · exact k.srtOut (by rw [← e]; exact h.s3) (Or.inr (Nat.le_refl _))
/-- one put into its place among [m,b) -/
theorem one_up {X Y : List StepD} {a i b : Nat} (h1 : a + 1 ≤ i) (h2 : i ≤ b) (hX : b ≤ X.length) (sb : SrtOn X (a + 1) b) (hl : i = a + 1 ∨ atK X (i - 1) < atK X a) (hr : i = b ∨ atK X a ≤ atK X i) (hY : Via (rotI a (a + 1) i) X Y) : Mix a b X Y ∧ SrtOn Y a b := by
  have strict : ∀ p q, a ≤ p → p < a + 1 → a + 1 ≤ q → q < i → atK X q < atK X p := fun p q p1 p2 p3 p4 => by
    obtain rfl : p = a := by omega
    rcases hl with e | e
    · omega
    · exact Int.lt_of_le_of_lt (sb.le p3 (by omega) (by omega)) e
  have k1 : ∀ k, a ≤ k → k + 1 < i → atK Y k = atK X (k + 1) := fun k p1 p2 => by
    rw [hY.key (by omega)]; unfold rotI; rw [if_neg (by omega), if_pos (by omega)]; congr 1; omega
  have k2 : ∀ k, k + 1 = i → atK Y k = atK X a := fun k p1 => by
    rw [hY.key (by omega)]; unfold rotI; rw [if_neg (by omega), if_neg (by omega), if_pos (by omega)]; congr 1; omega
  have k3 : ∀ k, i ≤ k → k < b → atK Y k = atK X k := fun k p1 p2 => by
    rw [hY.key (by omega)]; unfold rotI; rw [if_neg (by omega), if_neg (by omega), if_neg (by omega)]
  refine ⟨(rot_mix hY (by omega) h1 (by omega) strict).wide (Nat.le_refl _) h2, fun p q p1 p2 p3 => ?_⟩
  by_cases e1 : q + 1 < i
  · rw [k1 p p1 (by omega), k1 q (by omega) e1]; exact sb _ _ (by omega) (by omega) (by omega)
  · by_cases e2 : q + 1 = i
    · rw [k1 p p1 (by omega), k2 q e2]
      exact Int.le_of_lt (strict a (p + 1) (Nat.le_refl _) (by omega) (by omega) (by omega))
    · rw [k3 q (by omega) p3]
      by_cases e3 : p + 1 < i
      · rw [k1 p p1 e3]; exact sb _ _ (by omega) (by omega) p3
      · by_cases e4 : p + 1 = i
        · rw [k2 p e4]
          rcases hr with e | e
          · omega
          · exact Int.le_trans e (sb.le (by omega) (by omega) p3)
        · rw [k3 p (by omega) (by omega)]; exact sb _ _ (by omega) p2 p3
/-- one put into its place among [a,m) -/
theorem one_dn {X Y : List StepD} {a i m : Nat} (h1 : a ≤ i) (h2 : i ≤ m) (hX : m + 1 ≤ X.length) (sa : SrtOn X a m) (hl : i = a ∨ atK X (i - 1) ≤ atK X m) (hr : i = m ∨ atK X m < atK X i) (hY : Via (rotI i m (m + 1)) X Y) : Mix a (m + 1) X Y ∧ SrtOn Y a (m + 1) := by
  have strict : ∀ p q, i ≤ p → p < m → m ≤ q → q < m + 1 → atK X q < atK X p := fun p q p1 p2 p3 p4 => by
    obtain rfl : q = m := by omega
    rcases hr with e | e
    · omega
    · exact Int.lt_of_lt_of_le e (sa.le h1 p1 p2)
  have k1 : ∀ k, k < i → atK Y k = atK X k := fun k p1 => by
    rw [hY.key (by omega)]; unfold rotI; rw [if_pos p1]
  have k2 : atK Y i = atK X m := by
    rw [hY.key (by omega)]; unfold rotI; rw [if_neg (by omega), if_pos (by omega)]; congr 1; omega
  have k3 : ∀ k, i < k → k < m + 1 → atK Y k = atK X (k - 1) := fun k p1 p2 => by
    rw [hY.key (by omega)]; unfold rotI; rw [if_neg (by omega), if_neg (by omega), if_pos (by omega)]; congr 1; omega
  refine ⟨(rot_mix hY h2 (by omega) (by omega) strict).wide h1 (Nat.le_refl _), fun p q p1 p2 p3 => ?_⟩
  by_cases e1 : q < i
  · rw [k1 p (by omega), k1 q e1]; exact sa _ _ p1 p2 (by omega)
  · by_cases e2 : q = i
    · subst e2
      rw [k1 p p2, k2]
      rcases hl with e | e
      · omega
      · exact Int.le_trans (sa.le p1 (by omega) (by omega)) e
    · rw [k3 q (by omega) p3]
      by_cases e3 : p < i
      · rw [k1 p e3]; exact sa.le p1 (by omega) (by omega)
      · by_cases e4 : p = i
        · subst e4
          rw [k2]
          exact Int.le_of_lt (strict (q - 1) m (by omega) (by omega) (Nat.le_refl _) (by omega))
        · rw [k3 p (by omega) (by omega)]; exact sa _ _ (by omega) (by omega) (by omega)
/-- runs of s in order: those ahead of number q -/
def ChA (Z : List StepD) (s n q : Nat) : Prop := ∀ t, t < q → ∀ i j, s * t ≤ i → i < j → j < s * t + s → j < n → atK Z i ≤ atK Z j
/-- and those from number q on -/
def ChB (Z : List StepD) (s n q : Nat) : Prop := ∀ t, q ≤ t → ∀ i j, s * t ≤ i → i < j → j < s * t + s → j < n → atK Z i ≤ atK Z j
theorem ChA.next {Z U : List StepD} {s n q e A : Nat} (h : ChA Z s n q) (hA : A = s * q) (m : Mix A e Z U) (hs : SrtOn U A e) (he : e = A + s ∨ (n ≤ A + s ∧ e = n)) : ChA U s n (q + 1) := by
  intro t ht i j h1 h2 h3 h4
  by_cases c : t < q
  · have := Nat.mul_le_mul_left s (show t + 1 ≤ q from c)
    rw [Nat.mul_add, Nat.mul_one] at this
    rw [m.keyO (by omega), m.keyO (by omega)]
    exact h t c i j h1 h2 h3 h4
  · obtain rfl : t = q := by omega
    exact hs i j (by omega) h2 (by omega)
theorem ChB.next {Z U : List StepD} {s n q e A : Nat} (h : ChB Z s n (2 * q)) (hA : A = 2 * s * q) (m : Mix A e Z U) (he : e ≤ A + 2 * s) : ChB U s n (2 * (q + 1)) := by
  intro t ht i j h1 h2 h3 h4
  have h0 : s * (2 * (q + 1)) = 2 * s * q + 2 * s := by rw [Nat.mul_left_comm, Nat.mul_add, Nat.mul_one, Nat.mul_add, ← Nat.mul_assoc]
  have := Nat.mul_le_mul_left s ht
  rw [m.keyO (by omega), m.keyO (by omega)]
  exact h t (by omega) i j h1 h2 h3 h4
theorem ChA.all {Z : List StepD} {s n q : Nat} (h : ChA Z s n q) (hn : n ≤ s * q) : ChB Z s n 0 := by
  intro t ht i j h1 h2 h3 h4
  by_cases c : t < q
  · exact h t c i j h1 h2 h3 h4
  · have := Nat.mul_le_mul_left s (show q ≤ t by omega)
    omega
theorem ChB.run1 {Z : List StepD} {s n q A e : Nat} (h : ChB Z s n (2 * q)) (hA : A = 2 * s * q) (he : e ≤ A + s) (hn : e ≤ n) : SrtOn Z A e := fun i j h1 h2 h3 =>
  h (2 * q) (Nat.le_refl _) i j (by rw [Nat.mul_left_comm, ← Nat.mul_assoc]; omega) h2 (by rw [Nat.mul_left_comm, ← Nat.mul_assoc]; omega) (by omega)
theorem ChB.run2 {Z : List StepD} {s n q A e : Nat} (h : ChB Z s n (2 * q)) (hA : A = 2 * s * q) (he : e ≤ A + s + s) (hn : e ≤ n) : SrtOn Z (A + s) e := fun i j h1 h2 h3 => by
  have h0 : s * (2 * q + 1) = 2 * s * q + s := by rw [Nat.mul_add, Nat.mul_one, Nat.mul_left_comm, ← Nat.mul_assoc]
  exact h (2 * q + 1) (by omega) i j (by omega) h2 (by omega) (by omega)
theorem ChB.start {Z : List StepD} {s n : Nat} (h : ChB Z s n 0) : ChB Z s n (2 * 0) := h
theorem ChB.srt {Z : List StepD} {s n : Nat} (h : ChB Z s n 0) (hn : n ≤ s) : SrtOn Z 0 n := fun i j h1 h2 h3 =>
  h 0 (Nat.le_refl _) i j (by omega) h2 (by omega) h3
end Go.Proofs.YtaiolhanbjndcaaDoor.Srt
namespace Go.Proofs.YtaiolhanbjndcaaDoor.Srt
open Dag (num)
set_option linter.unusedVariables false
theorem srt_uniq : ∀ (Y Z : List StepD), Fq Y Z → Y.Pairwise (fun a b => a.at_ ≤ b.at_) → Z.Pairwise (fun a b => a.at_ ≤ b.at_) → Z = Y
  | [], Z, h, _, _ => by
    cases Z with
    | nil => rfl
    | cons b Z => have := h b.at_; simp at this
  | a :: Y, Z, h, h1, h2 => by
    cases Z with
    | nil => have := h a.at_; simp at this
    | cons b Z =>
      rw [List.pairwise_cons] at h1 h2
      have mem : ∀ u, u ∈ b :: Z ↔ u ∈ a :: Y := fun u => by
        have e : ∀ L : List StepD, u ∈ L ↔ u ∈ L.filter (fun s => decide (s.at_ = u.at_)) := fun L => by simp [List.mem_filter]
        rw [e (b :: Z), e (a :: Y), h u.at_]
      have e1 : b.at_ ≤ a.at_ := by
        rcases List.mem_cons.1 ((mem a).2 (by simp)) with q | q
        · rw [q]; exact Int.le_refl _
        · exact h2.1 a q
      have e2 : a.at_ ≤ b.at_ := by
        rcases List.mem_cons.1 ((mem b).1 (by simp)) with q | q
        · rw [q]; exact Int.le_refl _
        · exact h1.1 b q
      have e : b.at_ = a.at_ := by omega
      have hh := h a.at_
      rw [List.filter_cons_of_pos (by simp [e]), List.filter_cons_of_pos (by simp)] at hh
      injection hh with q1 q2
      subst q1
      congr 1
      refine srt_uniq Y Z (fun t => ?_) h1.2 h2.2
      have ht := h t
      by_cases c : b.at_ = t
      · rw [← c]; exact q2
      · rw [List.filter_cons_of_neg (by simpa using c), List.filter_cons_of_neg (by simpa using c)] at ht
        exact ht
theorem SrtOn.pair {Y : List StepD} {n : Nat} (h : SrtOn Y 0 n) (hn : Y.length = n) : Y.Pairwise (fun a b => a.at_ ≤ b.at_) := by
  rw [List.pairwise_iff_getElem]
  intro i j hi hj hij
  have := h i j (Nat.zero_le _) hij (by omega)
  rwa [atK_of (List.getElem?_eq_getElem hi), atK_of (List.getElem?_eq_getElem hj)] at this

/-- of the first k of L that out has not got the first one with the greatest number -/
def bestO (U : Nat → Int) (L : List Nat) (out : List Int) : Nat → Option Nat
  | 0 => none
  | k + 1 => match L[k]? with
    | none => bestO U L out k
    | some x => if (x : Int) ∈ out then bestO U L out k else match bestO U L out k with
      | none => some x
      | some b => if U b < U x then some x else some b
theorem bestO_mem (U : Nat → Int) (L : List Nat) (out : List Int) : ∀ (k b : Nat), bestO U L out k = some b → b ∈ L
  | 0, b, h => by simp [bestO] at h
  | k + 1, b, h => by
    simp only [bestO] at h
    split at h
    · exact bestO_mem U L out k b h
    · rename_i x hx
      have hxm := List.mem_of_getElem? hx
      split at h
      · exact bestO_mem U L out k b h
      · split at h
        · injection h with h; subst h; exact hxm
        · rename_i b' hb'
          have := bestO_mem U L out k b' hb'
          split at h <;> injection h with h <;> subst h
          · exact hxm
          · exact this
/-- the first one of R with the greatest number -/
def IsBest (U : Nat → Int) (R : List Nat) (x : Nat) : Prop := (∀ y ∈ R, U y ≤ U x) ∧ ∃ R1 R2, R = R1 ++ x :: R2 ∧ ∀ y ∈ R1, U y < U x
def restO (L : List Nat) (out : List Int) : List Nat := L.filter (fun x => decide ((x : Int) ∉ out))
theorem bestO_is (U : Nat → Int) (L : List Nat) (out : List Int) : ∀ k, k ≤ L.length → match bestO U L out k with
    | none => restO (L.take k) out = []
    | some x => IsBest U (restO (L.take k) out) x
  | 0, _ => by simp [bestO, restO]
  | k + 1, hk => by
    have ih := bestO_is U L out k (by omega)
    obtain ⟨x, hx⟩ : ∃ x, L[k]? = some x := ⟨_, List.getElem?_eq_getElem (by omega)⟩
    have ht : L.take (k + 1) = L.take k ++ [x] := by rw [List.take_add_one, hx]; rfl
    have hr : restO (L.take (k + 1)) out = restO (L.take k) out ++ (if (x : Int) ∈ out then [] else [x]) := by
      unfold restO
      rw [ht, List.filter_append]
      congr 1
      by_cases c : (x : Int) ∈ out <;> simp [c]
    rw [hr]
    simp only [bestO, hx]
    by_cases c : (x : Int) ∈ out
    · simp only [if_pos c, List.append_nil]; exact ih
    · simp only [if_neg c]
      cases e : bestO U L out k with
      | none =>
        rw [e] at ih
        have ih : restO (L.take k) out = [] := ih
        rw [ih]
        exact ⟨fun y hy => by simp at hy; rw [hy]; exact Int.le_refl _, [], [], rfl, fun y hy => by cases hy⟩
      | some b =>
        rw [e] at ih
        obtain ⟨h1, R1, R2, h2, h3⟩ : IsBest U (restO (L.take k) out) b := ih
        by_cases d : U b < U x
        · simp only [if_pos d]
          refine ⟨fun y hy => ?_, restO (L.take k) out, [], rfl, fun y hy => by have := h1 y hy; omega⟩
          rcases List.mem_append.1 hy with q | q
          · have := h1 y q; omega
          · simp at q; rw [q]; exact Int.le_refl _
        · simp only [if_neg d]
          refine ⟨fun y hy => ?_, R1, R2 ++ [x], by rw [h2]; simp, h3⟩
          rcases List.mem_append.1 hy with q | q
          · exact h1 y q
          · simp at q; rw [q]; omega
def fallN (U : Nat → Int) (L : List Nat) : Nat → List Nat
  | 0 => []
  | k + 1 => fallN U L k ++ (bestO U L (num (fallN U L k)) L.length).toList
structure FallI (U : Nat → Int) (L F R : List Nat) : Prop where
  rem : R = restO L (num F)
  perm : (F ++ R).Perm L
  srt : F.Pairwise (fun a b => U b ≤ U a)
  low : ∀ x ∈ F, ∀ y ∈ R, U y ≤ U x
  fq : ∀ t : Int, (F ++ R).filter (fun x => decide (U x = t)) = L.filter (fun x => decide (U x = t))
theorem FallI.start (U : Nat → Int) (L : List Nat) : FallI U L [] L :=
  ⟨(List.filter_eq_self.2 (fun x _ => by simp [num])).symm, by simp, List.Pairwise.nil, fun x h => (by cases h), fun t => rfl⟩
theorem FallI.step {U : Nat → Int} {L F R : List Nat} (h : FallI U L F R) (hL : L.Nodup) (hR : R ≠ []) : ∃ x R', bestO U L (num F) L.length = some x ∧ FallI U L (F ++ [x]) R' := by
  have hb := bestO_is U L (num F) L.length (Nat.le_refl _)
  rw [List.take_length, ← h.rem] at hb
  cases e : bestO U L (num F) L.length with
  | none => rw [e] at hb; exact absurd hb hR
  | some x =>
    rw [e] at hb
    obtain ⟨h1, R1, R2, h2, h3⟩ : IsBest U R x := hb
    have hx : x ∈ R := by rw [h2]; simp
    have hnd : R.Nodup := (List.nodup_append.1 (h.perm.nodup_iff.2 hL)).2.1
    refine ⟨x, R1 ++ R2, rfl, ?_, ?_, ?_, ?_, ?_⟩
    · have e1 : restO L (num (F ++ [x])) = R.filter (fun y => decide (y ≠ x)) := by
        rw [h.rem]
        unfold restO
        rw [List.filter_filter]
        refine List.filter_congr fun y _ => ?_
        have e : ((y : Int) ∈ num (F ++ [x])) ↔ (y : Int) ∈ num F ∨ y = x := by
          rw [show num (F ++ [x]) = num F ++ [(x : Int)] from by simp [num], List.mem_append, List.mem_singleton]
          exact ⟨fun q => q.imp id (fun q => by omega), fun q => q.imp id (fun q => by omega)⟩
        by_cases c1 : (y : Int) ∈ num F
        · have c3 := e.2 (Or.inl c1)
          simp [c1, c3]
        · by_cases c2 : y = x
          · have c3 := e.2 (Or.inr c2)
            simp only [c2] at c3 c1 ⊢
            simp [c3]
          · have c3 : (y : Int) ∉ num (F ++ [x]) := fun q => (e.1 q).elim c1 c2
            simp [c1, c2, c3]
      rw [e1, h2, List.filter_append, List.filter_cons_of_neg (by simp)]
      rw [h2] at hnd
      obtain ⟨n1, n2, n3⟩ := List.nodup_append.1 hnd
      have n4 := (List.nodup_cons.1 n2).1
      congr 1
      · exact (List.filter_eq_self.2 fun y hy => by simpa using n3 y hy x (by simp)).symm
      · refine (List.filter_eq_self.2 fun y hy => ?_).symm
        have hne : y ≠ x := fun q => n4 (by rw [← q]; exact hy)
        simpa using hne
    · refine List.Perm.trans ?_ h.perm
      rw [h2, List.append_assoc]
      exact List.Perm.append_left F (by simpa using List.perm_middle.symm)
    · rw [List.pairwise_append]
      exact ⟨h.srt, by simp, fun a ha b hb => by simp at hb; subst hb; exact h.low a ha b hx⟩
    · intro a ha y hy
      have hy' : y ∈ R := by
        rw [h2]
        rcases List.mem_append.1 hy with q | q <;> simp [q]
      rcases List.mem_append.1 ha with q | q
      · exact h.low a q y hy'
      · simp at q; rw [q]; exact h1 y hy'
    · intro t
      rw [← h.fq t, h2]
      simp only [List.filter_append]
      by_cases c : U x = t
      · have hn : R1.filter (fun x => decide (U x = t)) = [] := List.filter_eq_nil_iff.2 fun y hy => by
          have := h3 y hy
          rw [decide_eq_true_eq]; omega
        rw [hn, List.filter_cons_of_pos (by simp [c]), List.filter_cons_of_pos (by simp [c])]
        simp
      · rw [List.filter_cons_of_neg (by simpa using c), List.filter_cons_of_neg (by simpa using c)]
        simp
theorem fall_inv (U : Nat → Int) (L : List Nat) (hL : L.Nodup) : ∀ k, k ≤ L.length → (fallN U L k).length = k ∧ ∃ R, FallI U L (fallN U L k) R
  | 0, _ => ⟨rfl, L, FallI.start U L⟩
  | k + 1, hk => by
    obtain ⟨hl, R, hI⟩ := fall_inv U L hL k (by omega)
    have hR : R ≠ [] := fun e => by
      have := hI.perm.length_eq
      rw [e, List.append_nil, hl] at this; omega
    obtain ⟨x, R', e, hI'⟩ := hI.step hL hR
    have e2 : fallN U L (k + 1) = fallN U L k ++ [x] := by simp only [fallN]; rw [e]; rfl
    rw [e2]
    exact ⟨by simp [hl], R', hI'⟩
theorem fall_next (U : Nat → Int) (L : List Nat) (hL : L.Nodup) {k : Nat} (hk : k < L.length) : ∃ x, bestO U L (num (fallN U L k)) L.length = some x ∧ fallN U L (k + 1) = fallN U L k ++ [x] := by
  obtain ⟨hl, R, hI⟩ := fall_inv U L hL k (by omega)
  have hR : R ≠ [] := fun e => by
    have := hI.perm.length_eq
    rw [e, List.append_nil, hl] at this; omega
  obtain ⟨x, R', e, hI'⟩ := hI.step hL hR
  exact ⟨x, e, by simp only [fallN]; rw [e]; rfl⟩
/-- all of L, by falling numbers, of one number as they stood -/
def fallL (U : Nat → Int) (L : List Nat) : List Nat := fallN U L L.length
theorem fall_all (U : Nat → Int) (L : List Nat) (hL : L.Nodup) : (fallL U L).length = L.length ∧ (fallL U L).Perm L ∧ (fallL U L).Pairwise (fun a b => U b ≤ U a) ∧ ∀ t : Int, (fallL U L).filter (fun x => decide (U x = t)) = L.filter (fun x => decide (U x = t)) := by
  obtain ⟨hl, R, hI⟩ := fall_inv U L hL L.length (Nat.le_refl _)
  have hR : R = [] := by
    have := hI.perm.length_eq
    rw [List.length_append, hl] at this
    exact List.eq_nil_of_length_eq_zero (by omega)
  subst hR
  have h1 := hI.perm; have h2 := hI.fq
  simp only [List.append_nil] at h1 h2
  exact ⟨hl, h1, hI.srt, h2⟩
/-- a number with its key -/
def keyS (U : Nat → Int) (v : Nat) : StepD := ⟨-(U v), v⟩
theorem keyS_fr (U : Nat → Int) (L : List Nat) : (L.map (keyS U)).map (·.fr) = num L := by simp [keyS, num]
theorem fall_sorted (U : Nat → Int) (L : List Nat) (hL : L.Nodup) {Y : List StepD} {n : Nat} (hn : L.length = n) (hm : Mix 0 n (L.map (keyS U)) Y) (hs : SrtOn Y 0 n) : Y = (fallL U L).map (keyS U) := by
  obtain ⟨h1, h2, h3, h4⟩ := fall_all U L hL
  refine srt_uniq _ _ (fun t => ?_) ?_ (hs.pair (by rw [hm.len, List.length_map, hn]))
  · rw [hm.fq t, List.filter_map, List.filter_map]
    have e : ((fun s : StepD => decide (s.at_ = t)) ∘ keyS U) = fun x => decide (U x = -t) := by
      funext x
      simp only [Function.comp, keyS]
      congr 1
      exact propext ⟨fun q => by omega, fun q => by omega⟩
    rw [e, h4]
  · rw [List.pairwise_map]
    exact h3.imp fun {a b} q => by simp only [keyS]; omega
end Go.Proofs.YtaiolhanbjndcaaDoor.Srt

