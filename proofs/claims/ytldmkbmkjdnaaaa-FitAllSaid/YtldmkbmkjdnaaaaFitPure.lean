/- Layer 10 in plain words: when something fits. No program. -/
import Derived.Test.YtldmkbmkjdnaaaaStpQ
namespace Go.Proofs.Ytldmkbmkjdnaaaa.Ft
open Stp
set_option linter.unusedVariables false

/-- a request fits: so many are free from t on, for so long, in a window -/
def FitP (f : Int → Int) (n d a b t : Int) : Prop := a ≤ t ∧ t + d ≤ b ∧ ∀ u, t ≤ u → u < t + d → n ≤ f u
/-- windows: from at_ to fr; rising, with a gap between -/
def InW (l : List StepD) (t : Int) : Prop := ∃ x ∈ l, x.at_ ≤ t ∧ t ≤ x.fr
def SepW : Int → List StepD → Prop
  | _, [] => True
  | lo, x :: l => lo < x.at_ ∧ x.at_ ≤ x.fr ∧ SepW (x.fr + 1) l
theorem inW_nil {t : Int} : ¬ InW [] t := fun ⟨x, h, _⟩ => by cases h
theorem inW_cons {x : StepD} {l : List StepD} {t : Int} : InW (x :: l) t ↔ (x.at_ ≤ t ∧ t ≤ x.fr) ∨ InW l t := by
  constructor
  · rintro ⟨y, hy, h⟩
    rcases List.mem_cons.1 hy with rfl | hy
    · exact Or.inl h
    · exact Or.inr ⟨y, hy, h⟩
  · rintro (h | ⟨y, hy, h⟩)
    · exact ⟨x, by simp, h⟩
    · exact ⟨y, by simp [hy], h⟩
theorem sepW_mono : ∀ {l : List StepD} {lo lo' : Int}, SepW lo l → lo' ≤ lo → SepW lo' l
  | [], _, _, _, _ => trivial
  | x :: l, _, _, ⟨h1, h2, h3⟩, h => ⟨by omega, h2, h3⟩
theorem sepW_low : ∀ {l : List StepD} {lo t : Int}, SepW lo l → InW l t → lo < t
  | [], _, _, _, h => (inW_nil h).elim
  | x :: l, lo, t, ⟨h1, h2, h3⟩, h => by
    rcases inW_cons.1 h with q | q
    · omega
    · have := sepW_low h3 q; omega
theorem uniqW : ∀ (l m : List StepD) (lo : Int), SepW lo l → SepW lo m → (∀ t, lo < t → (InW l t ↔ InW m t)) → l = m
  | [], [], _, _, _, _ => rfl
  | [], y :: m, lo, _, ⟨h1, h2, h3⟩, h => (inW_nil ((h y.at_ h1).2 (inW_cons.2 (Or.inl ⟨Int.le_refl _, h2⟩)))).elim
  | x :: l, [], lo, ⟨h1, h2, h3⟩, _, h => (inW_nil ((h x.at_ h1).1 (inW_cons.2 (Or.inl ⟨Int.le_refl _, h2⟩)))).elim
  | x :: l, y :: m, lo, ⟨a1, a2, a3⟩, ⟨b1, b2, b3⟩, h => by
    have le1 : ∀ {x y : StepD} {l m : List StepD}, SepW (x.fr + 1) l → lo < x.at_ → x.at_ ≤ x.fr → SepW (y.fr + 1) m → y.at_ ≤ y.fr → (∀ t, lo < t → (InW (x :: l) t → InW (y :: m) t)) → y.at_ ≤ x.at_ := by
      intro x y l m _ h1 h2 h3 h4 h5
      rcases inW_cons.1 (h5 x.at_ h1 (inW_cons.2 (Or.inl ⟨Int.le_refl _, h2⟩))) with q | q
      · exact q.1
      · have := sepW_low h3 q; omega
    have e1 : x.at_ = y.at_ := by
      have := le1 a3 a1 a2 b3 b2 (fun t ht => (h t ht).1)
      have := le1 b3 b1 b2 a3 a2 (fun t ht => (h t ht).2)
      omega
    have le2 : ∀ {x y : StepD} {l m : List StepD}, x.at_ = y.at_ → lo < x.at_ → SepW (x.fr + 1) l → x.at_ ≤ x.fr → SepW (y.fr + 1) m → y.at_ ≤ y.fr → (∀ t, lo < t → (InW (y :: m) t → InW (x :: l) t)) → y.fr ≤ x.fr := by
      intro x y l m h0 h1 h2 h3 h4 h5 h6
      rcases Int.lt_or_le x.fr y.fr with q | q
      · rcases inW_cons.1 (h6 (x.fr + 1) (by omega) (inW_cons.2 (Or.inl ⟨by omega, by omega⟩))) with k | k
        · omega
        · have := sepW_low h2 k; omega
      · exact q
    have e2 : x.fr = y.fr := by
      have := le2 e1 a1 a3 a2 b3 b2 (fun t ht => (h t ht).2)
      have := le2 e1.symm b1 b3 b2 a3 a2 (fun t ht => (h t ht).1)
      omega
    obtain rfl := stepD_ext e1 e2
    congr 1
    refine uniqW l m _ a3 b3 fun t ht => ?_
    have := h t (by omega)
    rw [inW_cons, inW_cons] at this
    constructor
    · intro k
      rcases this.1 (Or.inr k) with q | q
      · omega
      · exact q
    · intro k
      rcases this.2 (Or.inr k) with q | q
      · omega
      · exact q

/-! the gaps of a profile -/
def nxA : List StepD → Int
  | [] => 1099511627776
  | s :: _ => s.at_
def nxF : List StepD → Int
  | [] => -1
  | s :: _ => s.fr
def mnV (x b : Int) : Int := if b < x then b else x
def gapF (n a b d : Int) : Int → List StepD → List StepD
  | _, [] => []
  | q, s :: l => if s.fr < n then gapF n a b d (nxA l) l else if n ≤ nxF l then gapF n a b d q l else
      if mxV q a ≤ mnV (nxA l) b - d then ⟨mxV q a, mnV (nxA l) b - d⟩ :: gapF n a b d q l else gapF n a b d q l
theorem gap_any {n a b d : Int} {q q' : Int} : ∀ {l : List StepD}, nxF l < n → gapF n a b d q l = gapF n a b d q' l
  | [], _ => rfl
  | s :: l, h => by
    have h' : s.fr < n := h
    unfold gapF
    rw [if_pos h', if_pos h']
/-- what a function is along steps -/
def Seg (f : Int → Int) : List StepD → Prop
  | [] => True
  | s :: l => (∀ u, s.at_ ≤ u → u < nxA l → f u = s.fr) ∧ s.at_ < nxA l ∧ Seg f l
theorem seg_of : ∀ (l : List StepD) (lo d : Int) (f : Int → Int), Rise lo l → (∀ s ∈ l, s.at_ ≤ 1099511627775) → (∀ u, lo < u → f u = valF d l u) → Seg f l
  | [], _, _, _, _, _, _ => trivial
  | s :: l, lo, d, f, ⟨h1, h2⟩, hb, hv => by
    have hs := hb s (by simp)
    have hlt : s.at_ < nxA l := by
      cases l with
      | nil => show s.at_ < 1099511627776; omega
      | cons r l => exact h2.1
    refine ⟨fun u k1 k2 => ?_, hlt, seg_of l s.at_ s.fr f h2 (fun r hr => hb r (by simp [hr])) fun u hu => ?_⟩
    · rw [hv u (by omega), val_cons k1]
      cases l with
      | nil => rfl
      | cons r l => exact val_ahead k2
    · rw [hv u (by omega), val_cons (by omega)]
structure GapI (f : Int → Int) (n q : Int) (l : List StepD) : Prop where
  low : 0 ≤ q
  le : q ≤ nxA l
  all : ∀ u, q ≤ u → u < nxA l → n ≤ f u
  stale : nxF l < n → q = nxA l
theorem mxV_ge {x a : Int} : x ≤ mxV x a ∧ a ≤ mxV x a ∧ (∀ t, x ≤ t → a ≤ t → mxV x a ≤ t) := by unfold mxV; split <;> exact ⟨by omega, by omega, fun t _ _ => by omega⟩
theorem mnV_le {x b : Int} : mnV x b ≤ x ∧ mnV x b ≤ b ∧ (∀ t, t ≤ x → t ≤ b → t ≤ mnV x b) := by unfold mnV; split <;> exact ⟨by omega, by omega, fun t _ _ => by omega⟩
theorem nx_at {f : Int → Int} {s : StepD} {l : List StepD} (h : Seg f (s :: l)) : l ≠ [] → f (nxA l) = nxF l := by
  intro hl
  cases l with
  | nil => exact absurd rfl hl
  | cons r l => exact h.2.2.1 r.at_ (Int.le_refl _) h.2.2.2.1
/-- the step is too low -/
theorem gapI_low {f : Int → Int} {n q : Int} {s : StepD} {l : List StepD} (H : GapI f n q (s :: l)) (hS : Seg f (s :: l)) : GapI f n (nxA l) l :=
  ⟨by have := H.low; have h1 := H.le; have h2 := hS.2.1; have h3 : q ≤ s.at_ := h1; omega, Int.le_refl _, fun u h1 h2 => by omega, fun _ => rfl⟩
theorem gapI_on {f : Int → Int} {n q : Int} {s : StepD} {l : List StepD} (H : GapI f n q (s :: l)) (hS : Seg f (s :: l)) (h1 : n ≤ s.fr) (h2 : n ≤ nxF l) : GapI f n q l :=
  ⟨H.low, by have h3 : q ≤ s.at_ := H.le; have := hS.2.1; omega, fun u k1 k2 => by
    rcases Int.lt_or_le u s.at_ with c | c
    · exact H.all u k1 c
    · rw [hS.1 u c k2]; exact h1, fun h => by omega⟩
theorem gap_in {f : Int → Int} {n a b d : Int} (hn : 0 ≤ n) (hd : 0 ≤ d) (hb : b ≤ 1099511627775) : ∀ (l : List StepD) (q : Int), Seg f l → (1 ≤ d ∨ ∀ s ∈ l, n ≤ s.fr) → GapI f n q l → ∀ t, (InW (gapF n a b d q l) t ↔ FitP f n d a b t ∧ q ≤ t ∧ l ≠ [])
  | [], q, _, _, H, t => by
    constructor
    · intro h; exact (inW_nil h).elim
    · rintro ⟨_, _, h⟩; exact absurd rfl h
  | s :: l, q, hS, hdn, H, t => by
    have hlt := hS.2.1
    have hq : q ≤ s.at_ := H.le
    have hdn' : 1 ≤ d ∨ ∀ s ∈ l, n ≤ s.fr := by
      rcases hdn with h | h
      · exact Or.inl h
      · exact Or.inr fun r hr => h r (by simp [hr])
    have hnil : l = [] → ∀ t, FitP f n d a b t → t < nxA l := fun e t h => by
      subst e
      have := h.2.1
      show t < 1099511627776
      omega
    unfold gapF
    by_cases c1 : s.fr < n
    · rw [if_pos c1]
      have hd1 : 1 ≤ d := by
        rcases hdn with h | h
        · exact h
        · have := h s (by simp); omega
      rw [gap_in hn hd hb l (nxA l) hS.2.2 hdn' (gapI_low H hS) t]
      have hqs : q = s.at_ := H.stale c1
      constructor
      · rintro ⟨h1, h2, h3⟩; exact ⟨h1, by omega, by simp⟩
      · rintro ⟨h1, h2, h3⟩
        have key : nxA l ≤ t := by
          rcases Int.lt_or_le t (nxA l) with c | c
          · have e1 := hS.1 t (by omega) c
            have e2 := h1.2.2 t (Int.le_refl _) (by omega)
            omega
          · exact c
        refine ⟨h1, key, fun e => ?_⟩
        have := hnil e t h1; omega
    · rw [if_neg c1]
      by_cases c2 : n ≤ nxF l
      · rw [if_pos c2, gap_in hn hd hb l q hS.2.2 hdn' (gapI_on H hS (by omega) c2) t]
        constructor
        · rintro ⟨h1, h2, h3⟩; exact ⟨h1, h2, by simp⟩
        · rintro ⟨h1, h2, h3⟩
          refine ⟨h1, h2, fun e => ?_⟩
          subst e
          have : n ≤ -1 := c2
          omega
      · rw [if_neg c2]
        have hG : GapI f n (nxA l) l := ⟨by have := H.low; omega, Int.le_refl _, fun u h1 h2 => by omega, fun _ => rfl⟩
        have ih := gap_in (a := a) (b := b) hn hd hb l (nxA l) hS.2.2 hdn' hG t
        rw [gap_any (q' := nxA l) (show nxF l < n by omega)]
        have hall : ∀ u, q ≤ u → u < nxA l → n ≤ f u := fun u k1 k2 => by
          rcases Int.lt_or_le u s.at_ with c | c
          · exact H.all u k1 c
          · rw [hS.1 u c k2]; omega
        obtain ⟨m1, m2, m3⟩ := mxV_ge (x := q) (a := a)
        obtain ⟨n1, n2, n3⟩ := mnV_le (x := nxA l) (b := b)
        have hwin : (mxV q a ≤ t ∧ t ≤ mnV (nxA l) b - d) → FitP f n d a b t ∧ q ≤ t := fun ⟨k1, k2⟩ => ⟨⟨by omega, by omega, fun u j1 j2 => hall u (by omega) (by omega)⟩, by omega⟩
        have hfit : FitP f n d a b t → q ≤ t → t < nxA l → mxV q a ≤ t ∧ t ≤ mnV (nxA l) b - d := fun h k1 k2 => by
          refine ⟨m3 t k1 h.1, ?_⟩
          have : t + d ≤ mnV (nxA l) b := n3 _ (by
            rcases Int.lt_or_le (nxA l) (t + d) with c | c
            · exfalso
              by_cases hl : l = []
              · subst hl
                have := h.2.1
                have e : nxA ([] : List StepD) = 1099511627776 := rfl
                omega
              · have e1 := nx_at hS hl
                have e2 := h.2.2 (nxA l) (by omega) c
                omega
            · exact c) h.2.1
          omega
        have hsplit : FitP f n d a b t ∧ q ≤ t ∧ s :: l ≠ [] ↔ (mxV q a ≤ t ∧ t ≤ mnV (nxA l) b - d) ∨ (FitP f n d a b t ∧ nxA l ≤ t ∧ l ≠ []) := by
          constructor
          · rintro ⟨h1, h2, _⟩
            rcases Int.lt_or_le t (nxA l) with c | c
            · exact Or.inl (hfit h1 h2 c)
            · refine Or.inr ⟨h1, c, fun e => ?_⟩
              have := hnil e t h1; omega
          · rintro (h | ⟨h1, h2, _⟩)
            · exact ⟨(hwin h).1, (hwin h).2, by simp⟩
            · exact ⟨h1, by omega, by simp⟩
        rw [hsplit]
        by_cases c3 : mxV q a ≤ mnV (nxA l) b - d
        · rw [if_pos c3, inW_cons, ih]
        · rw [if_neg c3, ih]
          constructor
          · exact Or.inr
          · rintro (h | h)
            · omega
            · exact h
theorem gap_sep {f : Int → Int} {n a b d : Int} (hn : 0 ≤ n) (hd : 0 ≤ d) : ∀ (l : List StepD) (q lo : Int), Seg f l → (1 ≤ d ∨ ∀ s ∈ l, n ≤ s.fr) → q ≤ nxA l → (n ≤ nxF l → lo < q) → (nxF l < n → lo ≤ nxA l) → SepW lo (gapF n a b d q l)
  | [], _, _, _, _, _, _, _ => trivial
  | s :: l, q, lo, hS, hdn, hq, h1, h2 => by
    have hlt := hS.2.1
    have hqs : q ≤ s.at_ := hq
    have hdn' : 1 ≤ d ∨ ∀ s ∈ l, n ≤ s.fr := by
      rcases hdn with h | h
      · exact Or.inl h
      · exact Or.inr fun r hr => h r (by simp [hr])
    unfold gapF
    by_cases c1 : s.fr < n
    · rw [if_pos c1]
      have h2' : lo ≤ s.at_ := h2 c1
      exact gap_sep hn hd l _ _ hS.2.2 hdn' (Int.le_refl _) (fun _ => by omega) (fun _ => by omega)
    · rw [if_neg c1]
      have h1' : lo < q := h1 (by show n ≤ s.fr; omega)
      by_cases c2 : n ≤ nxF l
      · rw [if_pos c2]
        exact gap_sep hn hd l _ _ hS.2.2 hdn' (by omega) (fun _ => h1') (fun _ => by omega)
      · rw [if_neg c2]
        by_cases c3 : mxV q a ≤ mnV (nxA l) b - d
        · rw [if_pos c3]
          obtain ⟨m1, m2, m3⟩ := mxV_ge (x := q) (a := a)
          obtain ⟨n1, n2, n3⟩ := mnV_le (x := nxA l) (b := b)
          refine ⟨by show lo < mxV q a; omega, c3, ?_⟩
          rcases hdn with hd1 | hall
          · exact gap_sep hn hd l _ _ hS.2.2 hdn' (by omega) (fun h => absurd h c2) (fun _ => by show mnV (nxA l) b - d + 1 ≤ nxA l; omega)
          · cases l with
            | nil => exact trivial
            | cons r l => exact absurd (hall r (by simp)) c2
        · rw [if_neg c3]
          exact gap_sep hn hd l _ _ hS.2.2 hdn' (by omega) (fun h => absurd h c2) (fun _ => by omega)

/-- all windows of a request -/
def nN (n d : Int) : Int := if d = 0 then 0 else n
def fitL (l : List StepD) (n d a b : Int) : List StepD := gapF (nN n d) a b d 0 l
theorem prof_seg {l : List StepD} (h : Prof l) : Seg (valF 0 l) l := seg_of l (-1) 0 _ h.rise (fun s hs => (h.ok s hs).1.2) fun _ _ => rfl
theorem fit_in {l : List StepD} (h : Prof l) {n d a b : Int} (hn : 0 ≤ n) (hd : 0 ≤ d) (ha : 0 ≤ a) (hb : b ≤ 1099511627775) (t : Int) : InW (fitL l n d a b) t ↔ FitP (valF 0 l) n d a b t := by
  obtain ⟨s, r, hl, hz⟩ := h.zero
  have hne : l ≠ [] := by rw [hl]; simp
  have h0 : (0 : Int) ≤ nxA l := by rw [hl]; show (0 : Int) ≤ s.at_; omega
  have hnx : nxA l = 0 := by rw [hl]; exact hz
  have hdn : 1 ≤ d ∨ ∀ s ∈ l, nN n d ≤ s.fr := by
    by_cases c : d = 0
    · refine Or.inr fun s hs => ?_
      have := (h.ok s hs).2
      unfold nN; rw [if_pos c]; omega
    · exact Or.inl (by omega)
  have hnn : 0 ≤ nN n d := by unfold nN; split <;> omega
  unfold fitL
  rw [gap_in hnn hd hb l 0 (prof_seg h) hdn ⟨Int.le_refl _, h0, fun u k1 k2 => by omega, fun _ => hnx.symm⟩ t]
  constructor
  · rintro ⟨⟨h1, h2, h3⟩, _, _⟩
    refine ⟨h1, h2, fun u k1 k2 => ?_⟩
    have := h3 u k1 k2
    unfold nN at this
    rw [if_neg (by omega)] at this
    exact this
  · rintro ⟨h1, h2, h3⟩
    refine ⟨⟨h1, h2, fun u k1 k2 => ?_⟩, by omega, hne⟩
    have := h3 u k1 k2
    unfold nN
    rw [if_neg (by omega)]
    exact this
theorem fit_sep {l : List StepD} (h : Prof l) {n d a b : Int} (hn : 0 ≤ n) (hd : 0 ≤ d) : SepW (-1) (fitL l n d a b) := by
  obtain ⟨s, r, hl, hz⟩ := h.zero
  have hnx : nxA l = 0 := by rw [hl]; exact hz
  have hdn : 1 ≤ d ∨ ∀ s ∈ l, nN n d ≤ s.fr := by
    by_cases c : d = 0
    · refine Or.inr fun s hs => ?_
      have := (h.ok s hs).2
      unfold nN; rw [if_pos c]; omega
    · exact Or.inl (by omega)
  have hnn : 0 ≤ nN n d := by unfold nN; split <;> omega
  exact gap_sep hnn hd l 0 (-1) (prof_seg h) hdn (by omega) (fun _ => by omega) (fun _ => by omega)

/-! the answers -/
def reqE (l : List StepD) (a b n d : Int) : Int := if chkD l = true ∧ Clk.isT a = true ∧ Clk.isT b = true ∧ (1 ≤ n ∧ n ≤ 10000) ∧ Clk.isT d = true then 0 else 2
structure ReqY (l : List StepD) (a b n d : Int) : Prop where
  prof : Prof l
  ha : 0 ≤ a ∧ a ≤ 1099511627775
  hb : 0 ≤ b ∧ b ≤ 1099511627775
  hn : 1 ≤ n ∧ n ≤ 10000
  hd : 0 ≤ d ∧ d ≤ 1099511627775
theorem req_yes {l : List StepD} {a b n d : Int} : reqE l a b n d = 0 ↔ ReqY l a b n d := by
  unfold reqE
  constructor
  · intro h
    by_cases hc : chkD l = true ∧ Clk.isT a = true ∧ Clk.isT b = true ∧ (1 ≤ n ∧ n ≤ 10000) ∧ Clk.isT d = true
    · exact ⟨chkD_prof.1 hc.1, Clk.isT_bd hc.2.1, Clk.isT_bd hc.2.2.1, hc.2.2.2.1, Clk.isT_bd hc.2.2.2.2⟩
    · rw [if_neg hc] at h; cases h
  · rintro ⟨h1, h2, h3, h4, h5⟩
    rw [if_pos ⟨chkD_prof.2 h1, Clk.isT_yes h2.1 h2.2, Clk.isT_yes h3.1 h3.2, h4, Clk.isT_yes h5.1 h5.2⟩]
theorem req_or (l : List StepD) (a b n d : Int) : reqE l a b n d = 0 ∨ reqE l a b n d = 2 := by unfold reqE; split <;> simp
def fstV : List StepD → Int
  | [] => 0
  | x :: _ => x.at_
def fstE : List StepD → Int
  | [] => 70
  | _ :: _ => 0
def lstV (l : List StepD) : Int := lastV 0 l
def firstV (l : List StepD) (a b n d : Int) : Int := if reqE l a b n d = 0 then fstV (fitL l n d a b) else 0
def firstE (l : List StepD) (a b n d : Int) : Int := if reqE l a b n d = 0 then fstE (fitL l n d a b) else 2
def lastR (l : List StepD) (a b n d : Int) : Int := if reqE l a b n d = 0 then lstV (fitL l n d a b) else 0
def allL (l : List StepD) (a b n d : Int) : List StepD := if reqE l a b n d = 0 then fitL l n d a b else []
/-- no more windows than steps -/
theorem gap_len {n a b d : Int} : ∀ (l : List StepD) (q : Int), (gapF n a b d q l).length ≤ l.length
  | [], _ => Nat.le_refl _
  | s :: l, q => by
    unfold gapF
    have h1 := gap_len (n := n) (a := a) (b := b) (d := d) l (nxA l)
    have h2 := gap_len (n := n) (a := a) (b := b) (d := d) l q
    split
    · simp; omega
    · split
      · simp; omega
      · split <;> simp <;> omega
end Go.Proofs.Ytldmkbmkjdnaaaa.Ft

