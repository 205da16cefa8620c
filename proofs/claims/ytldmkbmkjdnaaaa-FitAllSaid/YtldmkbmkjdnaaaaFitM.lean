/- Layer 10: all windows, in the document's words: plain. -/
import Derived.Test.YtldmkbmkjdnaaaaFitJ
namespace Go.Proofs.Ytldmkbmkjdnaaaa.Ft
open Stp
set_option linter.unusedVariables false

def gF (p : Int → Bool) (a t : Int) : Bool → List Int → Bool
  | acc, [] => acc
  | acc, k :: r => gF p a t (if a < k ∧ k < t ∧ p k = false then true else acc) r
theorem gF_is (p : Int → Bool) (a t : Int) : ∀ (T : List Int) (acc : Bool), gF p a t acc T = true ↔ acc = true ∨ ∃ k ∈ T, a < k ∧ k < t ∧ p k = false
  | [], acc => by simp [gF]
  | k :: r, acc => by
    unfold gF
    rw [gF_is p a t r]
    by_cases h : a < k ∧ k < t ∧ p k = false
    · rw [if_pos h]
      exact ⟨fun _ => Or.inr ⟨k, by simp, h⟩, fun _ => Or.inl rfl⟩
    · rw [if_neg h]
      constructor
      · rintro (e | ⟨j, hj, e⟩)
        · exact Or.inl e
        · exact Or.inr ⟨j, by simp [hj], e⟩
      · rintro (e | ⟨j, hj, e⟩)
        · exact Or.inl e
        · rcases List.mem_cons.1 hj with rfl | hj
          · exact absurd e h
          · exact Or.inr ⟨j, hj, e⟩
def okF (p : Int → Bool) (a : Int) (T : List Int) (t : Int) : Bool := p t && !gF p a t false T
def bF (ok : Int → Bool) : Int → List Int → Int
  | b, [] => b
  | b, t :: r => bF ok (if b < t ∧ ok t = true then t else b) r
theorem bF_is (ok : Int → Bool) : ∀ (T : List Int) (b : Int), (bF ok b T = b ∨ (bF ok b T ∈ T ∧ ok (bF ok b T) = true ∧ b < bF ok b T)) ∧ (∀ t ∈ T, ok t = true → t ≤ bF ok b T) ∧ b ≤ bF ok b T
  | [], b => ⟨Or.inl rfl, fun t h => (by cases h), Int.le_refl _⟩
  | t :: T, b => by
    unfold bF
    by_cases hc : b < t ∧ ok t = true
    · rw [if_pos hc]
      obtain ⟨h1, h2, h3⟩ := bF_is ok T t
      refine ⟨Or.inr ?_, fun u hu k => ?_, by omega⟩
      · rcases h1 with h | ⟨h, k1, k2⟩
        · rw [h]; exact ⟨by simp, hc.2, hc.1⟩
        · exact ⟨by simp [h], k1, by omega⟩
      · rcases List.mem_cons.1 hu with rfl | hu
        · exact h3
        · exact h2 u hu k
    · rw [if_neg hc]
      obtain ⟨h1, h2, h3⟩ := bF_is ok T b
      refine ⟨?_, fun u hu k => ?_, h3⟩
      · rcases h1 with h | ⟨h, k⟩
        · exact Or.inl h
        · exact Or.inr ⟨by simp [h], k⟩
      · rcases List.mem_cons.1 hu with rfl | hu
        · rcases Int.lt_or_le b u with q | q
          · exact absurd ⟨q, k⟩ hc
          · omega
        · exact h2 u hu k
/-- what is done, and what is left -/
structure AllI (l : List StepD) (a b n d : Int) (pre suf : List StepD) (from_ : Int) : Prop where
  all : pre ++ suf = fitL l n d a b
  lo : a ≤ from_
  left : ∀ t, InW suf t ↔ FitP (valF 0 l) n d a b t ∧ from_ ≤ t
  sep : SepW (from_ - 1) suf
theorem allI_start {l : List StepD} {a b n d : Int} (h : ReqY l a b n d) : AllI l a b n d [] (fitL l n d a b) a := by
  have hy := fitY h
  refine ⟨rfl, Int.le_refl _, fun t => ?_, ?_⟩
  · rw [hy.in_ t]; exact ⟨fun k => ⟨k, k.1⟩, fun k => k.1⟩
  · have hs := hy.sep
    cases hR : fitL l n d a b with
    | nil => exact trivial
    | cons x R =>
      rw [hR] at hs
      have := (hy.in_ x.at_).1 (by rw [hR]; exact inW_cons.2 (Or.inl ⟨Int.le_refl _, hs.2.1⟩))
      have := this.1
      exact ⟨by omega, hs.2⟩
/-- what First says of what is left -/
theorem allI_first {l : List StepD} {a b n d from_ : Int} {pre suf : List StepD} (h : ReqY l a b n d) (hA : AllI l a b n d pre suf from_) (hf : from_ ≤ b) : (suf = [] ∧ firN l from_ b n d = -1) ∨ ∃ x r, suf = x :: r ∧ firN l from_ b n d = x.at_ ∧ 0 ≤ x.at_ := by
  have ha := h.ha
  have hb := h.hb
  have hl := hA.lo
  have hr : ReqY l from_ b n d := ⟨h.prof, ⟨by omega, by omega⟩, hb, h.hn, h.hd⟩
  have hy := fitY hr
  have e : fitL l n d from_ b = suf := by
    refine uniqW _ _ (-1) hy.sep (sepW_mono hA.sep (by omega)) fun t _ => ?_
    rw [hy.in_ t, hA.left t]
    constructor
    · intro k; exact ⟨⟨by have := k.1; omega, k.2⟩, k.1⟩
    · intro k; exact ⟨k.2, k.1.2⟩
  rcases fir_is hr with ⟨k1, k2⟩ | ⟨k1, k2, k3⟩
  · rw [e] at k1; exact Or.inl ⟨k1, k2⟩
  · rw [e] at k1 k2
    cases suf with
    | nil => exact absurd rfl k1
    | cons x r => exact Or.inr ⟨x, r, rfl, k2, by rw [k2] at k3; exact k3⟩
/-- its last time -/
theorem allI_last {l : List StepD} {a b n d from_ : Int} {pre r : List StepD} {x : StepD} (h : ReqY l a b n d) (hA : AllI l a b n d pre (x :: r) from_) : bF (okF (fitB l n d a b) x.at_ (timD l a b d)) x.at_ (timD l a b d) = x.fr ∧ x.at_ ≤ x.fr ∧ x.fr + d ≤ b ∧ 0 ≤ x.at_ ∧ AllI l a b n d (pre ++ [x]) r (x.fr + 1) := by
  have hiff := fun t => fitB_iff h.prof (n := n) (t := t) h.hd.1 h.ha.1 h.hb.2
  have hs := hA.sep
  have hxx : x.at_ ≤ x.fr := hs.2.1
  have hin : ∀ t, x.at_ ≤ t → t ≤ x.fr → FitP (valF 0 l) n d a b t := fun t k1 k2 => ((hA.left t).1 (inW_cons.2 (Or.inl ⟨k1, k2⟩))).1
  have hup := hin x.fr hxx (Int.le_refl _)
  have hlo := hin x.at_ (Int.le_refl _) hxx
  have hfr : from_ ≤ x.at_ := by have := hs.1; omega
  have hno : ¬ FitP (valF 0 l) n d a b (x.fr + 1) := fun k => by
    have := (hA.left (x.fr + 1)).2 ⟨k, by omega⟩
    rcases inW_cons.1 this with q | q
    · omega
    · have := sepW_low hs.2.2 q; omega
  obtain ⟨b1, b2, b3⟩ := bF_is (okF (fitB l n d a b) x.at_ (timD l a b d)) (timD l a b d) x.at_
  have hcand := cand_up h.hd.1 hup hno
  refine ⟨?_, hxx, hup.2.1, by have := hlo.1; have := h.ha.1; omega, ?_⟩
  · have hle : bF (okF (fitB l n d a b) x.at_ (timD l a b d)) x.at_ (timD l a b d) ≤ x.fr := by
      rcases b1 with e | ⟨_, e, _⟩
      · omega
      · generalize bF (okF (fitB l n d a b) x.at_ (timD l a b d)) x.at_ (timD l a b d) = t at *
        unfold okF at e
        rw [Bool.and_eq_true] at e
        obtain ⟨e1, e2⟩ := e
        have hft := (hiff t).1 e1
        rcases Int.lt_or_le x.fr t with c | c
        · exfalso
          rcases hcand with e | ⟨s, hs', e⟩
          · have := hft.2.1; omega
          · have hy : x.fr + 1 ∈ timD l a b d := tim_mem.2 (Or.inr (Or.inr ⟨s, hs', Or.inr (Or.inr (Or.inl (by omega)))⟩))
            have hpy : fitB l n d a b (x.fr + 1) = false := by
              cases hq : fitB l n d a b (x.fr + 1)
              · rfl
              · exact absurd ((hiff _).1 hq) hno
            have hne : x.fr + 1 ≠ t := fun e => hno (by rw [e]; exact hft)
            have hg := (gF_is (fitB l n d a b) x.at_ t (timD l a b d) false).2 (Or.inr ⟨x.fr + 1, hy, by omega, by omega, hpy⟩)
            rw [hg] at e2
            cases e2
        · exact c
    have hge : x.fr ≤ bF (okF (fitB l n d a b) x.at_ (timD l a b d)) x.at_ (timD l a b d) := by
      rcases Int.lt_or_eq_of_le hxx with c | c
      · have hm : x.fr ∈ timD l a b d := by
          rcases hcand with e | ⟨s, hs', e⟩
          · exact tim_mem.2 (Or.inr (Or.inl e))
          · exact tim_mem.2 (Or.inr (Or.inr ⟨s, hs', Or.inr (Or.inl (by omega))⟩))
        refine b2 _ hm ?_
        unfold okF
        rw [Bool.and_eq_true]
        refine ⟨(hiff _).2 hup, ?_⟩
        cases hg : gF (fitB l n d a b) x.at_ x.fr false (timD l a b d)
        · rfl
        · exfalso
          rcases (gF_is _ _ _ _ _).1 hg with e | ⟨k, _, k1, k2, k3⟩
          · cases e
          · rw [(hiff k).2 (hin k (by omega) (by omega))] at k3; cases k3
      · omega
    omega
  · refine ⟨by rw [List.append_assoc]; exact hA.all, by have := hlo.1; omega, fun t => ?_, sepW_mono hs.2.2 (by omega)⟩
    constructor
    · intro k
      have h1 := (hA.left t).1 (inW_cons.2 (Or.inr k))
      have := sepW_low hs.2.2 k
      exact ⟨h1.1, by omega⟩
    · intro k
      rcases inW_cons.1 ((hA.left t).2 ⟨k.1, by omega⟩) with q | q
      · omega
      · exact q
theorem allI_end {l : List StepD} {a b n d from_ : Int} {pre suf : List StepD} (h : ReqY l a b n d) (hA : AllI l a b n d pre suf from_) (hf : b < from_) : pre = fitL l n d a b := by
  have : suf = [] := by
    cases suf with
    | nil => rfl
    | cons x r =>
      have h1 := (hA.left x.at_).1 (inW_cons.2 (Or.inl ⟨Int.le_refl _, hA.sep.2.1⟩))
      have := h1.1.2.1; have := h1.2; have := h.hd.1
      omega
  rw [← hA.all, this, List.append_nil]
end Go.Proofs.Ytldmkbmkjdnaaaa.Ft

