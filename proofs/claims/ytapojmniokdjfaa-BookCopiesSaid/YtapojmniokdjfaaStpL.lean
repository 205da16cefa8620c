/- Layer 9 in plain words: what is added is added, taken again, joined. -/
import Derived.Test.YtapojmniokdjfaaStpK
namespace Go.Proofs.Ytapojmniokdjfaa.Stp
open Go.RowKit Go.Shelf
set_option linter.unusedVariables false
set_option maxRecDepth 100000

structure AddY (l : List StepD) (a b k : Int) : Prop where
  prof : Prof l
  ta : 0 ≤ a ∧ a ≤ 1099511627775
  tb : 0 ≤ b ∧ b ≤ 1099511627775
  ab : a ≤ b
  kk : -10000 ≤ k ∧ k ≤ 10000
  ok : ∀ t, 0 ≤ t → 0 ≤ valF 0 l t + inW a b k t ∧ valF 0 l t + inW a b k t ≤ 10000
theorem addE_iff {l : List StepD} {a b k : Int} : addE l a b k = 0 ↔ AddY l a b k := by
  constructor
  · intro h
    unfold addE at h
    by_cases hc : durE l a b = 0 ∧ -10000 ≤ k ∧ k ≤ 10000
    · rw [if_pos hc] at h
      obtain ⟨hp, hi, hj, hab⟩ := dur_yes hc.1
      refine ⟨hp, Clk.isT_bd hi, Clk.isT_bd hj, hab, hc.2, fun t ht => ?_⟩
      have hA := add_of hc.1 hc.2
      by_cases ho : okS (addR l a b k) = true
      · exact nodeOK_iff.1 ((hA.ok hp hc.2).1 ho t ht)
      · rw [if_neg ho] at h; cases h
    · rw [if_neg hc] at h; cases h
  · intro h
    have hd : durE l a b = 0 := by unfold durE; rw [if_pos ⟨chkD_prof.2 h.prof, Clk.isT_yes h.ta.1 h.ta.2, Clk.isT_yes h.tb.1 h.tb.2, h.ab⟩]
    unfold addE
    rw [if_pos ⟨hd, h.kk⟩, if_pos (((add_of hd h.kk).ok h.prof h.kk).2 fun t ht => nodeOK_iff.2 (h.ok t ht))]
structure AddV (l : List StepD) (a b k : Int) (R : List StepD) : Prop where
  prof : Prof R
  val : ∀ t, 0 ≤ t → valF 0 R t = valF 0 l t + inW a b k t
  len : R.length ≤ l.length + 3
theorem add_yes {l : List StepD} {a b k : Int} (h : addE l a b k = 0) (hn : l.length ≤ 1000) : AddV l a b k (addL l a b k) := by
  have hy := addE_iff.1 h
  have hd : durE l a b = 0 := by unfold durE; rw [if_pos ⟨chkD_prof.2 hy.prof, Clk.isT_yes hy.ta.1 hy.ta.2, Clk.isT_yes hy.tb.1 hy.tb.2, hy.ab⟩]
  have hA := add_of hd hy.kk
  unfold addL
  rw [if_pos h]
  have hp := hA.prof hy.prof hy.kk (by omega) ((hA.ok hy.prof hy.kk).2 fun t ht => nodeOK_iff.2 (hy.ok t ht))
  exact ⟨hp, fun t ht => by rw [hp.val ht 0 DD]; exact hA.val t ht, hA.len⟩
theorem add_eq {l R : List StepD} {a b k : Int} (h : addE l a b k = 0) (hn : l.length ≤ 1000) (hR : Prof R) (hv : ∀ t, 0 ≤ t → valF 0 R t = valF 0 l t + inW a b k t) : addL l a b k = R := by
  have := add_yes h hn
  exact prof_uniq this.prof hR fun t ht => by rw [this.val t ht, hv t ht]
theorem add_no {l : List StepD} {a b k : Int} (h : addE l a b k ≠ 0) : addL l a b k = [] := by unfold addL; rw [if_neg h]
/-- so many more, and as many less -/
theorem add_back {l : List StepD} {a b k : Int} (h : addE l a b k = 0) (hn : l.length ≤ 900) : addE (addL l a b k) a b (-k) = 0 ∧ addL (addL l a b k) a b (-k) = l := by
  have hy := addE_iff.1 h
  have hv := add_yes h (by omega)
  have hlen := hv.len
  have e : ∀ t, inW a b (-k) t = - inW a b k t := fun t => by unfold inW; split <;> omega
  have he : addE (addL l a b k) a b (-k) = 0 := addE_iff.2 ⟨hv.prof, hy.ta, hy.tb, hy.ab, by have := hy.kk; omega, fun t ht => by rw [hv.val t ht, e]; have := hy.prof.bd ht; omega⟩
  exact ⟨he, add_eq he (by omega) hy.prof fun t ht => by rw [hv.val t ht, e]; omega⟩
/-- two whiles that follow one another -/
theorem add_join {l : List StepD} {a b c k : Int} (h : addE l a b k = 0) (hn : l.length ≤ 900) (h2 : addE (addL l a b k) b c k = 0) :
    addE l a c k = 0 ∧ addL l a c k = addL (addL l a b k) b c k ∧ addE l b c k = 0 ∧ addE (addL l b c k) a b k = 0 ∧ addL (addL l b c k) a b k = addL (addL l a b k) b c k := by
  have hy := addE_iff.1 h
  have hv := add_yes h (by omega)
  have hlen := hv.len
  have hy2 := addE_iff.1 h2
  have hv2 := add_yes h2 (by omega)
  have hbc := hy2.ab
  have hab := hy.ab
  have e1 : ∀ t, inW a c k t = inW a b k t + inW b c k t := fun t => by unfold inW; split <;> split <;> split <;> omega
  have hall : ∀ t, 0 ≤ t → 0 ≤ valF 0 l t + inW a b k t + inW b c k t ∧ valF 0 l t + inW a b k t + inW b c k t ≤ 10000 := fun t ht => by
    have := hy2.ok t ht
    rw [hv.val t ht] at this
    exact this
  have n1 : addE l a c k = 0 := addE_iff.2 ⟨hy.prof, hy.ta, hy2.tb, by omega, hy.kk, fun t ht => by rw [e1]; have := hall t ht; omega⟩
  have n2 : addE l b c k = 0 := addE_iff.2 ⟨hy.prof, hy.tb, hy2.tb, hbc, hy.kk, fun t ht => by
    have h1 := hall t ht
    have h2 := hy.prof.bd ht
    unfold inW at h1 ⊢
    split <;> omega⟩
  have hv3 := add_yes n2 (by omega)
  have hlen3 := hv3.len
  have n3 : addE (addL l b c k) a b k = 0 := addE_iff.2 ⟨hv3.prof, hy.ta, hy.tb, hab, hy.kk, fun t ht => by rw [hv3.val t ht]; have := hall t ht; omega⟩
  refine ⟨n1, add_eq n1 (by omega) hv2.prof fun t ht => ?_, n2, n3, add_eq n3 (by omega) hv2.prof fun t ht => ?_⟩
  · rw [hv2.val t ht, hv.val t ht, e1]; omega
  · rw [hv2.val t ht, hv.val t ht, hv3.val t ht]; omega
theorem Prof.chkE {l : List StepD} (h : Prof l) : chkE l = 0 := by unfold Go.Proofs.Ytapojmniokdjfaa.chkE; rw [if_pos (chkD_prof.2 h)]
/-- what is free at a time, with more -/
theorem add_at {l : List StepD} {a b k : Int} (h : addE l a b k = 0) (hn : l.length ≤ 1000) (t : Int) : atV (addL l a b k) t = atV l t + inW a b k t := by
  have hy := addE_iff.1 h
  have hv := add_yes h hn
  unfold atV
  cases ht : Clk.isT t
  · rw [if_neg (by simp), if_neg (by simp)]
    rcases Clk.isT_no ht with q | q
    · have h1 := hy.ta; unfold inW; rw [if_neg (by omega)]; rfl
    · have h1 := hy.tb; unfold inW; rw [if_neg (by omega)]; rfl
  · rw [if_pos ⟨chkD_prof.2 hv.prof, rfl⟩, if_pos ⟨chkD_prof.2 hy.prof, rfl⟩]
    exact hv.val t (Clk.isT_bd ht).1
end Go.Proofs.Ytapojmniokdjfaa.Stp

