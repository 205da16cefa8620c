/- The document's Tidy, round by round, in plain words. No program. -/
import Derived.Test.YtldmkbmkjdnaaaaTidOf
namespace Go.Proofs.Ytldmkbmkjdnaaaa.Srt
set_option linter.unusedVariables false
/-- the places of those ahead of T are done -/
structure DoneI (l : List StepD) (T : Int) (dn : List Int) : Prop where
  mem : ∀ (i : Nat) s, l[i]? = some s → ((i : Int) ∈ dn ↔ s.at_ < T)
  len : dn.length = (ahd l T).length
theorem DoneI.nil {l : List StepD} {T : Int} (h : ∀ u ∈ l, T ≤ u.at_) : DoneI l T [] := by
  refine ⟨fun i s hs => ⟨fun h => (by cases h), fun ht => ?_⟩, ?_⟩
  · have := h s (List.mem_of_getElem? hs); omega
  · unfold ahd; rw [List.filter_eq_nil_iff.2 (fun u hu => by rw [decide_eq_true_eq]; have := h u hu; omega)]; rfl
theorem ahd_len (l : List StepD) (T : Int) : (ahd l T).length ≤ l.length := List.length_filter_le _ _
theorem ahd_full {l : List StepD} {T : Int} (h : (ahd l T).length = l.length) : ahd l T = l := ahd_all fun u hu => by
  have := (List.length_filter_eq_length_iff.1 h) u hu
  rwa [decide_eq_true_eq] at this
/-- the first one of the least, of those that are not done -/
def BestI (l : List StepD) (T : Int) (i : Nat) (B : Int) : Prop := (B = -1 ∧ ∀ j s, j < i → l[j]? = some s → s.at_ < T) ∨ (∃ (b : Nat) (sb : StepD), B = (b : Int) ∧ b < i ∧ l[b]? = some sb ∧ T ≤ sb.at_ ∧ ∀ j s, j < i → l[j]? = some s → T ≤ s.at_ → sb.at_ ≤ s.at_)
theorem BestI.skip {l : List StepD} {T B : Int} {i : Nat} {s : StepD} (h : BestI l T i B) (hs : l[i]? = some s) (ht : s.at_ < T) : BestI l T (i + 1) B := by
  rcases h with ⟨e, h⟩ | ⟨b, sb, e, hb, hsb, h1, h2⟩
  · refine Or.inl ⟨e, fun j u hj hu => ?_⟩
    by_cases c : j = i
    · subst c; rw [hs] at hu; injection hu with hu; subst hu; exact ht
    · exact h j u (by omega) hu
  · refine Or.inr ⟨b, sb, e, by omega, hsb, h1, fun j u hj hu hT => ?_⟩
    by_cases c : j = i
    · subst c; rw [hs] at hu; injection hu with hu; subst hu; omega
    · exact h2 j u (by omega) hu hT
theorem BestI.take {l : List StepD} {T B : Int} {i : Nat} {s : StepD} (h : BestI l T i B) (hs : l[i]? = some s) (ht : T ≤ s.at_) (hB : B = -1 ∨ ∃ (b : Nat) (sb : StepD), B = (b : Int) ∧ l[b]? = some sb ∧ s.at_ ≤ sb.at_) : BestI l T (i + 1) (i : Int) := by
  refine Or.inr ⟨i, s, rfl, by omega, hs, ht, fun j u hj hu hT => ?_⟩
  by_cases c : j = i
  · subst c; rw [hs] at hu; injection hu with hu; subst hu; exact Int.le_refl _
  · rcases h with ⟨e, h⟩ | ⟨b, sb, e, hb, hsb, h1, h2⟩
    · have := h j u (by omega) hu; omega
    · have := h2 j u (by omega) hu hT
      rcases hB with q | ⟨b', sb', q, hb', q2⟩
      · omega
      · obtain rfl : b = b' := by omega
        rw [hsb] at hb'; injection hb' with hb'; subst hb'; omega
theorem BestI.keep {l : List StepD} {T : Int} {i b : Nat} {s sb : StepD} (h : BestI l T i (b : Int)) (hs : l[i]? = some s) (hsb : l[b]? = some sb) (hge : sb.at_ ≤ s.at_) : BestI l T (i + 1) (b : Int) := by
  rcases h with ⟨e, h⟩ | ⟨b', sb', e, hb, hsb', h1, h2⟩
  · omega
  · obtain rfl : b = b' := by omega
    rw [hsb] at hsb'; injection hsb' with hsb'; subst hsb'
    refine Or.inr ⟨b, sb, rfl, by omega, hsb, h1, fun j u hj hu hT => ?_⟩
    by_cases c : j = i
    · subst c; rw [hs] at hu; injection hu with hu; subst hu; exact hge
    · exact h2 j u (by omega) hu hT
theorem BestI.done {l : List StepD} {T B : Int} {dn : List Int} {n : Nat} (hn : l.length = n) (h : BestI l T n B) (hd : DoneI l T dn) (hlt : dn.length < n) : ∃ (b : Nat) (sb : StepD), B = (b : Int) ∧ b < n ∧ l[b]? = some sb ∧ T ≤ sb.at_ ∧ ∀ u ∈ l, T ≤ u.at_ → sb.at_ ≤ u.at_ := by
  rcases h with ⟨e, h⟩ | ⟨b, sb, e, hb, hsb, h1, h2⟩
  · have : ahd l T = l := ahd_all fun u hu => by
      obtain ⟨j, hj⟩ := List.mem_iff_getElem?.1 hu
      exact h j u (by have := (List.getElem?_eq_some_iff.1 hj).1; omega) hj
    have hl := hd.len
    rw [this] at hl
    omega
  · refine ⟨b, sb, e, hb, hsb, h1, fun u hu hT => ?_⟩
    obtain ⟨j, hj⟩ := List.mem_iff_getElem?.1 hu
    exact h2 j u (by have := (List.getElem?_eq_some_iff.1 hj).1; omega) hj hT
/-- all of one time are taken, the last of them kept -/
structure PickI (l : List StepD) (a : Int) (dn0 : List Int) (j : Nat) (s : StepD) (dn : List Int) : Prop where
  at_ : s.at_ = a
  last : lastAt (l.take j) a = none ∨ lastAt (l.take j) a = some s
  mem : ∀ (i : Nat) u, l[i]? = some u → ((i : Int) ∈ dn ↔ (i : Int) ∈ dn0 ∨ (i < j ∧ u.at_ = a))
  len : dn.length = dn0.length + ((l.take j).filter (fun s => decide (s.at_ = a))).length
theorem PickI.start {l : List StepD} {a : Int} {dn0 : List Int} {s : StepD} (h : s.at_ = a) : PickI l a dn0 0 s dn0 :=
  ⟨h, Or.inl rfl, fun i u hu => ⟨Or.inl, fun q => by rcases q with q | q; exact q; omega⟩, by simp⟩
theorem PickI.skip {l : List StepD} {a : Int} {dn0 dn : List Int} {j : Nat} {s u : StepD} (h : PickI l a dn0 j s dn) (hu : l[j]? = some u) (hne : u.at_ ≠ a) : PickI l a dn0 (j + 1) s dn := by
  have e : (l.take (j + 1)).filter (fun s => decide (s.at_ = a)) = (l.take j).filter (fun s => decide (s.at_ = a)) := by
    rw [List.take_add_one, hu, List.filter_append]; simp [hne]
  refine ⟨h.at_, ?_, fun i v hv => ?_, by rw [e]; exact h.len⟩
  · unfold lastAt; rw [e]; exact h.last
  · rw [h.mem i v hv]
    constructor
    · rintro (q | ⟨q1, q2⟩)
      · exact Or.inl q
      · exact Or.inr ⟨by omega, q2⟩
    · rintro (q | ⟨q1, q2⟩)
      · exact Or.inl q
      · by_cases c : i = j
        · subst c; rw [hu] at hv; injection hv with hv; subst hv; exact absurd q2 hne
        · exact Or.inr ⟨by omega, q2⟩
theorem PickI.take {l : List StepD} {a : Int} {dn0 dn : List Int} {j : Nat} {s u : StepD} (h : PickI l a dn0 j s dn) (hu : l[j]? = some u) (he : u.at_ = a) : PickI l a dn0 (j + 1) u (dn ++ [(j : Int)]) := by
  have e : (l.take (j + 1)).filter (fun s => decide (s.at_ = a)) = (l.take j).filter (fun s => decide (s.at_ = a)) ++ [u] := by
    rw [List.take_add_one, hu, List.filter_append]; simp [he]
  refine ⟨he, Or.inr ?_, fun i v hv => ?_, ?_⟩
  · unfold lastAt; rw [e]; simp
  · rw [List.mem_append, h.mem i v hv, List.mem_singleton]
    constructor
    · rintro ((q | ⟨q1, q2⟩) | q)
      · exact Or.inl q
      · exact Or.inr ⟨by omega, q2⟩
      · obtain rfl : i = j := by omega
        rw [hu] at hv; injection hv with hv; subst hv
        exact Or.inr ⟨by omega, he⟩
    · rintro (q | ⟨q1, q2⟩)
      · exact Or.inl (Or.inl q)
      · by_cases c : i = j
        · exact Or.inr (by rw [c])
        · exact Or.inl (Or.inr ⟨by omega, q2⟩)
  · rw [e, List.length_append, List.length_append, h.len]; simp; omega
theorem ahd_add : ∀ (l : List StepD) (T a : Int), T ≤ a → (∀ u ∈ l, T ≤ u.at_ → a ≤ u.at_) → (ahd l (a + 1)).length = (ahd l T).length + (l.filter (fun s => decide (s.at_ = a))).length
  | [], T, a, _, _ => rfl
  | u :: l, T, a, hT, h => by
    have ih := ahd_add l T a hT fun v hv => h v (by simp [hv])
    have hu := h u (by simp)
    unfold ahd at ih ⊢
    by_cases c1 : u.at_ < T
    · rw [List.filter_cons, if_pos (by rw [decide_eq_true_eq]; omega), List.filter_cons, if_pos (by rw [decide_eq_true_eq]; exact c1), List.filter_cons, if_neg (by rw [decide_eq_true_eq]; omega)]
      simp only [List.length_cons]; omega
    · by_cases c2 : u.at_ = a
      · rw [List.filter_cons, if_pos (by rw [decide_eq_true_eq]; omega), List.filter_cons, if_neg (by rw [decide_eq_true_eq]; exact c1), List.filter_cons, if_pos (by rw [decide_eq_true_eq]; exact c2)]
        simp only [List.length_cons]; omega
      · have := hu (by omega)
        rw [List.filter_cons, if_neg (by rw [decide_eq_true_eq]; omega), List.filter_cons, if_neg (by rw [decide_eq_true_eq]; exact c1), List.filter_cons, if_neg (by rw [decide_eq_true_eq]; exact c2)]
        exact ih
theorem PickI.done {l out : List StepD} {T : Int} {dn0 dn : List Int} {n b : Nat} {s sb : StepD} (hn : l.length = n) (hd : DoneI l T dn0) (hb : l[b]? = some sb) (hT : T ≤ sb.at_) (hmin : ∀ u ∈ l, T ≤ u.at_ → sb.at_ ≤ u.at_) (h : PickI l sb.at_ dn0 n s dn) :
    DoneI l (s.at_ + 1) dn ∧ dn0.length < dn.length ∧ (∀ lo d, lo < s.at_ → s.fr ≠ d → TidyOf lo d (ahd l T) out → TidyOf lo d (ahd l (s.at_ + 1)) (putD out s)) ∧ s ∈ l := by
  obtain ⟨h1, h2, h3, h4⟩ := h
  rw [List.take_of_length_le (by omega)] at h2 h4
  have hmb : sb ∈ l := List.mem_of_getElem? hb
  obtain ⟨r, hr⟩ := lastAt_ex hmb
  have hl : lastAt l sb.at_ = some s := by
    rcases h2 with q | q
    · rw [q] at hr; cases hr
    · exact q
  have hpos : 0 < (l.filter (fun s => decide (s.at_ = sb.at_))).length := List.length_pos_of_mem (List.mem_filter.2 ⟨hmb, by simp⟩)
  refine ⟨⟨fun i u hu => ?_, ?_⟩, by omega, fun lo d q1 q2 q3 => ?_, (lastAt_mem hl).1⟩
  · have hm := hmin u (List.mem_of_getElem? hu)
    have hlt : i < n := by have := (List.getElem?_eq_some_iff.1 hu).1; omega
    rw [h3 i u hu, hd.mem i u hu, h1]
    constructor
    · rintro (q | ⟨_, q⟩) <;> omega
    · intro q
      by_cases c : u.at_ < T
      · exact Or.inl c
      · exact Or.inr ⟨hlt, by have := hm (by omega); omega⟩
  · rw [h4, hd.len, h1, ahd_add l T sb.at_ hT hmin]
  · have e : ahd l T = ahd l s.at_ := by
      unfold ahd
      apply List.filter_congr
      intro u hu
      have hm := hmin u hu
      by_cases c : u.at_ < T
      · rw [decide_eq_true c, decide_eq_true (by omega)]
      · have := hm (by omega)
        rw [decide_eq_false c, decide_eq_false (by omega)]
    rw [e] at q3
    exact q3.next q1 q2 (by rw [h1]; exact hl) (by omega) fun u _ hu => by omega
end Go.Proofs.Ytldmkbmkjdnaaaa.Srt

