/- What Tidy makes of any steps, in plain words: the last step of each time, none that changes nothing; one form. No program. -/
import Derived.Test.YtapojmniokdjfaaTidSymP
import Derived.Test.YtapojmniokdjfaaStpH
namespace Go.Proofs.Ytapojmniokdjfaa.Srt
open Stp (tdF)
set_option linter.unusedVariables false
def lastAt (X : List StepD) (a : Int) : Option StepD := (X.filter (fun s => decide (s.at_ = a))).getLast?
theorem lastAt_mem {X : List StepD} {a : Int} {s : StepD} (h : lastAt X a = some s) : s ∈ X ∧ s.at_ = a := by
  have := List.mem_of_getLast? h
  rw [List.mem_filter, decide_eq_true_eq] at this
  exact this
theorem lastAt_ex {X : List StepD} {u : StepD} (h : u ∈ X) : ∃ s, lastAt X u.at_ = some s := by
  have : X.filter (fun s => decide (s.at_ = u.at_)) ≠ [] := List.ne_nil_of_mem (List.mem_filter.2 ⟨h, by simp⟩)
  exact ⟨_, List.getLast?_eq_some_getLast this⟩
structure IsTv (X : List StepD) (t : Int) (s : StepD) : Prop where
  le : s.at_ ≤ t
  last : lastAt X s.at_ = some s
  top : ∀ u ∈ X, u.at_ ≤ t → u.at_ ≤ s.at_
def NoTv (X : List StepD) (t : Int) : Prop := ∀ u ∈ X, t < u.at_
theorem top_ex : ∀ (X : List StepD) (t : Int), NoTv X t ∨ ∃ s ∈ X, s.at_ ≤ t ∧ ∀ u ∈ X, u.at_ ≤ t → u.at_ ≤ s.at_
  | [], t => Or.inl fun u h => by cases h
  | a :: X, t => by
    by_cases ha : a.at_ ≤ t
    · rcases top_ex X t with h | ⟨s, hs, h1, h2⟩
      · refine Or.inr ⟨a, by simp, ha, fun u hu hut => ?_⟩
        rcases List.mem_cons.1 hu with rfl | hu
        · exact Int.le_refl _
        · have := h u hu; omega
      · by_cases hc : a.at_ ≤ s.at_
        · refine Or.inr ⟨s, by simp [hs], h1, fun u hu hut => ?_⟩
          rcases List.mem_cons.1 hu with rfl | hu
          · exact hc
          · exact h2 u hu hut
        · refine Or.inr ⟨a, by simp, ha, fun u hu hut => ?_⟩
          rcases List.mem_cons.1 hu with rfl | hu
          · exact Int.le_refl _
          · have := h2 u hu hut; omega
    · rcases top_ex X t with h | ⟨s, hs, h1, h2⟩
      · refine Or.inl fun u hu => ?_
        rcases List.mem_cons.1 hu with rfl | hu
        · omega
        · exact h u hu
      · refine Or.inr ⟨s, by simp [hs], h1, fun u hu hut => ?_⟩
        rcases List.mem_cons.1 hu with rfl | hu
        · omega
        · exact h2 u hu hut
theorem tv_ex (X : List StepD) (t : Int) : NoTv X t ∨ ∃ s, IsTv X t s := by
  rcases top_ex X t with h | ⟨s, hs, h1, h2⟩
  · exact Or.inl h
  · obtain ⟨r, hr⟩ := lastAt_ex hs
    have e := (lastAt_mem hr).2
    exact Or.inr ⟨r, by omega, by rw [e]; exact hr, fun u hu hut => by rw [e]; exact h2 u hu hut⟩
/-- R is X, tidied -/
structure TidyOf (lo d : Int) (X R : List StepD) : Prop where
  norm : Norm lo d R
  last : ∀ T, lo < T → (∀ u ∈ X, u.at_ < T) → lastA lo R < T
  val : ∀ t s, IsTv X t s → valF d R t = s.fr
  non : ∀ t, NoTv X t → valF d R t = d
theorem TidyOf.nil (lo d : Int) : TidyOf lo d [] [] := ⟨trivial, fun T h _ => h, fun t s h => (by have := (lastAt_mem h.last).1; cases this), fun t _ => rfl⟩
theorem TidyOf.uniq {lo d : Int} {X R R' : List StepD} (h : TidyOf lo d X R) (k : TidyOf lo d X R') : R = R' :=
  _root_.Go.Proofs.Ytapojmniokdjfaa.uniq _ _ lo d h.norm k.norm fun t _ => by
    rcases tv_ex X t with q | ⟨s, q⟩
    · rw [h.non t q, k.non t q]
    · rw [h.val t s q, k.val t s q]
theorem TidyOf.put {lo d : Int} {X X' R : List StepD} {s : StepD} (h : TidyOf lo d X R) (hT : lo < s.at_) (hX : ∀ u ∈ X, u.at_ < s.at_) (hd : s.fr ≠ d)
    (hm : ∀ u ∈ X', u ∈ X ∨ u.at_ = s.at_) (hm2 : ∀ u ∈ X, u ∈ X') (hf : ∀ a, a ≠ s.at_ → lastAt X' a = lastAt X a) (hl : lastAt X' s.at_ = some s) : TidyOf lo d X' (putD R s) := by
  have hA := h.last s.at_ hT hX
  have hsX := (lastAt_mem hl).1
  refine ⟨put_norm h.norm hA hd, fun T h1 h2 => ?_, fun t r hr => ?_, fun t ht => ?_⟩
  · have := put_lastA (l := R) (s := s) hA
    have := h2 s hsX
    omega
  · rw [put_val h.norm.rise hA]
    by_cases e : r.at_ = s.at_
    · have := hr.last
      rw [e, hl] at this
      injection this with this
      subst this
      rw [if_pos hr.le]
    · have hrX : r ∈ X := by
        rcases hm r (lastAt_mem hr.last).1 with q | q
        · exact q
        · exact absurd q e
      have hlt := hX r hrX
      have ht : ¬ s.at_ ≤ t := fun q => by have := hr.top s hsX q; omega
      rw [if_neg ht]
      exact h.val t r ⟨hr.le, by rw [← hf _ e]; exact hr.last, fun u hu hut => hr.top u (hm2 u hu) hut⟩
  · rw [put_val h.norm.rise hA, if_neg (by have := ht s hsX; omega)]
    exact h.non t fun u hu => ht u (hm2 u hu)
theorem lastAt_fq {X Y : List StepD} (h : Fq X Y) (a : Int) : lastAt Y a = lastAt X a := by unfold lastAt; rw [h a]
theorem mem_fq {X Y : List StepD} (h : Fq X Y) (u : StepD) : u ∈ Y ↔ u ∈ X := by
  have := h u.at_
  have e : ∀ L : List StepD, u ∈ L ↔ u ∈ L.filter (fun s => decide (s.at_ = u.at_)) := fun L => by simp [List.mem_filter]
  rw [e Y, e X, this]
theorem TidyOf.fq {lo d : Int} {X Y R : List StepD} (h : TidyOf lo d Y R) (k : Fq X Y) : TidyOf lo d X R := by
  refine ⟨h.norm, fun T h1 h2 => h.last T h1 fun u hu => h2 u ((mem_fq k u).1 hu), fun t s hs => h.val t s ⟨hs.le, by rw [lastAt_fq k]; exact hs.last, fun u hu => hs.top u ((mem_fq k u).1 hu)⟩, fun t ht => h.non t fun u hu => ht u ((mem_fq k u).1 hu)⟩
/-- those ahead of a time -/
def ahd (X : List StepD) (T : Int) : List StepD := X.filter (fun s => decide (s.at_ < T))
theorem mem_ahd {X : List StepD} {T : Int} {u : StepD} : u ∈ ahd X T ↔ u ∈ X ∧ u.at_ < T := by simp [ahd]
theorem lastAt_ahd {X : List StepD} {T a : Int} (h : a < T) : lastAt (ahd X T) a = lastAt X a := by
  unfold lastAt ahd
  rw [List.filter_filter]
  congr 1
  apply List.filter_congr
  intro s _
  by_cases q : s.at_ = a
  · simp [q, h]
  · simp [q]
theorem lastAt_no {X : List StepD} {a : Int} (h : ∀ u ∈ X, u.at_ ≠ a) : lastAt X a = none := by
  unfold lastAt
  rw [List.filter_eq_nil_iff.2 (fun u hu => by rw [decide_eq_true_eq]; exact h u hu)]
  rfl
/-- on to the next time that anything has -/
theorem TidyOf.next {lo d T : Int} {X R : List StepD} {s : StepD} (h : TidyOf lo d (ahd X s.at_) R) (hT : lo < s.at_) (hd : s.fr ≠ d) (hl : lastAt X s.at_ = some s) (hs : s.at_ < T) (hn : ∀ u ∈ X, s.at_ < u.at_ → T ≤ u.at_) : TidyOf lo d (ahd X T) (putD R s) := by
  refine h.put hT (fun u hu => (mem_ahd.1 hu).2) hd (fun u hu => ?_) (fun u hu => ?_) (fun a ha => ?_) ?_
  · obtain ⟨h1, h2⟩ := mem_ahd.1 hu
    by_cases c : u.at_ < s.at_
    · exact Or.inl (mem_ahd.2 ⟨h1, c⟩)
    · right
      by_cases e : u.at_ = s.at_
      · exact e
      · have := hn u h1 (by omega); omega
  · obtain ⟨h1, h2⟩ := mem_ahd.1 hu
    exact mem_ahd.2 ⟨h1, by omega⟩
  · by_cases c : a < s.at_
    · rw [lastAt_ahd c, lastAt_ahd (by omega)]
    · rw [lastAt_no (X := ahd X s.at_) (fun u hu => by have := (mem_ahd.1 hu).2; omega), lastAt_no]
      intro u hu e
      obtain ⟨h1, h2⟩ := mem_ahd.1 hu
      have := hn u h1 (by omega)
      omega
  · rw [lastAt_ahd hs]; exact hl
theorem ahd_all {X : List StepD} {T : Int} (h : ∀ u ∈ X, u.at_ < T) : ahd X T = X := List.filter_eq_self.2 (fun u hu => by rw [decide_eq_true_eq]; exact h u hu)
theorem big_ex : ∀ X : List StepD, ∃ T : Int, ∀ u ∈ X, u.at_ < T ∧ u.fr < T
  | [] => ⟨0, fun u h => by cases h⟩
  | a :: X => by
    obtain ⟨T, hT⟩ := big_ex X
    refine ⟨(if T ≤ a.at_ then a.at_ + 1 else T) + (if T ≤ a.fr then a.fr - T + 1 else 0), fun u hu => ?_⟩
    rcases List.mem_cons.1 hu with rfl | hu
    · constructor <;> split <;> split <;> omega
    · have := hT u hu
      constructor <;> split <;> split <;> omega
theorem low_ex : ∀ X : List StepD, ∃ T : Int, ∀ u ∈ X, T < u.at_
  | [] => ⟨0, fun u h => by cases h⟩
  | a :: X => by
    obtain ⟨T, hT⟩ := low_ex X
    refine ⟨if T < a.at_ then T else a.at_ - 1, fun u hu => ?_⟩
    rcases List.mem_cons.1 hu with rfl | hu
    · split <;> omega
    · have := hT u hu
      split <;> omega
theorem tdF_of {lo d : Int} {Y : List StepD} (hlo : ∀ u ∈ Y, lo < u.at_) (hd : ∀ u ∈ Y, u.fr ≠ d) : ∀ (L P out : List StepD), Y = P ++ L → L.Pairwise (fun a b => a.at_ ≤ b.at_) → (∀ s, L.head? = some s → TidyOf lo d (ahd Y s.at_) out ∧ ∀ u ∈ P, u.at_ ≤ s.at_) → L ≠ [] → TidyOf lo d Y (tdF out L)
  | [], P, out, e, hp, H, hne => absurd rfl hne
  | [s], P, out, e, hp, H, hne => by
    obtain ⟨h1, h2⟩ := H s rfl
    have hs : s ∈ Y := by rw [e]; simp
    obtain ⟨T, hT⟩ := big_ex Y
    have hl : lastAt Y s.at_ = some s := by unfold lastAt; rw [e, List.filter_append]; simp
    have := h1.next (T := T) (hlo s hs) (hd s hs) hl (hT s hs).1 fun u hu hlt => by
      rw [e] at hu
      rcases List.mem_append.1 hu with q | q
      · have := h2 u q; omega
      · simp at q; subst q; omega
    rwa [ahd_all fun u hu => (hT u hu).1] at this
  | s :: u :: L, P, out, e, hp, H, hne => by
    obtain ⟨h1, h2⟩ := H s rfl
    have hs : s ∈ Y := by rw [e]; simp
    rw [List.pairwise_cons] at hp
    obtain ⟨hp1, hp2⟩ := hp
    have hsu := hp1 u (by simp)
    have hP : ∀ v ∈ P ++ [s], v.at_ ≤ u.at_ := fun v hv => by
      rcases List.mem_append.1 hv with q | q
      · have := h2 v q; omega
      · simp at q; subst q; exact hsu
    have eY : Y = (P ++ [s]) ++ (u :: L) := by rw [e]; simp
    show TidyOf lo d Y (if u.at_ = s.at_ then tdF out (u :: L) else tdF (putD out s) (u :: L))
    by_cases c : u.at_ = s.at_
    · rw [if_pos c]
      exact tdF_of hlo hd (u :: L) (P ++ [s]) out eY hp2 (fun x hx => by injection hx with hx; subst hx; exact ⟨by rw [c]; exact h1, hP⟩) (by simp)
    · rw [if_neg c]
      have hlt : s.at_ < u.at_ := by omega
      have hge : ∀ v ∈ u :: L, u.at_ ≤ v.at_ := fun v hv => by
        rcases List.mem_cons.1 hv with rfl | q
        · exact Int.le_refl _
        · exact (List.pairwise_cons.1 hp2).1 v q
      have hl : lastAt Y s.at_ = some s := by
        unfold lastAt
        have h0 : (u :: L).filter (fun v => decide (v.at_ = s.at_)) = [] := List.filter_eq_nil_iff.2 (fun v hv => by rw [decide_eq_true_eq]; have := hge v hv; omega)
        rw [eY, List.filter_append, List.filter_append, h0]
        simp
      have hn := h1.next (T := u.at_) (hlo s hs) (hd s hs) hl hlt fun v hv hvs => by
        rw [eY] at hv
        rcases List.mem_append.1 hv with q | q
        · rcases List.mem_append.1 q with q | q
          · have := h2 v q; omega
          · simp at q; subst q; omega
        · exact hge v q
      exact tdF_of hlo hd (u :: L) (P ++ [s]) (putD out s) eY hp2 (fun x hx => by injection hx with hx; subst hx; exact ⟨hn, hP⟩) (by simp)
theorem pair_of {Y : List StepD} {n : Nat} (hn : Y.length = n) (h : SrtOn Y 0 n) : Y.Pairwise (fun a b => a.at_ ≤ b.at_) := by
  rw [List.pairwise_iff_getElem]
  intro i j hi hj hij
  have := h i j (Nat.zero_le _) hij (by omega)
  rwa [atK_of (List.getElem?_eq_getElem hi), atK_of (List.getElem?_eq_getElem hj)] at this
/-- sorted, then the last of each time: what Tidy says -/
theorem tdF_tidy {lo d : Int} {X Y : List StepD} {n : Nat} (hn : Y.length = n) (hs : SrtOn Y 0 n) (hf : Fq X Y) (hlo : ∀ u ∈ X, lo < u.at_) (hd : ∀ u ∈ X, u.fr ≠ d) : TidyOf lo d X (tdF [] Y) := by
  have hm := mem_fq hf
  cases Y with
  | nil =>
    cases X with
    | nil => exact TidyOf.nil lo d
    | cons a X => have := (hm a).2 (by simp); cases this
  | cons s L =>
    refine (tdF_of (fun u hu => hlo u ((hm u).1 hu)) (fun u hu => hd u ((hm u).1 hu)) (s :: L) [] [] rfl (pair_of hn hs) (fun x hx => ?_) (by simp)).fq hf
    injection hx with hx
    subst hx
    refine ⟨?_, fun u h => by cases h⟩
    have : ahd (s :: L) s.at_ = [] := by
      unfold ahd
      rw [List.filter_eq_nil_iff]
      intro v hv
      rw [decide_eq_true_eq]
      rcases List.mem_cons.1 hv with rfl | q
      · omega
      · have := (List.pairwise_cons.1 (pair_of hn hs)).1 v q; omega
    rw [this]
    exact TidyOf.nil lo d
/-- what is tidy stays as it is -/
theorem tidy_self : ∀ {R : List StepD} {lo d : Int}, Norm lo d R → TidyOf lo d R R := by
  intro R lo d h
  have hr := h.rise
  have key : ∀ (R : List StepD) (lo d : Int), Rise lo R → (∀ t s, IsTv R t s → valF d R t = s.fr) ∧ (∀ t, NoTv R t → valF d R t = d) := by
    intro R
    induction R with
    | nil => exact fun lo d _ => ⟨fun t s h => (by have := (lastAt_mem h.last).1; cases this), fun t _ => rfl⟩
    | cons a R ih =>
      intro lo d hr
      obtain ⟨i1, i2⟩ := ih a.at_ a.fr hr.2
      have hup : ∀ (L : List StepD) (lo : Int), Rise lo L → ∀ u ∈ L, lo < u.at_ := by
        intro L
        induction L with
        | nil => exact fun _ _ u h => by cases h
        | cons b L ihL =>
          intro lo hl u hu
          rcases List.mem_cons.1 hu with rfl | hu
          · exact hl.1
          · have := ihL b.at_ hl.2 u hu; have := hl.1; omega
      have hgt := hup R a.at_ hr.2
      refine ⟨fun t s hs => ?_, fun t ht => val_ahead (ht a (by simp))⟩
      by_cases hat : a.at_ ≤ t
      · rw [val_cons hat]
        by_cases e : s.at_ = a.at_
        · have hl := hs.last
          rw [e] at hl
          have h0 : lastAt (a :: R) a.at_ = some a := by
            unfold lastAt
            rw [List.filter_cons, if_pos (by simp), List.filter_eq_nil_iff.2 (fun v hv => by rw [decide_eq_true_eq]; have := hgt v hv; omega)]
            rfl
          rw [h0] at hl
          injection hl with hl
          subst hl
          exact i2 t fun u hu => by
            have := hgt u hu
            by_cases q : u.at_ ≤ t
            · have := hs.top u (by simp [hu]) q; omega
            · omega
        · refine i1 t s ⟨hs.le, ?_, fun u hu hut => hs.top u (by simp [hu]) hut⟩
          have hl := hs.last
          unfold lastAt at hl ⊢
          rwa [List.filter_cons, if_neg (by rw [decide_eq_true_eq]; exact fun q => e q.symm)] at hl
      · exfalso
        have h1 := (lastAt_mem hs.last).1
        have := hs.le
        rcases List.mem_cons.1 h1 with rfl | q
        · omega
        · have := hgt s q; omega
  obtain ⟨k1, k2⟩ := key R lo d hr
  refine ⟨h, fun T hT hu => ?_, k1, k2⟩
  have : ∀ (L : List StepD) (lo : Int), lo < T → (∀ u ∈ L, u.at_ < T) → lastA lo L < T := by
    intro L
    induction L with
    | nil => exact fun lo h _ => h
    | cons a L ih => exact fun lo h hu => ih a.at_ (hu a (by simp)) (fun u h => hu u (by simp [h]))
  exact this R lo hT hu
end Go.Proofs.Ytapojmniokdjfaa.Srt

