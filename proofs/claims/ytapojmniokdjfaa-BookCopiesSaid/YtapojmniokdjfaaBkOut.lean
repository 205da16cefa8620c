/- Layer 11. -/
import Derived.Test.YtapojmniokdjfaaBkRel
import Derived.Test.YtapojmniokdjfaaBkT
import Derived.Test.YtapojmniokdjfaaBkS
/- Layer 11 in plain words: what nodes that go out leave. No program. -/
namespace Go.Proofs.Ytapojmniokdjfaa.Bk
open Stp (inW val_elem prof_uniq)
open Srt (TidyOf IsTv NoTv top_ex)
set_option linter.unusedVariables false

theorem val_is {X : List StepD} {lo d t : Int} {s : StepD} (h : Rise lo X) (hs : s ∈ X) (hst : s.at_ ≤ t) (ht : ∀ u ∈ X, u.at_ ≤ t → u.at_ ≤ s.at_) : valF d X t = s.fr := by
  rw [val_const h hst ht, val_elem h hs]
theorem val_no : ∀ {X : List StepD} {d t : Int}, (∀ u ∈ X, t < u.at_) → valF d X t = d
  | [], _, _, _ => rfl
  | s :: X, d, t, h => val_ahead (h s (by simp))
theorem givS_val {X : List StepD} {lo : Int} {s : SlotD} (hr : Rise lo X) (h1 : ∃ x ∈ X, x.at_ = s.fm) (h2 : ∃ x ∈ X, x.at_ = s.to) (t : Int) : valF 0 (givS X s) t = valF 0 X t + inW s.fm s.to s.nd t := by
  have hr2 : Rise lo (givS X s) := rise_of_at hr (givS_at X s)
  rcases top_ex X t with h | ⟨u, hu, hut, htop⟩
  · rw [val_no h, val_no (X := givS X s) (fun v hv => by
      obtain ⟨x, hx, rfl⟩ := List.mem_map.1 hv
      have := h x hx
      split <;> exact this)]
    obtain ⟨x, hx, e⟩ := h1
    have := h x hx
    unfold inW; rw [if_neg (by omega)]; rfl
  · rw [val_is hr hu hut htop]
    have hm : (if inS s u then (⟨u.at_, u.fr + s.nd⟩ : StepD) else u) ∈ givS X s := List.mem_map.2 ⟨u, hu, rfl⟩
    have hat : (if inS s u then (⟨u.at_, u.fr + s.nd⟩ : StepD) else u).at_ = u.at_ := by split <;> rfl
    rw [val_is hr2 hm (by rw [hat]; exact hut) (fun v hv hvt => by
      obtain ⟨x, hx, rfl⟩ := List.mem_map.1 hv
      have e : (if inS s x then (⟨x.at_, x.fr + s.nd⟩ : StepD) else x).at_ = x.at_ := by split <;> rfl
      rw [e] at hvt ⊢
      rw [hat]; exact htop x hx hvt)]
    have hin : inS s u ↔ s.fm ≤ t ∧ t < s.to := by
      unfold inS
      obtain ⟨x, hx, ex⟩ := h1
      obtain ⟨y, hy, ey⟩ := h2
      constructor
      · rintro ⟨c1, c2⟩
        refine ⟨by omega, ?_⟩
        rcases Int.lt_or_le t s.to with q | q
        · exact q
        · have := htop y hy (by omega); omega
      · rintro ⟨c1, c2⟩
        have := htop x hx (by omega)
        exact ⟨by omega, by omega⟩
    unfold inW
    by_cases c : inS s u
    · rw [if_pos c, if_pos (hin.1 c)]
    · rw [if_neg c, if_neg (fun q => c (hin.2 q))]; omega
/-- those that go, those that stay -/
def relH : List StepD → List SlotD → List SlotD
  | X, [] => []
  | X, s :: r => if hitS X s = true then s :: relH (givS X s) r else relH X r
def relK : List StepD → List SlotD → List SlotD
  | X, [] => []
  | X, s :: r => if hitS X s = true then relK (givS X s) r else s :: relK X r
theorem relG_map : ∀ (X : List StepD) (r : List SlotD), relG X r = (relH X r).map (·.id)
  | X, [] => rfl
  | X, s :: r => by
    simp only [relG, relH]
    split
    · simp [relG_map _ r]
    · exact relG_map X r
theorem tak_app (t : Int) : ∀ l m : List SlotD, takV (l ++ m) t = takV l t + takV m t
  | [], m => by simp [takV]
  | s :: l, m => by simp only [List.cons_append, takV, tak_app t l m]; omega
theorem tak_rev (t : Int) : ∀ l : List SlotD, takV l.reverse t = takV l t
  | [] => rfl
  | s :: l => by rw [List.reverse_cons, tak_app, tak_rev t l]; simp only [takV]; omega
theorem rel_tak (t : Int) : ∀ (X : List StepD) (r : List SlotD), takV r t = takV (relH X r) t + takV (relK X r) t
  | X, [] => rfl
  | X, s :: r => by
    simp only [relH, relK]
    split
    · simp only [takV, rel_tak t (givS X s) r]; omega
    · simp only [takV, rel_tak t X r]; omega
theorem rel_len : ∀ (X : List StepD) (r : List SlotD), (relH X r).length + (relK X r).length = r.length
  | X, [] => rfl
  | X, s :: r => by
    simp only [relH, relK]
    split
    · have := rel_len (givS X s) r; simp only [List.length_cons]; omega
    · have := rel_len X r; simp only [List.length_cons]; omega
theorem rel_mem : ∀ {X : List StepD} {r : List SlotD} {s : SlotD}, s ∈ r ↔ s ∈ relH X r ∨ s ∈ relK X r
  | X, [], s => by simp [relH, relK]
  | X, a :: r, s => by
    simp only [relH, relK]
    split
    · rw [List.mem_cons, rel_mem (X := givS X a), List.mem_cons]
      constructor
      · rintro (h | h | h) <;> simp [h]
      · rintro ((h | h) | h) <;> simp [h]
    · rw [List.mem_cons, rel_mem (X := X), List.mem_cons]
      constructor
      · rintro (h | h | h) <;> simp [h]
      · rintro (h | h | h) <;> simp [h]
theorem relK_sub : ∀ (X : List StepD) (r : List SlotD), (relK X r).Sublist r
  | X, [] => List.Sublist.refl _
  | X, s :: r => by
    simp only [relK]
    split
    · exact (relK_sub _ r).cons s
    · exact (relK_sub _ r).cons_cons s
theorem relH_sub : ∀ (X : List StepD) (r : List SlotD), (relH X r).Sublist r
  | X, [] => List.Sublist.refl _
  | X, s :: r => by
    simp only [relH]
    split
    · exact (relH_sub _ r).cons_cons s
    · exact (relH_sub _ r).cons s
def HasAt (X : List StepD) (r : List SlotD) : Prop := ∀ s ∈ r, (∃ x ∈ X, x.at_ = s.fm) ∧ ∃ x ∈ X, x.at_ = s.to
theorem has_of_at {X Y : List StepD} {a : Int} (e : Y.map (·.at_) = X.map (·.at_)) (h : ∃ x ∈ X, x.at_ = a) : ∃ y ∈ Y, y.at_ = a := by
  obtain ⟨x, hx, e2⟩ := h
  have : a ∈ Y.map (·.at_) := by rw [e]; exact List.mem_map.2 ⟨x, hx, e2⟩
  obtain ⟨y, hy, e3⟩ := List.mem_map.1 this
  exact ⟨y, hy, e3⟩
theorem relX_val {lo : Int} (t : Int) : ∀ (X : List StepD) (r : List SlotD), Rise lo X → HasAt X r → valF 0 (relX X r) t = valF 0 X t + takV (relH X r) t
  | X, [], _, _ => by simp [relX, relH, takV]
  | X, s :: r, hr, h => by
    simp only [relX, relH]
    obtain ⟨h1, h2⟩ := h s (by simp)
    have e := givS_at X s
    split
    · rw [relX_val t (givS X s) r (rise_of_at hr e) (fun u hu => ⟨has_of_at e (h u (by simp [hu])).1, has_of_at e (h u (by simp [hu])).2⟩), givS_val hr h1 h2]
      simp only [takV]; omega
    · exact relX_val t X r hr fun u hu => h u (by simp [hu])
/-- where one stays nothing is missing -/
theorem relK_ok {lo t : Int} (hpos : ∀ r : List SlotD, (∀ s ∈ r, 0 ≤ s.nd) → 0 ≤ takV r t) : ∀ (X : List StepD) (r : List SlotD), Rise lo X → HasAt X r → (∀ s ∈ r, 0 ≤ s.nd) → ∀ s ∈ relK X r, s.fm ≤ t → t < s.to → 0 ≤ valF 0 (relX X r) t
  | X, [], _, _, _, s, hs, _, _ => by cases hs
  | X, a :: r, hr, h, hn, s, hs, h1, h2 => by
    obtain ⟨e1, e2⟩ := h a (by simp)
    have e := givS_at X a
    simp only [relK, relX] at hs ⊢
    by_cases hh : hitS X a = true
    · rw [if_pos hh] at hs ⊢
      exact relK_ok hpos (givS X a) r (rise_of_at hr e) (fun u hu => ⟨has_of_at e (h u (by simp [hu])).1, has_of_at e (h u (by simp [hu])).2⟩) (fun u hu => hn u (by simp [hu])) s hs h1 h2
    · rw [if_neg hh] at hs ⊢
      rcases List.mem_cons.1 hs with rfl | hs
      · rw [relX_val t X r hr fun u hu => h u (by simp [hu])]
        have hp : 0 ≤ takV (relH X r) t := hpos _ fun u hu => hn u (by simp [(relH_sub X r).subset hu])
        have : 0 ≤ valF 0 X t := by
          rcases top_ex X t with q | ⟨u, hu, hut, htop⟩
          · rw [val_no q]; exact Int.le_refl _
          · rw [val_is hr hu hut htop]
            rcases Int.lt_or_le u.fr 0 with q | q
            · exfalso
              apply hh
              unfold hitS
              rw [List.any_eq_true]
              refine ⟨u, hu, ?_⟩
              simp only [Bool.and_eq_true, decide_eq_true_eq]
              refine ⟨?_, q⟩
              unfold inS
              obtain ⟨x, hx, ex⟩ := e1
              have := htop x hx (by omega)
              exact ⟨by omega, by omega⟩
            · exact q
        omega
      · exact relK_ok hpos X r hr (fun u hu => h u (by simp [hu])) (fun u hu => hn u (by simp [hu])) s hs h1 h2
theorem tak_cover : ∀ {r : List SlotD} {t : Int}, takV r t ≠ 0 → ∃ s ∈ r, s.fm ≤ t ∧ t < s.to
  | [], t, h => absurd rfl h
  | s :: r, t, h => by
    by_cases c : s.fm ≤ t ∧ t < s.to
    · exact ⟨s, by simp, c⟩
    · have e : inW s.fm s.to s.nd t = 0 := by unfold inW; rw [if_neg c]
      simp only [takV, e] at h
      obtain ⟨u, hu, q⟩ := tak_cover (r := r) (t := t) (by omega)
      exact ⟨u, by simp [hu], q⟩
theorem tak_pos {t : Int} : ∀ r : List SlotD, (∀ s ∈ r, 0 ≤ s.nd) → 0 ≤ takV r t
  | [], _ => Int.le_refl _
  | s :: r, h => by
    have h1 := tak_pos (t := t) r fun u hu => h u (by simp [hu])
    have h2 := h s (by simp)
    simp only [takV]; unfold inW; split <;> omega
/-- what Out leaves -/
structure OutP (N : Int) (F : List StepD) (L : List SlotD) (a b k : Int) (F' : List StepD) (L' : List SlotD) (ids : List Int) : Prop where
  prof : Prof F'
  val : ∀ t, 0 ≤ t → valF 0 F' t + takV L' t = lessV (fun t => valF 0 F t + takV L t) a b k t
  mem : ∀ s, s ∈ L' ↔ s ∈ L ∧ s.id ∉ ids
  rise : RiseI 0 L'
  len : ids.length + L'.length = L.length
  sub : ids.Sublist (L.map (·.id))
  exact_ : ∃ X0, Rise (-1) X0 ∧ HasAt X0 L ∧ (∀ t, 0 ≤ t → valF 0 X0 t = lessV (fun t => valF 0 F t + takV L t) a b k t - takV L t) ∧ ids = (relG X0 L.reverse).reverse
theorem rise_sub : ∀ {l m : List SlotD} {lo : Int}, RiseI lo m → l.Sublist m → RiseI lo l
  | _, _, lo, h, .slnil => trivial
  | l, a :: m, lo, ⟨h1, h2⟩, .cons _ h => (rise_sub h2 h).mono (by omega)
  | a :: l, _ :: m, lo, ⟨h1, h2⟩, .cons_cons _ h => ⟨h1, rise_sub h2 h⟩
theorem lessV_congr {f g : Int → Int} (a b k t : Int) (h : f t = g t) : lessV f a b k t = lessV g a b k t := by unfold lessV; rw [h]
theorem out_of {N : Int} {F S X0 F' : List StepD} {L : List SlotD} {T : List Int} {kk : Nat} {a b k : Int} (hI : BkI N F L T kk) (hk : 1 ≤ k) (hS : Prof S) (hSv : ∀ t, 0 ≤ t → valF 0 S t = lessV (fun t => valF 0 F t + takV L t) a b k t) (hX : PlusR S L (-1) X0)
    (hT : TidyOf (-1) DD (relX X0 L.reverse) F') (hn : F'.length ≤ 20000) : OutP N F L a b k F' (relK X0 L.reverse).reverse (relG X0 L.reverse).reverse := by
  have hat : HasAt X0 L := fun s hs => ⟨(hX.at_ s.fm).2 (Or.inr ⟨s, hs, Or.inl rfl⟩), (hX.at_ s.to).2 (Or.inr ⟨s, hs, Or.inr rfl⟩)⟩
  have hatr : HasAt X0 L.reverse := fun s hs => hat s (List.mem_reverse.1 hs)
  have hv0 : ∀ t, valF 0 X0 t = valF 0 S t - takV L t := fun t => by rw [hX.val, tak_neg]; omega
  have hr1 : Rise (-1) (relX X0 L.reverse) := rise_of_at hX.rise (relX_at X0 L.reverse)
  have hv1 : ∀ t, valF 0 (relX X0 L.reverse) t = valF 0 S t - takV (relK X0 L.reverse) t := fun t => by
    rw [relX_val t X0 L.reverse hX.rise hatr, hv0]
    have := rel_tak t X0 L.reverse
    rw [tak_rev] at this
    omega
  have hnn : ∀ s ∈ L.reverse, 0 ≤ s.nd := fun s hs => by have := (hI.ok s (List.mem_reverse.1 hs)).nd; omega
  have hge : ∀ t, 0 ≤ t → 0 ≤ valF 0 (relX X0 L.reverse) t := fun t ht => by
    by_cases hz : takV (relK X0 L.reverse) t = 0
    · rw [hv1, hz]; have := hS.bd ht; omega
    · obtain ⟨s, hs, c1, c2⟩ := tak_cover hz
      exact relK_ok (fun r hr => tak_pos r hr) X0 L.reverse hX.rise hatr hnn s hs c1 c2
  have hle : ∀ t, 0 ≤ t → valF 0 (relX X0 L.reverse) t ≤ 10000 := fun t ht => by
    rw [hv1]
    have h1 := hS.bd ht
    have h2 : 0 ≤ takV (relK X0 L.reverse) t := tak_pos _ fun s hs => hnn s ((relK_sub X0 L.reverse).subset hs)
    omega
  have hP : Prof F' ∧ ∀ t, 0 ≤ t → valF 0 F' t = valF 0 (relX X0 L.reverse) t := by
    refine prof_of_tidy hT (fun t s _ hs => rise_tv (d := 0) hr1 hs) ?_ (fun s hs => ?_) (fun t ht => ⟨hge t ht, hle t ht⟩) hn
    · refine has_of_at (relX_at X0 L.reverse) ((hX.at_ 0).2 (Or.inl ?_))
      obtain ⟨s, r, rfl, hz⟩ := hS.zero
      exact ⟨s, by simp, hz⟩
    · obtain ⟨x, hx, e⟩ := has_of_at (Y := X0) (relX_at X0 L.reverse).symm ⟨s, hs, rfl⟩
      rcases (hX.at_ s.at_).1 ⟨x, hx, e⟩ with ⟨u, hu, e⟩ | ⟨u, hu, e⟩
      · have := (hS.ok u hu).1; omega
      · have := hI.ok u hu; have := this.fm; have := (hI.ok u hu).to; omega
  have hidn : ∀ s ∈ L, s.id ∈ (relG X0 L.reverse).reverse ↔ s ∈ relH X0 L.reverse := fun s hs => by
    rw [List.mem_reverse, relG_map]
    constructor
    · intro q
      obtain ⟨u, hu, e⟩ := List.mem_map.1 q
      have := rise_inj hI.rise (List.mem_reverse.1 ((relH_sub X0 L.reverse).subset hu)) hs e
      rw [← this]; exact hu
    · intro q; exact List.mem_map.2 ⟨s, q, rfl⟩
  have hrk : RiseI 0 (relK X0 L.reverse).reverse := by
    have : ((relK X0 L.reverse).reverse).Sublist L := by
      have := (relK_sub X0 L.reverse).reverse
      rwa [List.reverse_reverse] at this
    exact rise_sub hI.rise this
  refine ⟨hP.1, fun t ht => ?_, fun s => ?_, hrk, ?_, ?_, ⟨X0, hX.rise, hat, fun t ht => by rw [hv0, hSv t ht], rfl⟩⟩
  · rw [hP.2 t ht, hv1, tak_rev, hSv t ht]; omega
  · rw [List.mem_reverse]
    constructor
    · intro q
      have hs : s ∈ L := List.mem_reverse.1 ((relK_sub X0 L.reverse).subset q)
      refine ⟨hs, fun e => ?_⟩
      have hh := (hidn s hs).1 e
      have hnd : ∀ (r : List SlotD) (X : List StepD), r.Pairwise (fun a b => a.id ≠ b.id) → s ∈ relH X r → s ∈ relK X r → False := by
        intro r
        induction r with
        | nil => intro X _ h _; cases h
        | cons a r ih =>
          intro X hp h1 h2
          rw [List.pairwise_cons] at hp
          simp only [relH, relK] at h1 h2
          by_cases c : hitS X a = true
          · rw [if_pos c] at h1 h2
            rcases List.mem_cons.1 h1 with rfl | h1
            · exact hp.1 s ((relK_sub _ r).subset h2) rfl
            · exact ih _ hp.2 h1 h2
          · rw [if_neg c] at h1 h2
            rcases List.mem_cons.1 h2 with rfl | h2
            · exact hp.1 s ((relH_sub _ r).subset h1) rfl
            · exact ih _ hp.2 h1 h2
      have hpw : L.Pairwise (fun a b => a.id ≠ b.id) := by
        have : ∀ (l : List SlotD) (lo : Int), RiseI lo l → l.Pairwise (fun a b => a.id ≠ b.id) := by
          intro l
          induction l with
          | nil => intros; exact List.Pairwise.nil
          | cons a l ih =>
            intro lo h
            rw [List.pairwise_cons]
            exact ⟨fun u hu => by have := h.2.gt u hu; omega, ih a.id h.2⟩
        exact this L 0 hI.rise
      exact hnd L.reverse X0 (List.pairwise_reverse.2 (hpw.imp fun {a b} e => Ne.symm e)) hh q
    · rintro ⟨hs, hne⟩
      rcases (rel_mem (X := X0)).1 (List.mem_reverse.2 hs) with q | q
      · exact absurd ((hidn s hs).2 q) hne
      · exact q
  · rw [List.length_reverse, List.length_reverse, relG_map, List.length_map, rel_len, List.length_reverse]
  · rw [relG_map, ← List.map_reverse]
    have := (relH_sub X0 L.reverse).reverse
    rw [List.reverse_reverse] at this
    exact this.map _
theorem less_chg {f : Int → Int} {a b k : Int} {T : List Int} (h : Chg T f) : Chg (a :: b :: T) (lessV f a b k) := fun t ht hne => by
  by_cases e1 : t = a
  · simp [e1]
  · by_cases e2 : t = b
    · simp [e2]
    · by_cases e3 : f t = f (t - 1)
      · exfalso; apply hne; unfold lessV
        rw [e3]
        by_cases c : a ≤ t ∧ t < b
        · have c' : a ≤ t - 1 ∧ t - 1 < b := by omega
          rw [if_pos c, if_pos c']
        · have c' : ¬ (a ≤ t - 1 ∧ t - 1 < b) := by omega
          rw [if_neg c, if_neg c']
      · have := h t ht e3; simp [this]
theorem BkI.out {N : Int} {F F' : List StepD} {L L' : List SlotD} {T : List Int} {kk : Nat} {a b k : Int} {ids : List Int} (hI : BkI N F L T kk) (hk : 1 ≤ k) (h : OutP N F L a b k F' L' ids) : BkI N F' L' (a :: b :: T) (kk + 1) := by
  have hsub : ∀ s ∈ L', s ∈ L := fun s hs => ((h.mem s).1 hs).1
  have hends : ∀ s ∈ L', s.fm ∈ a :: b :: T ∧ s.to ∈ a :: b :: T := fun s hs => by have := hI.ends s (hsub s hs); simp [this.1, this.2]
  refine ⟨hI.n, h.prof, h.rise, fun s hs => hI.ok s (hsub s hs), fun t ht => ?_, ?_, hends, by have := hI.lt; simp only [List.length_cons]; omega, by have := h.len; have := hI.ll; omega⟩
  · rw [h.val t ht]
    have h1 := hI.top t ht
    have h2 := hI.prof.bd ht
    have h3 := tak_nn hI.ok t
    have h4 : (fun t => valF 0 F t + takV L t) t = valF 0 F t + takV L t := rfl
    unfold lessV
    split
    · split <;> omega
    · exact h1
  · have c1 : Chg (a :: b :: T) (lessV (fun t => valF 0 F t + takV L t) a b k) := less_chg (hI.chg.add (chg_tak hI.ends))
    intro t ht hne
    by_cases e : lessV (fun t => valF 0 F t + takV L t) a b k t = lessV (fun t => valF 0 F t + takV L t) a b k (t - 1)
    · have c2 := chg_tak hends
      refine c2 t ht fun q => hne ?_
      have e1 := h.val t (by omega)
      have e2 := h.val (t - 1) (by omega)
      omega
    · exact c1 t ht e
end Go.Proofs.Ytapojmniokdjfaa.Bk
/- Layer 11: Out. -/
namespace Go.Proofs.Ytapojmniokdjfaa.Bk
open Go.RowKit Go.Shelf
open Stp (inW val_elem blw al dr drN kp Stp OwnS RetP flat new2 RowS tidyA_any OwnS.row)
open Ft (wp_region_R wpAnyR_leadI wpLeadI wpLeadI_read wpLeadI_skip wpAnyR_one wpAnyR_tail)
set_option linter.unusedVariables false
set_option maxRecDepth 100000

def outB (N a b k : Int) : Bool := (Clk.isT a && (Clk.isT b && decide (a < b))) && (decide (1 ≤ k) && decide (k ≤ N))
/-- what Out leaves, in memory -/
def RetO (g m : Nat) (N : Int) (F : List StepD) (L : List SlotD) (a b k : Int) (w : World) (e : Ending) (w' : World) : Prop :=
  if outB N a b k = true then ∃ A c F' L' ids, e = .returned (.tuple #[.slice A ids.length c, .int .i64 0]) ∧ OwnI w' w.heap.size (.slice A ids.length c) ids ∧ OutP N F L a b k F' L' ids ∧ BookM w' g m N F' L' ∧ Wr (GB g m) w w'
  else e = .returned (.tuple #[.slice none 0 0, .int .i64 2]) ∧ BookM w' g m N F L ∧ Wr (GB g m) w w'
theorem tak_bd {t : Int} : ∀ r : List SlotD, (∀ s ∈ r, 0 ≤ s.nd ∧ s.nd ≤ 10000) → takV r t ≤ 10000 * r.length
  | [], _ => by simp [takV]
  | s :: r, h => by
    have h1 := tak_bd (t := t) r fun u hu => h u (by simp [hu])
    have h2 := h s (by simp)
    simp only [takV, List.length_cons]; unfold inW; split <;> omega
theorem rel_bd {S X0 : List StepD} {L : List SlotD} (hS : Prof S) (hX : PlusR S L (-1) X0) (hok : ∀ s ∈ L, 0 ≤ s.nd ∧ s.nd ≤ 10000) (hl : L.length ≤ 1000) : ∀ r post x, L.reverse = r ++ post → x ∈ relX X0 r → -100000000 ≤ x.fr ∧ x.fr ≤ 100000000 := fun r post x hr hx => by
  have hat : HasAt X0 r := fun s hs => by
    have hsL : s ∈ L := List.mem_reverse.1 (by rw [hr]; simp [hs])
    exact ⟨(hX.at_ s.fm).2 (Or.inr ⟨s, hsL, Or.inl rfl⟩), (hX.at_ s.to).2 (Or.inr ⟨s, hsL, Or.inr rfl⟩)⟩
  have hr1 : Rise (-1) (relX X0 r) := rise_of_at hX.rise (relX_at X0 r)
  have h0 := rise_gt hr1 x hx
  have e := val_elem (d := 0) hr1 hx
  rw [relX_val x.at_ X0 r hX.rise hat, hX.val, tak_neg] at e
  have hs := hS.bd (t := x.at_) (by omega)
  have hrl : ∀ s ∈ r, 0 ≤ s.nd ∧ s.nd ≤ 10000 := fun s hs => hok s (List.mem_reverse.1 (by rw [hr]; simp [hs]))
  have b1 := tak_bd (t := x.at_) L hok
  have b2 := tak_pos (t := x.at_) L fun s hs => (hok s hs).1
  have b3 := tak_bd (t := x.at_) (relH X0 r) fun s hs => hrl s ((relH_sub X0 r).subset hs)
  have b4 := tak_pos (t := x.at_) (relH X0 r) fun s hs => (hrl s ((relH_sub X0 r).subset hs)).1
  have l1 := (relH_sub X0 r).length_le
  have l2 := congrArg List.length hr
  rw [List.length_reverse, List.length_append] at l2
  have l3 : ((relH X0 r).length : Int) ≤ 1000 := by omega
  have l4 : (L.length : Int) ≤ 1000 := by omega
  omega
def remA (J : List Int) (L : List SlotD) : List SlotD := L.filter (fun s => decide (s.id ∉ J))
theorem remA_nil (L : List SlotD) : remA [] L = L := List.filter_eq_self.2 fun s _ => by simp
theorem remA_snoc (J : List Int) (id : Int) (L : List SlotD) : remS id (remA J L) = remA (J ++ [id]) L := by
  unfold remS remA
  rw [List.filter_filter]
  apply List.filter_congr
  intro s _
  rw [Bool.eq_iff_iff]
  simp only [Bool.and_eq_true, decide_eq_true_eq, List.mem_append, List.mem_singleton, not_or]
  exact And.comm
theorem remA_len (J : List Int) (L : List SlotD) : (remA J L).length ≤ L.length := List.length_filter_le _ _
theorem OwnI.at_ {w : World} {base : Nat} {v : Value} {l : List Int} (h : OwnI w base v l) : (v = .slice none 0 0 ∧ l = []) ∨ ∃ q cap, v = .slice (some ⟨q, 0, none⟩) l.length cap ∧ base ≤ q ∧ q < w.heap.size ∧ ∀ i x, l[i]? = some x → w.cell? ⟨q, i, none⟩ = some (.int .i64 x) := by
  rcases h.2 with ⟨hv, hn⟩ | ⟨q, cap, cur, hv, hbq, hh, h1, h2, h3, h4⟩
  · exact Or.inl ⟨hv, List.eq_nil_of_length_eq_zero hn⟩
  · refine Or.inr ⟨q, cap, hv, hbq, Dag.blk_lt hh, fun i x hi => ?_⟩
    have hl := (List.getElem?_eq_some_iff.1 hi).1
    have e' : (cur.toList.take (l.length * 1))[i]? = some (.int .i64 x) := by rw [h4, List.getElem?_map, hi]; rfl
    rw [List.getElem?_take, if_pos (by omega)] at e'
    rw [Dag.blk_cell hh, ← e', Array.getElem?_toList]
theorem OwnI.block {w w' : World} {base : Nat} {v : Value} {l : List Int} (h : OwnI w base v l) (hb : ∀ q, base ≤ q → q < w.heap.size → w'.heap[q]? = w.heap[q]?) : OwnI w' base v l := by
  refine ⟨h.1, ?_⟩
  rcases h.2 with h0 | ⟨q, cap, cur, hv, hbq, hh, rest⟩
  · exact Or.inl h0
  · exact Or.inr ⟨q, cap, cur, hv, hbq, by rw [hb q hbq (Dag.blk_lt hh)]; exact hh, rest⟩
set_option maxHeartbeats 6400000 in
theorem out_any (a b k : Int) (w : World) (g m : Nat) (N : Int) (F : List StepD) (L : List SlotD) (T : List Int) (kk : Nat) (hI : BkI N F L T kk) (hkk : kk ≤ 100) (hwf : ∀ s ∈ L, (Lit.int .i64 s.id).wf = true) (h : BookM w g m N F L) :
    Calls Try.prog 24 #[.pointer (some ⟨g, 0, none⟩), .int .i64 a, .int .i64 b, .int .i64 k] w (RetO g m N F L a b k w) := by
  have HT := Lib.hid fun (W : World) => times_any a b W
  obtain ⟨A, c, hs, c0, c1, c2, cf⟩ := h.cells
  cases ht : (Clk.isT a && (Clk.isT b && decide (a < b)))
  · rw [ht] at HT
    have HO : Hid (outB N a b k = false) := Lib.hid (by unfold outB; rw [ht]; rfl)
    have HH := Lib.hid h
    clear ht hs c1 c2 cf h
    go_enter Try.func24, Try.ntmps24
    go_wp2_with fail
    refine (HT.out _).mono ?_
    rintro e w1 ⟨rfl, rfl⟩
    go_wp2
    go_ret2
    unfold RetO
    rw [HO.out, if_neg (by decide)]
    exact ⟨rfl, HH.out, Wr.refl _ _⟩
  rw [ht] at HT
  by_cases hk1 : k < 1
  · have HO : Hid (outB N a b k = false) := Lib.hid (by unfold outB; rw [ht, decide_eq_false (by omega : ¬ 1 ≤ k)]; rfl)
    have HH := Lib.hid h
    clear ht hs c1 c2 cf h
    go_enter Try.func24, Try.ntmps24
    go_wp2_with fail
    refine (HT.out _).mono ?_
    rintro e w1 ⟨rfl, rfl⟩
    go_wp2
    go_ret2
    unfold RetO
    rw [HO.out, if_neg (by decide)]
    exact ⟨rfl, HH.out, Wr.refl _ _⟩
  by_cases hk2 : N < k
  · have HO : Hid (outB N a b k = false) := Lib.hid (by unfold outB; rw [ht, decide_eq_false (by omega : ¬ k ≤ N), Bool.and_false]; rfl)
    have HH := Lib.hid h
    clear ht hs c1 c2 cf h
    go_enter Try.func24, Try.ntmps24
    go_wp2_with fail
    refine (HT.out _).mono ?_
    rintro e w1 ⟨rfl, rfl⟩
    go_wp2
    go_ret2
    unfold RetO
    rw [HO.out, if_neg (by decide)]
    exact ⟨rfl, HH.out, Wr.refl _ _⟩
  have hk3 : 1 ≤ k := by omega
  have hk4 : k ≤ N := by omega
  have HO : Hid (outB N a b k = true) := Lib.hid (by unfold outB; rw [ht, decide_eq_true hk3, decide_eq_true hk4]; rfl)
  simp only [Bool.and_eq_true, decide_eq_true_eq] at ht
  obtain ⟨ta, tb, hab⟩ := ht
  have HTA := Lib.hid (Clk.isT_bd ta); have HTB := Lib.hid (Clk.isT_bd tb); have HAB := Lib.hid hab
  have hNb := hI.n
  have HFL := Lib.hid hI.len; have HLL := Lib.hid hI.ll; have HPF := Lib.hid hI.prof
  have HOK := Lib.hid hI.ok
  have HI := Lib.hid hI; have HH := Lib.hid h; have HWF := Lib.hid hwf
  have HSL := Lib.hid (slots_any w g m N F L hI.rise (by have := hI.ll; omega) h)
  clear ta tb hab hs c1 c2 cf h hI hwf
  go_enter Try.func24, Try.ntmps24
  go_wp2_with fail
  refine (HT.out _).mono ?_
  rintro e w1 ⟨rfl, rfl⟩
  go_wp2_with fail
  refine HSL.out.mono ?_
  rintro e w1 ⟨A1, d1, rfl, hs1, hb1⟩
  have HB1 := Lib.hid hb1; have HS1 := Lib.hid hs1
  have HM1 := Lib.hid (HH.out.below hb1)
  clear hs1 hb1 c0
  obtain ⟨A2, d2, hs2, c0, c1, c2, cf⟩ := HM1.out.cells
  have HS2 := Lib.hid hs2
  have hfz := HPF.out.zero
  have h0 : 0 < F.length := by obtain ⟨s, r, e, _⟩ := hfz; rw [e]; simp
  have HP1 := Lib.hid (plus_any F L 1 (Or.inl rfl) A2 A1 d2 d1 w1 h0 (by have := HFL.out; omega) (by have := HLL.out; omega) (fun s hs => by have := (HPF.out.ok s hs).2; omega) (fun s hs => by have := HOK.out s hs; have h1 := this.fm; have h2 := this.lt; have h3 := this.nd; omega) HPF.out.rise hs2 HS1.out)
  clear hs2 hfz h0
  go_wp2_with fail
  refine HP1.out.mono ?_
  rintro e w2 ⟨R1, hR1, A3, d3, rfl, ho3, hb3⟩
  have hl1 : R1.length ≤ 401 := by have := hR1.len; have := HFL.out; have := HLL.out; omega
  have HT2 := Lib.hid (tidyA_any R1 A3 R1.length d3 rfl (by omega) w2 ho3.stp.2)
  have HB2 := Lib.hid (blw HB1.out hb3)
  have HS1b := Lib.hid (HS1.out.below hb3)
  have HR1 := Lib.hid hR1; have HL1 := Lib.hid hl1
  clear ho3 hb3 hR1 hl1 c0 c1 c2 cf
  go_wp2_with fail
  refine HT2.out.mono ?_
  rintro e w3 ⟨Q, hQn, hTQ, A4, d4, rfl, ho4, hb4⟩
  have hv : ∀ t, 0 ≤ t → 0 ≤ valF 0 F t + takK 1 L t ∧ valF 0 F t + takK 1 L t ≤ 10000 := fun t ht => by
    rw [tak_one]
    have h1 := HI.out.top t ht; have h2 := HPF.out.bd ht; have h3 := tak_nn HOK.out t; have h4 := HI.out.n
    omega
  have hok := plus_ok HR1.out fun t ht => by have := hv t ht; omega
  have hQP := plus_prof HPF.out HR1.out (hTQ (-1) DD (fun u hu => (hok u hu).1) (fun u hu => (hok u hu).2)) (fun s hs => by have := HOK.out s hs; exact ⟨this.fm.2, this.to.2⟩) hv (by have := HL1.out; omega)
  have HQ := Lib.hid hQP
  have HQL : Hid (Q.length ≤ 401) := Lib.hid (by have := HL1.out; omega)
  have HB3 := Lib.hid (blw HB2.out hb4)
  have HS1c := Lib.hid (HS1b.out.below hb4)
  have HFW := Lib.hid (fewer_any Q a b k hQP.1 HTA.out HTB.out HAB.out (by omega) (by have := HQL.out; omega) A4 d4 w3 ho4.stp.2)
  clear hQn hTQ ho4 hb4 hv hok hQP
  go_wp2_with fail
  refine HFW.out.mono ?_
  rintro e w4 ⟨S, hS, hSn, A5, d5, rfl, ho5, hb5⟩
  have HS5 := Lib.hid ho5.stp.2
  have HB4 := Lib.hid (blw HB3.out hb5)
  have HSP := Lib.hid hS
  have hSl : S.length ≤ 403 := by have := HQL.out; omega
  have hS0 : 0 < S.length := by obtain ⟨s, r, e, _⟩ := hS.1.zero; rw [e]; simp
  have HM4 := Lib.hid (HH.out.below HB4.out)
  have HSL4 := Lib.hid (HS1c.out.below hb5)
  have HP2 := Lib.hid (plus_any S L (-1) (Or.inr rfl) A5 A1 d5 d1 w4 hS0 (by omega) (by have := HLL.out; omega) (fun s hs => by have := (hS.1.ok s hs).2; omega) (fun s hs => by have := HOK.out s hs; have h1 := this.fm; have h2 := this.lt; have h3 := this.nd; omega) hS.1.rise HS5.out HSL4.out)
  have HSL5 := Lib.hid hSl
  clear ho5 hb5 hS hSn hSl hS0
  obtain ⟨ns, hns⟩ : ∃ ns, S.length = ns := ⟨_, rfl⟩
  have HNS := Lib.hid hns
  rw [hns] at HP2 HSL5 ⊢
  have hns4 : ns ≤ 403 := HSL5.out
  clear hns
  go_wp2_with fail
  refine HP2.out.mono ?_
  rintro e w5 ⟨X0, hX0, A6, d6, rfl, ho6, hb6⟩
  have hx0 : 0 < X0.length := by
    obtain ⟨s, r, e, hz⟩ := HSP.out.1.zero
    obtain ⟨x, hx, _⟩ := (hX0.at_ s.at_).2 (Or.inl ⟨s, by rw [e]; simp, rfl⟩)
    exact List.length_pos_of_mem hx
  obtain ⟨gX, cX, eS, hbg, hrow⟩ := OwnS.row ho6 hx0
  injection eS with eS1 eS2 eS3
  subst eS1 eS3
  have hgl := HSL4.out
  have HSL6 := Lib.hid (HSL4.out.below hb6)
  have HB5 := Lib.hid (blw HB4.out hb6)
  have hxl : X0.length ≤ 603 := by have := hX0.len; have := HLL.out; have := HNS.out; omega
  have hrl : (relG X0 L.reverse).length ≤ 100 := by have := relG_len X0 L.reverse; rw [List.length_reverse] at this; have := HLL.out; omega
  have HRV := Lib.hid (relieve_any X0 L hX0.rise (fun s hs => ⟨(hX0.at_ s.fm).2 (Or.inr ⟨s, hs, Or.inl rfl⟩), (hX0.at_ s.to).2 (Or.inr ⟨s, hs, Or.inr rfl⟩)⟩) (fun s hs => ⟨(HOK.out s hs).lt, by have := (HOK.out s hs).nd; omega⟩)
    (rel_bd HSP.out.1 hX0 (fun s hs => by have := (HOK.out s hs).nd; omega) (by have := HLL.out; omega)) gX d6 A1 d1 X0.length L.length rfl rfl (by omega) (by have := HLL.out; omega) w5 hrow HSL6.out (fun q s b' off hq hA => by
      obtain ⟨b2, o2, e2, h4⟩ := HSL4.out.cells q s hq
      rw [hA] at e2
      injection e2 with e2
      injection e2 with e3
      subst e3
      have := World.block_lt_of_cell? w4 _ h4.id
      have : b' < w4.heap.size := this
      omega))
  have HX0 := Lib.hid hX0
  have HBG := Lib.hid hbg
  have HRL := Lib.hid hrl
  have HXL := Lib.hid hxl
  clear hX0 ho6 hb6 hx0 hbg hrow hgl hxl hrl eS2
  go_wp2_with fail
  refine HRV.out.mono ?_
  rintro e w6 ⟨A7, d7, rfl, hoI, hR6, hg6⟩
  have HB6 := Lib.hid (hg6.below HB5.out (by have := HBG.out; have := HB4.out.size; omega) HB5.out.size)
  have HM6 := Lib.hid (HH.out.below HB6.out)
  have HOI := Lib.hid hoI
  have HR6 := Lib.hid hR6
  obtain ⟨ids, hids⟩ : ∃ ids, (relG X0 L.reverse).reverse = ids := ⟨_, rfl⟩
  have hil : (relG X0 L.reverse).length = ids.length := by rw [← hids, List.length_reverse]
  rw [hids, hil] at HOI
  rw [hil] at HRL ⊢
  have HIDS := Lib.hid hids
  have hrl : ids.length ≤ 100 := HRL.out
  obtain ⟨ni, hni⟩ : ∃ ni, ids.length = ni := ⟨_, rfl⟩
  rw [hni] at hrl HOI ⊢
  have HNI := Lib.hid hni
  have HIW : Hid (∀ id ∈ ids, (Lit.int .i64 id).wf = true) := Lib.hid fun id hid => by
    rw [← hids, List.mem_reverse, relG_map] at hid
    obtain ⟨s, hs, rfl⟩ := List.mem_map.1 hid
    exact HWF.out s (List.mem_reverse.1 ((relH_sub X0 L.reverse).subset hs))
  have HX6 : Hid (Stp w6 (some ⟨gX, 0, none⟩) d6 (relX X0 L.reverse)) := Lib.hid HR6.out.stp
  have hXX : (relX X0 L.reverse).length = X0.length := by have := congrArg List.length (relX_at X0 L.reverse); simpa using this
  have HXX := Lib.hid hXX
  have hXb : ∀ u ∈ relX X0 L.reverse, -1 < u.at_ ∧ u.fr ≠ DD := fun u hu => by
    have h1 := rise_gt (rise_of_at HX0.out.rise (relX_at X0 L.reverse)) u hu
    have e := val_elem (d := 0) (rise_of_at HX0.out.rise (relX_at X0 L.reverse)) hu
    rw [relX_val u.at_ X0 L.reverse HX0.out.rise (fun s hs => ⟨(HX0.out.at_ s.fm).2 (Or.inr ⟨s, List.mem_reverse.1 hs, Or.inl rfl⟩), (HX0.out.at_ s.to).2 (Or.inr ⟨s, List.mem_reverse.1 hs, Or.inr rfl⟩)⟩), HX0.out.val, tak_neg] at e
    have h3 := rel_tak u.at_ X0 L.reverse
    rw [tak_rev] at h3
    have h4 : 0 ≤ takV (relK X0 L.reverse) u.at_ := tak_pos _ fun s hs => by have := (HOK.out s (List.mem_reverse.1 ((relK_sub X0 L.reverse).subset hs))).nd; omega
    have h5 := HSP.out.1.bd (t := u.at_) (by omega)
    refine ⟨h1, ?_⟩
    unfold DD; omega
  have HXB := Lib.hid hXb
  have h06 : Hid (BookM w6 g m N F (remA (ids.take 0) L)) := Lib.hid (by rw [List.take_zero, remA_nil]; exact HM6.out)
  have hOA := OwnI.at_ (l := ids) (by have := HNI.out; subst this; exact HOI.out)
  have HZ5 := Lib.hid HB5.out.size
  have HOA : Hid (A7 = none ∧ ids = [] ∨ ∃ q, A7 = some ⟨q, 0, none⟩ ∧ w5.heap.size ≤ q ∧ ∀ i x, ids[i]? = some x → w6.cell? ⟨q, i, none⟩ = some (.int .i64 x)) := Lib.hid (by
    rcases hOA with ⟨e, h⟩ | ⟨q, cap, e, hq5, _, h⟩
    · injection e with e; exact Or.inl ⟨e, h⟩
    · injection e with e; exact Or.inr ⟨q, e, hq5, h⟩)
  have HG4 := Lib.hid HB6.out.size
  clear hoI hR6 hg6 hids hil hni hXX hXb hOA
  go_wp2_with fail
  go_loopw [60] (fun vi wr => ∃ q : Nat, q ≤ ni ∧ vi = .int .i64 q ∧ Hid (BookM wr g m N F (remA (ids.take q) L)) ∧ Hid (Wr (GB g m) w6 wr)) (fun vi _ => ni - (intOf vi).toNat)
  case atStart => exact ⟨0, Nat.zero_le _, rfl, h06, Lib.hid (Wr.refl _ _)⟩
  case round =>
    obtain ⟨q, hq, rfl, HMr, HWr⟩ := hrel
    by_cases hlt : q < ni
    · obtain ⟨id, hid⟩ : ∃ id, ids[q]? = some id := ⟨_, List.getElem?_eq_getElem (by rw [HNI.out]; exact hlt)⟩
      have hidw := HIW.out id (List.mem_of_getElem? hid)
      obtain ⟨b7, eA, hb7, c7⟩ : ∃ b7, A7 = some ⟨b7, 0, none⟩ ∧ w5.heap.size ≤ b7 ∧ w6.cell? ⟨b7, q, none⟩ = some (.int .i64 id) := by
        rcases HOA.out with ⟨_, e⟩ | ⟨b7, e, hb7, h⟩
        · rw [e] at hid; simp at hid
        · exact ⟨b7, e, hb7, h q id hid⟩
      subst eA
      have hnb : ¬ GB g m b7 := by
        have h1 := HH.out.lt
        have h2 := HZ5.out
        rintro (e | e) <;> omega
      have d0 := HWr.out.cell hnb c7
      obtain ⟨A9, c9, _, k0, k1, k2, kf⟩ := HMr.out.cells
      have htk : remS id (remA (ids.take q) L) = remA (ids.take (q + 1)) L := by rw [remA_snoc, List.take_add_one, hid, Option.toList_some]
      have HTK := Lib.hid htk
      have HRS : Hid (RiseI 0 (remA (ids.take q) L)) := Lib.hid (rise_sub HI.out.rise List.filter_sublist)
      have HIDW := Lib.hid hidw
      clear htk hid c7 hidw hnb hb7
      go_wp2_with (at_delete; refine wpList_mdel rfl (.tmp 67) (.tmp 68) rfl m (remA (ids.take q) L) id rfl HMr.out.map HRS.out rfl HIDW.out ?_; intro w9 hm9 hg9)
      obtain ⟨hM9, hW9⟩ := HMr.out.mapped hg9 hm9
      rw [HTK.out] at hM9
      refine ⟨⟨q + 1, by omega, by go_num, Lib.hid hM9, Lib.hid (HWr.out.trans hW9)⟩, ?_⟩
      simp [intOf]; omega
    · obtain rfl : q = ni := by omega
      have hrt : remA (ids.take q) L = remA ids L := by rw [List.take_of_length_le (by rw [HNI.out]; exact Nat.le_refl _)]
      have hM := HMr.out
      rw [hrt] at hM
      have HMM := Lib.hid hM
      have HX7 := Lib.hid (HX6.out.wr HM6.out HWr.out)
      have HTD := Lib.hid (tidyA_any (relX X0 L.reverse) (some ⟨gX, 0, none⟩) X0.length d6 HXX.out (by have := HXL.out; omega) wr HX7.out)
      obtain ⟨A9, c9, _, k0, k1, k2, kf⟩ := hM.cells
      clear hrt hM k0 k1 k2 kf
      go_wp2_with fail
      refine HTD.out.mono ?_
      rintro e w8 ⟨R8, hR8n, hR8, A8, d8, rfl, ho8, hb8⟩
      have HM8 := Lib.hid (HMM.out.below hb8)
      have HT8 := Lib.hid (hR8 (-1) DD (fun u hu => (HXB.out u hu).1) (fun u hu => (HXB.out u hu).2))
      have HS8 := Lib.hid ho8.stp.2
      have HN8 := Lib.hid hR8n
      have HB8 := Lib.hid hb8
      obtain ⟨_, _, _, k0, k1, k2, kf⟩ := HM8.out.cells
      clear ho8 hb8 hR8n hR8
      go_wp2
      go_ret2
      obtain ⟨hMF, hWF⟩ := HM8.out.store (F' := R8) rfl HS8.out
      have hids := HIDS.out
      have hP := out_of (k := k) HI.out (by omega) HSP.out.1 (fun t ht => by
        rw [HSP.out.2 t ht]
        refine lessV_congr _ _ _ _ ?_
        rw [HQ.out.2 t ht, tak_one]) HX0.out HT8.out (by have := HN8.out; have := HXL.out; omega)
      have hLL : remA ids L = (relK X0 L.reverse).reverse := by
        refine rise_uniq (rise_sub HI.out.rise List.filter_sublist) hP.rise fun s => ?_
        rw [hP.mem s, hids]
        unfold remA
        simp [List.mem_filter]
      rw [hLL] at hMF
      rw [hids] at hP
      unfold RetO
      rw [if_pos HO.out]
      have hl := HH.out.lt
      have hWall : Wr (GB g m) w6 (w8.setCell ⟨g, 2, none⟩ (.slice A8 R8.length d8)) := (HWr.out.trans (Wr.of_below HB8.out)).trans hWF
      refine ⟨A7, d7, R8, _, ids, ?_, ?_, hP, hMF, (Wr.of_below HB6.out).trans hWall⟩
      · rw [HNI.out]; rfl
      · rw [HNI.out]
        exact (OwnI.rebase HOI.out HZ5.out).block fun q0 h1 h2 => hWall.block q0 h2 (by rintro (e | e) <;> omega)
end Go.Proofs.Ytapojmniokdjfaa.Bk

