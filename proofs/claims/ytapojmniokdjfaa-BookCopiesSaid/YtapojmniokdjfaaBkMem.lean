/- Layer 11. -/
import Derived.Test.YtapojmniokdjfaaStpL
import Derived.Maps.RangeWalk
import Derived.Maps.Ext
import Derived.Deep.MidRow
import Derived.WideKeyEntry
/- Layer 11 in plain words: reservations, and what they leave free. No program. -/
namespace Go.Proofs.Ytapojmniokdjfaa.Bk
open Stp (inW addE addL AddY AddV addE_iff add_yes prof_uniq)
set_option linter.unusedVariables false

structure SlotD where
  id : Int
  fm : Int
  to : Int
  nd : Int
def RiseI : Int → List SlotD → Prop
  | _, [] => True
  | lo, s :: l => lo < s.id ∧ RiseI s.id l
def takV : List SlotD → Int → Int
  | [], _ => 0
  | s :: l, t => inW s.fm s.to s.nd t + takV l t
def insS (s : SlotD) : List SlotD → List SlotD
  | [] => [s]
  | u :: l => if s.id < u.id then s :: u :: l else u :: insS s l
def remS (id : Int) (l : List SlotD) : List SlotD := l.filter (fun s => decide (s.id ≠ id))
def fndS (id : Int) (l : List SlotD) : Option SlotD := l.find? (fun s => decide (s.id = id))
theorem RiseI.mono : ∀ {l : List SlotD} {lo lo' : Int}, RiseI lo l → lo' ≤ lo → RiseI lo' l
  | [], _, _, _, _ => trivial
  | s :: l, _, _, ⟨h1, h2⟩, h => ⟨by omega, h2⟩
theorem RiseI.gt : ∀ {l : List SlotD} {lo : Int}, RiseI lo l → ∀ s ∈ l, lo < s.id
  | [], _, _, s, h => by cases h
  | a :: l, lo, ⟨h1, h2⟩, s, h => by
    rcases List.mem_cons.1 h with rfl | h
    · exact h1
    · have := h2.gt s h; omega
theorem fnd_some {id : Int} {l : List SlotD} {s : SlotD} (h : fndS id l = some s) : s ∈ l ∧ s.id = id := by
  unfold fndS at h
  exact ⟨List.mem_of_find?_eq_some h, by simpa using List.find?_some h⟩
theorem fnd_none {id : Int} {l : List SlotD} : fndS id l = none ↔ ∀ s ∈ l, s.id ≠ id := by
  unfold fndS
  rw [List.find?_eq_none]
  simp
theorem fnd_mem : ∀ {l : List SlotD} {lo : Int} {s : SlotD}, RiseI lo l → s ∈ l → fndS s.id l = some s
  | [], _, _, _, h => by cases h
  | a :: l, lo, s, ⟨h1, h2⟩, h => by
    unfold fndS
    rw [List.find?_cons]
    rcases List.mem_cons.1 h with rfl | h
    · simp
    · have := h2.gt s h
      rw [show decide (a.id = s.id) = false from decide_eq_false (by omega)]
      exact fnd_mem h2 h
theorem rise_inj {l : List SlotD} {lo : Int} (h : RiseI lo l) {s u : SlotD} (hs : s ∈ l) (hu : u ∈ l) (e : s.id = u.id) : s = u := by
  have h1 := fnd_mem h hs
  rw [e, fnd_mem h hu] at h1
  injection h1 with h1
  exact h1.symm
theorem mem_ins {s u : SlotD} : ∀ {l : List SlotD}, u ∈ insS s l ↔ u = s ∨ u ∈ l
  | [] => by simp [insS]
  | a :: l => by
    unfold insS
    by_cases h : s.id < a.id
    · rw [if_pos h]; simp
    · rw [if_neg h, List.mem_cons, mem_ins (l := l), List.mem_cons]
      constructor
      · rintro (h | h | h)
        · exact Or.inr (Or.inl h)
        · exact Or.inl h
        · exact Or.inr (Or.inr h)
      · rintro (h | h | h)
        · exact Or.inr (Or.inl h)
        · exact Or.inl h
        · exact Or.inr (Or.inr h)
theorem len_ins (s : SlotD) : ∀ l : List SlotD, (insS s l).length = l.length + 1
  | [] => rfl
  | a :: l => by
    unfold insS
    by_cases h : s.id < a.id
    · rw [if_pos h]; rfl
    · rw [if_neg h, List.length_cons, len_ins s l]; rfl
theorem tak_ins (s : SlotD) (t : Int) : ∀ l : List SlotD, takV (insS s l) t = takV l t + inW s.fm s.to s.nd t
  | [] => by simp [insS, takV]
  | a :: l => by
    unfold insS
    by_cases h : s.id < a.id
    · rw [if_pos h]; simp only [takV]; omega
    · rw [if_neg h]; simp only [takV, tak_ins s t l]; omega
theorem rise_ins {s : SlotD} : ∀ {l : List SlotD} {lo : Int}, RiseI lo l → lo < s.id → fndS s.id l = none → RiseI lo (insS s l)
  | [], lo, _, h, _ => ⟨h, trivial⟩
  | a :: l, lo, ⟨h1, h2⟩, h, hn => by
    have hall := fnd_none.1 hn
    unfold insS
    by_cases hc : s.id < a.id
    · rw [if_pos hc]; exact ⟨h, hc, h2⟩
    · rw [if_neg hc]
      have := hall a (by simp)
      exact ⟨h1, rise_ins h2 (by omega) (fnd_none.2 fun u hu => hall u (by simp [hu]))⟩
theorem fnd_ins {s : SlotD} {l : List SlotD} {lo : Int} (h : RiseI lo l) (hs : lo < s.id) (hn : fndS s.id l = none) (id : Int) : fndS id (insS s l) = if id = s.id then some s else fndS id l := by
  have hR := rise_ins h hs hn
  by_cases e : id = s.id
  · rw [if_pos e, e]; exact fnd_mem hR (mem_ins.2 (Or.inl rfl))
  · rw [if_neg e]
    cases hf : fndS id l with
    | none =>
      refine fnd_none.2 fun u hu => ?_
      rcases mem_ins.1 hu with rfl | hu
      · exact fun q => e q.symm
      · exact fnd_none.1 hf u hu
    | some u =>
      obtain ⟨h1, h2⟩ := fnd_some hf
      rw [← h2]
      exact fnd_mem hR (mem_ins.2 (Or.inr h1))
theorem mem_rem {id : Int} {l : List SlotD} {s : SlotD} : s ∈ remS id l ↔ s ∈ l ∧ s.id ≠ id := by simp [remS]
theorem len_rem (id : Int) (l : List SlotD) : (remS id l).length ≤ l.length := List.length_filter_le _ _
theorem rise_filter (f : SlotD → Bool) : ∀ {l : List SlotD} {lo : Int}, RiseI lo l → RiseI lo (l.filter f)
  | [], _, _ => trivial
  | a :: l, lo, ⟨h1, h2⟩ => by
    rw [List.filter_cons]
    have := rise_filter f h2
    split
    · exact ⟨h1, this⟩
    · exact this.mono (by omega)
theorem rise_rem {id : Int} {l : List SlotD} {lo : Int} (h : RiseI lo l) : RiseI lo (remS id l) := rise_filter _ h
theorem rem_no {id : Int} {l : List SlotD} (h : fndS id l = none) : remS id l = l := List.filter_eq_self.2 fun s hs => by rw [decide_eq_true_eq]; exact fnd_none.1 h s hs
theorem tak_rem {id : Int} {s : SlotD} (t : Int) : ∀ {l : List SlotD} {lo : Int}, RiseI lo l → fndS id l = some s → takV (remS id l) t + inW s.fm s.to s.nd t = takV l t
  | [], _, _, h => by cases h
  | a :: l, lo, ⟨h1, h2⟩, h => by
    unfold remS
    rw [List.filter_cons]
    by_cases e : a.id = id
    · have ha : fndS id (a :: l) = some a := by unfold fndS; rw [List.find?_cons]; simp [e]
      rw [ha] at h
      injection h with h
      subst h
      rw [if_neg (by simp [e])]
      have : l.filter (fun s => decide (s.id ≠ id)) = l := rem_no (fnd_none.2 fun u hu => by have := h2.gt u hu; omega)
      rw [this]; simp only [takV]; omega
    · have ha : fndS id (a :: l) = fndS id l := by unfold fndS; rw [List.find?_cons]; simp [e]
      rw [ha] at h
      rw [if_pos (by simp [e])]
      have := tak_rem t h2 h
      unfold remS at this
      simp only [takV]; omega
theorem len_remY {id : Int} {s : SlotD} : ∀ {l : List SlotD} {lo : Int}, RiseI lo l → fndS id l = some s → (remS id l).length + 1 = l.length
  | [], _, _, h => by cases h
  | a :: l, lo, ⟨h1, h2⟩, h => by
    unfold remS
    rw [List.filter_cons]
    by_cases e : a.id = id
    · rw [if_neg (by simp [e])]
      have : l.filter (fun s => decide (s.id ≠ id)) = l := rem_no (fnd_none.2 fun u hu => by have := h2.gt u hu; omega)
      rw [this]; rfl
    · have ha : fndS id (a :: l) = fndS id l := by unfold fndS; rw [List.find?_cons]; simp [e]
      rw [ha] at h
      rw [if_pos (by simp [e])]
      have := len_remY h2 h
      unfold remS at this
      simp only [List.length_cons]; omega
theorem fnd_rem {id : Int} {l : List SlotD} {lo : Int} (h : RiseI lo l) (j : Int) : fndS j (remS id l) = if j = id then none else fndS j l := by
  by_cases e : j = id
  · rw [if_pos e]
    exact fnd_none.2 fun s hs => by have := (mem_rem.1 hs).2; omega
  · rw [if_neg e]
    cases hf : fndS j l with
    | none => exact fnd_none.2 fun u hu => fnd_none.1 hf u (mem_rem.1 hu).1
    | some u =>
      obtain ⟨h1, h2⟩ := fnd_some hf
      rw [← h2]
      exact fnd_mem (rise_rem h) (mem_rem.2 ⟨h1, by omega⟩)
theorem slotD_ext {a b : SlotD} (h1 : a.id = b.id) (h2 : a.fm = b.fm) (h3 : a.to = b.to) (h4 : a.nd = b.nd) : a = b := by cases a; cases b; simp at h1 h2 h3 h4; simp [h1, h2, h3, h4]
/-- one form -/
theorem rise_uniq : ∀ {l m : List SlotD} {lo : Int}, RiseI lo l → RiseI lo m → (∀ s, s ∈ l ↔ s ∈ m) → l = m
  | [], [], _, _, _, _ => rfl
  | [], b :: m, _, _, _, h => by have := (h b).2 (by simp); cases this
  | a :: l, [], _, _, _, h => by have := (h a).1 (by simp); cases this
  | a :: l, b :: m, lo, ⟨a1, a2⟩, ⟨b1, b2⟩, h => by
    have hab : a = b := by
      have h1 := (h a).1 (by simp)
      have h2 := (h b).2 (by simp)
      rcases List.mem_cons.1 h1 with e | e
      · exact e
      · rcases List.mem_cons.1 h2 with e2 | e2
        · exact e2.symm
        · have := b2.gt a e; have := a2.gt b e2; omega
    subst hab
    congr 1
    refine rise_uniq a2 b2 fun s => ?_
    have hs := h s
    rw [List.mem_cons, List.mem_cons] at hs
    constructor
    · intro q
      rcases hs.1 (Or.inr q) with e | e
      · subst e; have := a2.gt s q; omega
      · exact e
    · intro q
      rcases hs.2 (Or.inr q) with e | e
      · subst e; have := b2.gt s q; omega
      · exact e

/-! the times at which something changes -/
def Chg (T : List Int) (f : Int → Int) : Prop := ∀ t, 1 ≤ t → f t ≠ f (t - 1) → t ∈ T
theorem norm_chg : ∀ (r : List StepD) (lo d : Int) (T : List Int), Norm lo d r → (∀ t, lo < t → valF d r t ≠ valF d r (t - 1) → t ∈ T) → r.length ≤ T.length
  | [], _, _, _, _, _ => Nat.zero_le _
  | s :: r, lo, d, T, ⟨h1, h2, h3⟩, h => by
    have hs : s.at_ ∈ T := h s.at_ h1 (by rw [val_head h3.rise, val_ahead (by omega)]; exact h2)
    have ih := norm_chg r s.at_ s.fr (T.filter (fun t => decide (t ≠ s.at_))) h3 fun t ht hne => by
      refine List.mem_filter.2 ⟨h t (by omega) ?_, by rw [decide_eq_true_eq]; omega⟩
      rwa [val_cons (by omega), val_cons (by omega)]
    have : (T.filter (fun t => decide (t ≠ s.at_))).length < T.length := List.length_filter_lt_length_iff_exists.2 ⟨s.at_, hs, by simp⟩
    simp only [List.length_cons]; omega
theorem prof_len {F : List StepD} {T : List Int} (h : Prof F) (hc : Chg T (valF 0 F)) : F.length ≤ 1 + T.length := by
  obtain ⟨s, r, rfl, hz⟩ := h.zero
  obtain ⟨h1, h2, h3⟩ := h.norm
  have := norm_chg r s.at_ s.fr T h3 fun t ht hne => hc t (by omega) (by rwa [val_cons (by omega), val_cons (by omega)])
  simp only [List.length_cons]; omega
theorem Chg.mono {T T' : List Int} {f : Int → Int} (h : Chg T f) (hs : ∀ t ∈ T, t ∈ T') : Chg T' f := fun t ht hne => hs t (h t ht hne)
theorem chg_inW {a b k : Int} {T : List Int} (ha : a ∈ T) (hb : b ∈ T) : Chg T (inW a b k) := fun t ht hne => by
  by_cases e1 : t = a
  · rw [e1]; exact ha
  · by_cases e2 : t = b
    · rw [e2]; exact hb
    · exfalso; apply hne; unfold inW
      by_cases c : a ≤ t ∧ t < b
      · rw [if_pos c, if_pos (by omega)]
      · rw [if_neg c, if_neg (by omega)]
theorem Chg.add {T : List Int} {f g : Int → Int} (h : Chg T f) (k : Chg T g) : Chg T (fun t => f t + g t) := fun t ht hne => by
  by_cases e : f t = f (t - 1)
  · exact k t ht fun q => hne (by show f t + g t = f (t - 1) + g (t - 1); omega)
  · exact h t ht e
theorem chg_tak {T : List Int} : ∀ {L : List SlotD}, (∀ s ∈ L, s.fm ∈ T ∧ s.to ∈ T) → Chg T (takV L)
  | [], _ => fun t ht hne => absurd rfl hne
  | s :: L, h => (chg_inW (h s (by simp)).1 (h s (by simp)).2).add (chg_tak fun u hu => h u (by simp [hu]))
theorem Chg.of {T : List Int} {f g : Int → Int} (h : Chg T f) (e : ∀ t, 0 ≤ t → g t = f t) : Chg T g := fun t ht hne => h t ht (by rw [← e t (by omega), ← e (t - 1) (by omega)]; exact hne)

/-! a book -/
def slotB (N : Int) (s : SlotD) : Bool := decide (1 ≤ s.id) && (Clk.isT s.fm && (Clk.isT s.to && (decide (s.fm < s.to) && (decide (1 ≤ s.nd) && decide (s.nd ≤ N)))))
structure SlotOK (N : Int) (s : SlotD) : Prop where
  id : 1 ≤ s.id
  fm : 0 ≤ s.fm ∧ s.fm ≤ 1099511627775
  to : 0 ≤ s.to ∧ s.to ≤ 1099511627775
  lt : s.fm < s.to
  nd : 1 ≤ s.nd ∧ s.nd ≤ N
theorem slotB_iff {N : Int} {s : SlotD} : slotB N s = true ↔ SlotOK N s := by
  unfold slotB
  simp only [Bool.and_eq_true, decide_eq_true_eq]
  constructor
  · rintro ⟨h1, h2, h3, h4, h5, h6⟩
    exact ⟨h1, Clk.isT_bd h2, Clk.isT_bd h3, h4, h5, h6⟩
  · intro h
    exact ⟨h.id, Clk.isT_yes h.fm.1 h.fm.2, Clk.isT_yes h.to.1 h.to.2, h.lt, h.nd⟩
structure BkI (N : Int) (F : List StepD) (L : List SlotD) (T : List Int) (k : Nat) : Prop where
  n : 1 ≤ N ∧ N ≤ 10000
  prof : Prof F
  rise : RiseI 0 L
  ok : ∀ s ∈ L, SlotOK N s
  top : ∀ t, 0 ≤ t → valF 0 F t + takV L t ≤ N
  chg : Chg T (valF 0 F)
  ends : ∀ s ∈ L, s.fm ∈ T ∧ s.to ∈ T
  lt : T.length ≤ 2 * k
  ll : L.length ≤ k
theorem BkI.len {N : Int} {F : List StepD} {L : List SlotD} {T : List Int} {k : Nat} (h : BkI N F L T k) : F.length ≤ 1 + 2 * k := by have := prof_len h.prof h.chg; have := h.lt; omega
theorem tak_nn {N : Int} : ∀ {L : List SlotD}, (∀ s ∈ L, SlotOK N s) → ∀ t, 0 ≤ takV L t
  | [], _, t => Int.le_refl _
  | s :: L, h, t => by
    have h1 : 0 ≤ takV L t := tak_nn (fun u hu => h u (by simp [hu])) t
    have h2 := (h s (by simp)).nd
    simp only [takV]; unfold inW; split <;> omega

/-! one more -/
def takeE (N : Int) (F : List StepD) (L : List SlotD) (s : SlotD) : Int := if slotB N s = true then (if (fndS s.id L).isSome = true then 51 else addE F s.fm s.to (-s.nd)) else 2
def takeF (N : Int) (F : List StepD) (L : List SlotD) (s : SlotD) : List StepD := if takeE N F L s = 0 then addL F s.fm s.to (-s.nd) else F
def takeL (N : Int) (F : List StepD) (L : List SlotD) (s : SlotD) : List SlotD := if takeE N F L s = 0 then insS s L else L
theorem inW_neg (a b k t : Int) : inW a b (-k) t = - inW a b k t := by unfold inW; split <;> omega
structure TakeY (N : Int) (F : List StepD) (L : List SlotD) (s : SlotD) : Prop where
  ok : SlotOK N s
  new : fndS s.id L = none
  add : addE F s.fm s.to (-s.nd) = 0
theorem takeE_iff {N : Int} {F : List StepD} {L : List SlotD} {s : SlotD} : takeE N F L s = 0 ↔ TakeY N F L s := by
  unfold takeE
  constructor
  · intro h
    cases hb : slotB N s
    · rw [hb] at h; rw [if_neg (by decide)] at h; cases h
    · rw [hb, if_pos rfl] at h
      cases hf : fndS s.id L with
      | none => rw [hf] at h; exact ⟨slotB_iff.1 hb, hf, by simpa using h⟩
      | some u => rw [hf] at h; simp at h
  · intro h
    rw [if_pos (slotB_iff.2 h.ok), h.new, if_neg (by simp)]
    exact h.add
theorem BkI.take {N : Int} {F : List StepD} {L : List SlotD} {T : List Int} {k : Nat} {s : SlotD} (h : BkI N F L T k) (hk : k ≤ 100) (hy : TakeY N F L s) :
    BkI N (addL F s.fm s.to (-s.nd)) (insS s L) (s.fm :: s.to :: T) (k + 1) := by
  have hl := h.len
  have hv := add_yes hy.add (by omega)
  have hi := hy.ok.id
  refine ⟨h.n, hv.prof, rise_ins h.rise (by omega) hy.new, fun u hu => ?_, fun t ht => ?_, ?_, fun u hu => ?_, by have := h.lt; simp only [List.length_cons]; omega, by have := h.ll; rw [len_ins]; omega⟩
  · rcases mem_ins.1 hu with rfl | hu
    · exact hy.ok
    · exact h.ok u hu
  · rw [hv.val t ht, tak_ins, inW_neg]
    have := h.top t ht; omega
  · have c1 : Chg (s.fm :: s.to :: T) (inW s.fm s.to (-s.nd)) := chg_inW (by simp) (by simp)
    exact ((h.chg.mono fun t ht => by simp [ht]).add c1).of fun t ht => hv.val t ht
  · rcases mem_ins.1 hu with rfl | hu
    · simp
    · have := h.ends u hu; simp [this.1, this.2]
/-! one gone -/
theorem free_ok {N : Int} {F : List StepD} {L : List SlotD} {T : List Int} {k : Nat} {s : SlotD} {id : Int} (h : BkI N F L T k) (hf : fndS id L = some s) : addE F s.fm s.to s.nd = 0 := by
  obtain ⟨hm, hid⟩ := fnd_some hf
  have ho := h.ok s hm
  have hn := h.n
  refine addE_iff.2 ⟨h.prof, ho.fm, ho.to, by have := ho.lt; omega, by have := ho.nd; omega, fun t ht => ?_⟩
  have h1 := h.top t ht
  have h2 := tak_rem t h.rise hf
  have h3 := tak_nn (L := remS id L) (fun u hu => h.ok u (mem_rem.1 hu).1) t
  have h4 := h.prof.bd ht
  have h5 : 0 ≤ inW s.fm s.to s.nd t := by have := ho.nd; unfold inW; split <;> omega
  omega
theorem BkI.free {N : Int} {F R : List StepD} {L : List SlotD} {T : List Int} {k : Nat} {s : SlotD} {id : Int} (h : BkI N F L T k) (hf : fndS id L = some s) (hR : Prof R) (hv : ∀ t, 0 ≤ t → valF 0 R t = valF 0 F t + inW s.fm s.to s.nd t) :
    BkI N R (remS id L) T k := by
  obtain ⟨hm, hid⟩ := fnd_some hf
  refine ⟨h.n, hR, rise_rem h.rise, fun u hu => h.ok u (mem_rem.1 hu).1, fun t ht => ?_, ?_, fun u hu => h.ends u (mem_rem.1 hu).1, h.lt, Nat.le_trans (len_rem _ _) h.ll⟩
  · rw [hv t ht]; have := h.top t ht; have := tak_rem t h.rise hf; omega
  · have he := h.ends s hm
    exact (h.chg.add (chg_inW he.1 he.2)).of hv
theorem BkI.up {N : Int} {F : List StepD} {L : List SlotD} {T : List Int} {k : Nat} (h : BkI N F L T k) : BkI N F L T (k + 1) :=
  ⟨h.n, h.prof, h.rise, h.ok, h.top, h.chg, h.ends, by have := h.lt; omega, by have := h.ll; omega⟩
theorem BkI.new {N : Int} (hn : 1 ≤ N ∧ N ≤ 10000) : BkI N [⟨0, N⟩] [] [] 0 := by
  have hp : Prof [⟨0, N⟩] := by
    refine ⟨by simp, ⟨_, [], rfl, rfl⟩, ⟨by show (-1 : Int) < 0; decide, ?_, trivial⟩, fun s hs => ?_⟩
    · show N ≠ DD; unfold DD; omega
    · simp at hs; subst hs; exact ⟨⟨Int.le_refl _, by show (0 : Int) ≤ 1099511627775; decide⟩, by show 0 ≤ N ∧ N ≤ 10000; omega⟩
  have hv : ∀ t, 0 ≤ t → valF 0 [⟨0, N⟩] t = N := fun t ht => by rw [val_cons (by exact ht)]; rfl
  refine ⟨hn, hp, trivial, fun s hs => (by cases hs), fun t ht => ?_, fun t ht hne => ?_, fun s hs => (by cases hs), by simp, by simp⟩
  · rw [hv t ht]; simp only [takV]; omega
  · exfalso; apply hne; rw [hv t (by omega), hv (t - 1) (by omega)]
end Go.Proofs.Ytapojmniokdjfaa.Bk
/- Layer 11: reservations in memory: in rows, and in a map. -/
namespace Go.Proofs.Ytapojmniokdjfaa.Bk
open Go.RowKit Go.Shelf
open Stp (blw al dr drN kp Stp OwnS)
set_option linter.unusedVariables false
set_option maxRecDepth 100000

def flat4 : List SlotD → List Value
  | [] => []
  | s :: l => .int .i64 s.id :: .int .i64 s.fm :: .int .i64 s.to :: .int .i64 s.nd :: flat4 l
theorem flat4_len : ∀ l : List SlotD, (flat4 l).length = l.length * 4
  | [] => rfl
  | s :: l => by simp only [flat4, List.length_cons, flat4_len l]; omega
theorem flat4_app : ∀ (l : List SlotD) (s : SlotD), flat4 (l ++ [s]) = flat4 l ++ [.int .i64 s.id, .int .i64 s.fm, .int .i64 s.to, .int .i64 s.nd]
  | [], s => rfl
  | a :: l, s => by simp only [List.cons_append, flat4, flat4_app l s]
theorem flat4_0 : ∀ {l : List SlotD} {k : Nat} {s : SlotD}, l[k]? = some s → (flat4 l)[k * 4]? = some (.int .i64 s.id) ∧ (flat4 l)[k * 4 + 1]? = some (.int .i64 s.fm) ∧ (flat4 l)[k * 4 + 2]? = some (.int .i64 s.to) ∧ (flat4 l)[k * 4 + 3]? = some (.int .i64 s.nd)
  | [], k, s, h => by simp at h
  | a :: l, 0, s, h => by simp at h; subst h; exact ⟨rfl, rfl, rfl, rfl⟩
  | a :: l, k + 1, s, h => by
    rw [List.getElem?_cons_succ] at h
    have := flat4_0 h
    rw [show (k + 1) * 4 = k * 4 + 4 from by omega]
    exact this
/-- four cells -/
structure C4 (w : World) (b o : Nat) (s : SlotD) : Prop where
  id : w.cell? ⟨b, o, none⟩ = some (.int .i64 s.id)
  fm : w.cell? ⟨b, o + 1, none⟩ = some (.int .i64 s.fm)
  to : w.cell? ⟨b, o + 2, none⟩ = some (.int .i64 s.to)
  nd : w.cell? ⟨b, o + 3, none⟩ = some (.int .i64 s.nd)
theorem C4.below {w w' : World} {b o : Nat} {s : SlotD} (h : C4 w b o s) (hb : Below w.heap.size w w') : C4 w' b o s := ⟨kp hb h.id, kp hb h.fm, kp hb h.to, kp hb h.nd⟩
theorem C4.new (w : World) (s : SlotD) (t : TypeId) : C4 (w.alloc (.cells #[.int .i64 s.id, .int .i64 s.fm, .int .i64 s.to, .int .i64 s.nd] t)) w.heap.size 0 s :=
  have c := fun i => Dag.blk_cell (heap_alloc_new w (.cells #[.int .i64 s.id, .int .i64 s.fm, .int .i64 s.to, .int .i64 s.nd] t)) i
  ⟨(c 0).trans rfl, (c 1).trans rfl, (c 2).trans rfl, (c 3).trans rfl⟩
/-- '.slice A l.length c' holds the reservations l -/
structure Slt (w : World) (A : Option Addr) (c : Nat) (l : List SlotD) : Prop where
  cells : ∀ k s, l[k]? = some s → ∃ b off, A = some ⟨b, off, none⟩ ∧ C4 w b (off + k * 4) s
  cap : l.length ≤ c
  top : c ≤ maxLen
  nil : A = none → c = 0
section
variable {w w' : World} {A : Option Addr} {c : Nat} {l : List SlotD}
theorem Slt.empty (w : World) : Slt w none 0 [] := ⟨fun k x h => by simp at h, Nat.le_refl _, Nat.zero_le _, fun _ => rfl⟩
theorem Slt.below (h : Slt w A c l) (hb : Below w.heap.size w w') : Slt w' A c l := by
  refine ⟨fun k x hx => ?_, h.cap, h.top, h.nil⟩
  obtain ⟨b, off, e, h0⟩ := h.cells k x hx
  exact ⟨b, off, e, h0.below hb⟩
theorem Slt.lenI (h : Slt w A c l) : l.length ≤ 9223372036854775807 := Nat.le_trans h.cap (by have := h.top; simpa [maxLen] using this)
theorem Slt.lt (h : Slt w A c l) {k : Nat} (hk : k < l.length) : ∃ b off s, A = some ⟨b, off, none⟩ ∧ l[k]? = some s ∧ C4 w b (off + k * 4) s := by
  obtain ⟨s, hs⟩ : ∃ s, l[k]? = some s := ⟨_, List.getElem?_eq_getElem hk⟩
  obtain ⟨b, off, e, h0⟩ := h.cells k s hs
  exact ⟨b, off, s, e, hs, h0⟩
end
theorem info_slot : (Try.prog.info? 32).map (fun i => (i.zero, i.size, i.bytes)) = some (some (.agg #[.int .i64 0, .int .i64 0, .int .i64 0, .int .i64 0]), 4, 32) := by kernel_rfl
theorem zero_slot (w : World) : (zeroValue 32).run Try.prog w = .ok (.agg #[.int .i64 0, .int .i64 0, .int .i64 0, .int .i64 0]) w := by kernel_rfl
/-- reservations of one's own -/
abbrev OwnL (w : World) (base : Nat) (v : Value) (l : List SlotD) : Prop := w.ownsRow base 32 4 v l.length (flat4 l)
section
variable {w w' : World} {base : Nat} {v : Value} {l : List SlotD}
theorem OwnL.nil (w : World) (base : Nat) : OwnL w base (.slice none 0 0) [] := World.ownsRow_nil w base _ 4
theorem OwnL.kept {row : Option Nat} (h : OwnL w base v l) (hg : w.grownBy w' row) (hr : ∀ b, row = some b → b < base) : OwnL w' base v l := by
  refine ⟨h.1, ?_⟩
  rcases h.2 with h0 | ⟨g, cap, cur, hv, hbg, hh, rest⟩
  · exact Or.inl h0
  · exact Or.inr ⟨g, cap, cur, hv, hbg, by rw [hg.block g (Dag.blk_lt hh) (fun e => by have := hr g e.symm; omega)]; exact hh, rest⟩
theorem OwnL.below (h : OwnL w base v l) (hb : Below w.heap.size w w') : OwnL w' base v l := by
  refine ⟨h.1, ?_⟩
  rcases h.2 with h0 | ⟨g, cap, cur, hv, hbg, hh, rest⟩
  · exact Or.inl h0
  · exact Or.inr ⟨g, cap, cur, hv, hbg, by rw [hb.block g (Dag.blk_lt hh)]; exact hh, rest⟩
theorem own_cells (h : OwnL w base v l) : (v = .slice none 0 0 ∧ l = []) ∨ ∃ g cap, v = .slice (some ⟨g, 0, none⟩) l.length cap ∧ base ≤ g ∧ g < w.heap.size ∧ l.length ≤ cap ∧ cap ≤ maxLen ∧ (∃ cur : Array Value, w.heap[g]? = some (Obj.cells cur 32 (0, 0)) ∧ ∀ (i : Nat) (u : Value), (flat4 l)[i]? = some u → cur[i]? = some u) := by
  rcases h.2 with ⟨hv, hn⟩ | ⟨g, cap, cur, hv, hbg, hh, h1, h2, h3, h4⟩
  · exact Or.inl ⟨hv, List.eq_nil_of_length_eq_zero hn⟩
  · refine Or.inr ⟨g, cap, hv, hbg, Dag.blk_lt hh, h1, h2, cur, hh, fun i u hi => ?_⟩
    have hi1 : i < (flat4 l).length := (List.getElem?_eq_some_iff.1 hi).1
    rw [flat4_len] at hi1
    have e' : (cur.toList.take (l.length * 4))[i]? = some u := by rw [h4]; exact hi
    rw [List.getElem?_take, if_pos (by omega)] at e'
    rw [← e', Array.getElem?_toList]
theorem OwnL.slice (h : OwnL w base v l) : ∃ A c, v = .slice A l.length c ∧ Slt w A c l := by
  rcases own_cells h with ⟨hv, rfl⟩ | ⟨g, cap, hv, _, _, h1, h2, cur, hh, hc⟩
  · exact ⟨none, 0, hv, Slt.empty _⟩
  · have cell : ∀ i u, (flat4 l)[i]? = some u → w.cell? ⟨g, i, none⟩ = some u := fun i u hi => by
      rw [cell_of_row w g i cur _ (0, 0) hh]; exact hc i u hi
    refine ⟨_, cap, hv, ⟨fun k s hk => ⟨g, 0, rfl, ?_⟩, h1, h2, fun e => by cases e⟩⟩
    obtain ⟨f0, f1, f2, f3⟩ := flat4_0 hk
    rw [Nat.zero_add]
    exact ⟨cell _ _ f0, cell _ _ f1, cell _ _ f2, cell _ _ f3⟩
theorem OwnL.slt {A : Option Addr} {n c : Nat} (h : OwnL w base (.slice A n c) l) : n = l.length ∧ Slt w A c l := by
  obtain ⟨A', c', e1, h1⟩ := h.slice
  injection e1 with a b c
  subst a b c
  exact ⟨rfl, h1⟩
theorem OwnL.blk (h : OwnL w base v l) {b : Nat} (hb : v.ownBlock = some b) : base ≤ b ∧ b < w.heap.size := World.ownsRow.lt h b hb
end
/-- append of one reservation onto reservations of one's own -/
theorem wpList_app4 {w : World} {ops : Array Oper} {rest : List Oper} {o : Oper} {a : Act} {Q : Exit → Act → World → Prop} (hgd : o.guard = none) (s x : Operand)
    (ho : o.op = .call { callee := .builtin .append, args := #[s, x], argTypes := #[35, 35] })
    (base : Nat) (v : Value) (l : List SlotD) (hs : a.eval s = v) (hown : OwnL w base v l) (g cx : Nat) (u : SlotD) (hx : a.eval x = .slice (some ⟨g, 0, none⟩) 1 cx)
    (hc : C4 w g 0 u) (hlen : l.length ≤ 1000000) (hbase : base ≤ w.heap.size)
    (h : ∀ (A' : Option Addr) (c' : Nat) (w' : World), OwnL w' base (.slice A' (l ++ [u]).length c') (l ++ [u]) → w.grownBy w' v.ownBlock → Below base w w' →
      wpList Try.prog ops Q rest (a.put o.dst (.slice A' (l ++ [u]).length c')) w') :
    wpList Try.prog ops Q (o :: rest) a w := by
  obtain ⟨i0, hi0, hz0, hz1, hz2⟩ := info_parts info_slot
  refine wpList_append_own_at w hgd s x _ ho base _ i0 (.agg #[.int .i64 0, .int .i64 0, .int .i64 0, .int .i64 0]) 4 32 Try.underlying35 hi0 hz0 hz1 hz2 rfl (by decide) v l.length (flat4 l) hs hown ⟨g, 0, none⟩ 1 cx [.int .i64 u.id, .int .i64 u.fm, .int .i64 u.to, .int .i64 u.nd] hx rfl ?_ ?_ (by simp only [maxLen]; omega) (by omega) hbase ?_
  · intro j y hy
    rw [Go.WideShapes.add_plain, Nat.zero_add]
    match j, hy with
    | 0, hy => injection hy with hy; subst hy; exact hc.id
    | 1, hy => injection hy with hy; subst hy; exact hc.fm
    | 2, hy => injection hy with hy; subst hy; exact hc.to
    | 3, hy => injection hy with hy; subst hy; exact hc.nd
    | j + 4, hy => simp at hy
  · intro y hy
    simp only [List.mem_cons, List.mem_nil_iff, or_false] at hy
    rcases hy with rfl | rfl | rfl | rfl <;> rfl
  · intro v' w' hown' hg _ hb
    have ho2 : OwnL w' base v' (l ++ [u]) := by
      unfold OwnL
      rw [flat4_app, List.length_append, List.length_singleton]
      exact hown'
    obtain ⟨A', c', e, _⟩ := ho2.slice
    subst e
    exact h A' c' w' ho2 hg ((Below.refl _ _).grown hg hbase fun k hk => (hown.blk hk).1)

/-! in a map -/
def sld (s : SlotD) : DataW Unit := .agg [.lit (.int .i64 s.id), .lit (.int .i64 s.fm), .lit (.int .i64 s.to), .lit (.int .i64 s.nd)]
def slR : Value → Option (DataW Unit × List MemPlace)
  | .agg cs => match cs.toList with
    | [.int .i64 a, .int .i64 b, .int .i64 c, .int .i64 d] => some (sld ⟨a, b, c, d⟩, [])
    | _ => none
  | _ => none
theorem slR_mk (s : SlotD) : slR (.agg #[.int .i64 s.id, .int .i64 s.fm, .int .i64 s.to, .int .i64 s.nd]) = some (sld s, []) := rfl
theorem slR_inv {v : Value} {z : DataW Unit × List MemPlace} (h : slR v = some z) : ∃ s : SlotD, v = .agg #[.int .i64 s.id, .int .i64 s.fm, .int .i64 s.to, .int .i64 s.nd] ∧ z = (sld s, []) := by
  unfold slR at h
  split at h
  · rename_i cs
    split at h
    · rename_i a b c d e
      injection h with h
      subst h
      refine ⟨⟨a, b, c, d⟩, ?_, rfl⟩
      cases cs with
      | mk L => simp at e; subst e; rfl
    · cases h
  · cases h
theorem sld_inj {s u : SlotD} (h : sld s = sld u) : s = u := by
  unfold sld at h
  injection h with h
  simp at h
  exact slotD_ext h.1 h.2.1 h.2.2.1 h.2.2.2
theorem keyed : Maps.Keyed Try.prog 3 := Maps.int_keyed Try.underlying3
theorem key_mk {id : Int} (h : (Lit.int .i64 id).wf = true) : keyOf Try.prog 3 (.int .i64 id) = some (.int .i64 id) := Maps.keyOf_int_mk Try.underlying3 h
theorem key_lit {id : Int} (h : (Lit.int .i64 id).wf = true) : WideAt.IsKeyLit (.int .i64 id) := keyed.key (key_mk h)
structure MapD (D : DataW Unit) (L : List SlotD) : Prop where
  has : ∀ id, Maps.has D (.int .i64 id) = (fndS id L).isSome
  at_ : ∀ s ∈ L, ∀ z, D.atKey (.int .i64 s.id) z = sld s
  size : Maps.size D = L.length
structure MapS (w : World) (b : Nat) (L : List SlotD) : Prop where
  own : ∃ D : DataW Unit, w.ownsMap Try.prog 3 slR b L.length D ∧ MapD D L
theorem tight {w : World} {b n : Nat} {D : DataW Unit} (h : w.ownsMap Try.prog 3 slR b n D) : w.ownsMap Try.prog 3 slR b (Maps.size D) D := by
  obtain ⟨es, clock, hb, F, hs, rfl⟩ := h
  exact ⟨es, clock, hb, F, by simp [Maps.size, length_sorted], rfl⟩
theorem MapS.lt {w : World} {b : Nat} {L : List SlotD} (h : MapS w b L) : b < w.heap.size := by obtain ⟨D, h, _⟩ := h.own; exact h.lt
theorem MapS.obj {w : World} {b : Nat} {L : List SlotD} (h : MapS w b L) : ∃ es clock, w.heap[b]? = some (.map es clock) := by obtain ⟨D, ⟨es, clock, h, _⟩, _⟩ := h.own; exact ⟨es, clock, h⟩
theorem MapS.kept {w w' : World} {b : Nat} {L : List SlotD} {row : Option Nat} (h : MapS w b L) (hg : w.grownBy w' row) (hne : some b ≠ row) : MapS w' b L := by
  obtain ⟨D, h, hd⟩ := h.own
  exact ⟨D, h.kept hg hne, hd⟩
theorem MapS.below {w w' : World} {b : Nat} {L : List SlotD} (h : MapS w b L) (hb : Below w.heap.size w w') : MapS w' b L := by
  have hl := h.lt
  obtain ⟨D, ⟨es, clock, h, r⟩, hd⟩ := h.own
  exact ⟨D, ⟨es, clock, by rw [hb.block b hl]; exact h, r⟩, hd⟩
theorem MapS.new (w : World) : MapS (w.alloc (.map #[] 0)) w.heap.size [] :=
  ⟨.map [], World.ownsMap_made w _ _ _, fun id => rfl, fun s hs => (by cases hs), rfl⟩
theorem MapS.look {w : World} {b : Nat} {L : List SlotD} (h : MapS w b L) {id : Int} (hw : (Lit.int .i64 id).wf = true) :
    (∀ s, fndS id L = some s → (Instr.lookup 63 (.map (some b)) (.int .i64 id) true).run Try.prog w = .ok (.tuple #[.agg #[.int .i64 s.id, .int .i64 s.fm, .int .i64 s.to, .int .i64 s.nd], .bool true]) w) ∧
    (fndS id L = none → (Instr.lookup 63 (.map (some b)) (.int .i64 id) true).run Try.prog w = .ok (.tuple #[.agg #[.int .i64 0, .int .i64 0, .int .i64 0, .int .i64 0], .bool false]) w) := by
  obtain ⟨D, ho, hd⟩ := h.own
  obtain ⟨v, ps, hrun, hv⟩ := ho.look_ok keyed Try.underlying63 (zero_slot w) (slR_mk ⟨0, 0, 0, 0⟩) (key_mk hw)
  rw [hd.has] at hrun
  obtain ⟨u, rfl, hz⟩ := slR_inv hv
  injection hz with hz _
  refine ⟨fun s hs => ?_, fun hn => ?_⟩
  · obtain ⟨hm, hid⟩ := fnd_some hs
    have := hd.at_ s hm (sld ⟨0, 0, 0, 0⟩)
    rw [hid, hz] at this
    obtain rfl := sld_inj this
    rw [hs] at hrun
    exact hrun
  · have hh := hd.has id
    rw [hn] at hh
    rw [Maps.atKey_of_not_has hh] at hz
    obtain rfl := sld_inj hz
    rw [hn] at hrun
    exact hrun
theorem MapD.put {D : DataW Unit} {L : List SlotD} (h : MapD D L) (ht : Maps.Tidy D) (hr : RiseI 0 L) {s : SlotD} (hs : 0 < s.id) (hw : (Lit.int .i64 s.id).wf = true) : MapD (D.put (.int .i64 s.id) (sld s)) (insS s (remS s.id L)) := by
  have hn : fndS s.id (remS s.id L) = none := by rw [fnd_rem hr, if_pos rfl]
  have hR := rise_rem (id := s.id) hr
  refine ⟨fun id => ?_, fun u hu z => ?_, ?_⟩
  · by_cases e : id = s.id
    · subst e
      rw [Maps.has_put_same ht.isMap (key_lit hw), fnd_ins hR hs hn, if_pos rfl]; rfl
    · rw [Maps.has_put_other (by intro q; injection q with _ q; exact e q), h.has, fnd_ins hR hs hn, if_neg e, fnd_rem hr, if_neg e]
  · rcases mem_ins.1 hu with rfl | hu
    · exact Maps.atKey_put_same ht.isMap (key_lit hw) _ _
    · obtain ⟨h1, h2⟩ := mem_rem.1 hu
      rw [Maps.atKey_put_other (by intro q; injection q with _ q; exact h2 q)]
      exact h.at_ u h1 z
  · rw [Maps.size_put ht, h.has, len_ins, h.size]
    cases hf : fndS s.id L with
    | none => rw [rem_no hf]; rfl
    | some u => have := len_remY hr hf; simp; omega
theorem MapD.del {D : DataW Unit} {L : List SlotD} (h : MapD D L) (ht : Maps.Tidy D) (hr : RiseI 0 L) (id : Int) : MapD (D.del (.int .i64 id)) (remS id L) := by
  refine ⟨fun j => ?_, fun u hu z => ?_, ?_⟩
  · rw [fnd_rem hr]
    by_cases e : j = id
    · subst e
      rw [Maps.has_del_same, if_pos rfl]; rfl
    · rw [Maps.has_del_other (by intro q; injection q with _ q; exact e q), h.has, if_neg e]
  · obtain ⟨h1, h2⟩ := mem_rem.1 hu
    rw [Maps.atKey_del_other (by intro q; injection q with _ q; exact h2 q)]
    exact h.at_ u h1 z
  · have := Maps.size_del ht (k := .int .i64 id)
    rw [h.has, h.size] at this
    cases hf : fndS id L with
    | none => rw [hf] at this; rw [rem_no hf]; simpa using this
    | some u => rw [hf] at this; have h2 := len_remY hr hf; simp at this; omega
section
variable {w : World} {ops : Array Oper} {rest : List Oper} {o : Oper} {a : Act} {Q : Exit → Act → World → Prop}
theorem wpList_mput (hg : o.guard = none) (m x v : Operand) (hop : o.op = Op.mapUpdate 63 m x v) (b : Nat) (L : List SlotD) (s : SlotD) (hm : a.eval m = .map (some b)) (h : MapS w b L) (hr : RiseI 0 L) (hl : L.length ≤ 1000000)
    (hx : a.eval x = .int .i64 s.id) (hv : a.eval v = .agg #[.int .i64 s.id, .int .i64 s.fm, .int .i64 s.to, .int .i64 s.nd]) (hs : 0 < s.id) (hw : (Lit.int .i64 s.id).wf = true)
    (hK : ∀ w', MapS w' b (insS s (remS s.id L)) → w.grownBy w' (some b) → wpList Try.prog ops Q rest (a.put o.dst undef) w') : wpList Try.prog ops Q (o :: rest) a w := by
  obtain ⟨D, ho, hd⟩ := h.own
  refine wpList_mapUpdate_own w hg m x v _ hop 3 32 keyed Try.underlying63 slR b L.length D hm ho (by simp only [maxLen]; omega) _ _ (.int .i64 s.id) hx hv (key_mk hw) (sld s) [] (slR_mk s) fun w' h1 h2 => ?_
  have hd2 := hd.put (ho.tidy keyed) hr hs hw
  have h3 := tight h1
  rw [hd2.size] at h3
  exact hK w' ⟨_, h3, hd2⟩ h2
theorem wpList_mdel (hg : o.guard = none) (m x : Operand) (hop : o.op = Op.call { callee := Callee.builtin Builtin.delete, args := #[m, x], argTypes := #[63, 3] }) (b : Nat) (L : List SlotD) (id : Int) (hm : a.eval m = .map (some b)) (h : MapS w b L) (hr : RiseI 0 L)
    (hx : a.eval x = .int .i64 id) (hw : (Lit.int .i64 id).wf = true)
    (hK : ∀ w', MapS w' b (remS id L) → w.grownBy w' (some b) → wpList Try.prog ops Q rest (a.put o.dst (.tuple #[])) w') : wpList Try.prog ops Q (o :: rest) a w := by
  obtain ⟨D, ho, hd⟩ := h.own
  refine wpList_delete_own w hg m x _ _ hop 32 keyed Try.underlying63 slR b L.length D hm ho _ (.int .i64 id) hx (key_mk hw) fun w' h1 h2 => ?_
  have hd2 := hd.del (ho.tidy keyed) hr id
  have h3 := tight h1
  rw [hd2.size] at h3
  exact hK w' ⟨_, h3, hd2⟩ h2.grown
end
theorem MapS.len {w : World} {b : Nat} {L : List SlotD} (h : MapS w b L) (ty : TypeId) : (Builtin.len_ #[63] ty #[.map (some b)]).run Try.prog w = .ok (.int .i64 L.length) w := by
  obtain ⟨D, ho, hd⟩ := h.own
  have := ho.len Try.underlying63 ty
  rwa [hd.size] at this
end Go.Proofs.Ytapojmniokdjfaa.Bk
/- Layer 11: a map's entry that is found first and stored then, among other assignments. -/
namespace Go.Proofs.Ytapojmniokdjfaa.Bk
open Go.RowKit Go.Shelf Go.ChangeMaps Go.MapKept Go.WideShapes
open Go.WideElems (Fit findIdx_born findIdx_arr modify_last set_self)
set_option linter.unusedVariables false
set_option maxRecDepth 100000

theorem entry_two {P : Program} {k e t : TypeId} {R : Value → Option (DataW Unit × List MemPlace)} {w : World} {b : Nat} {es : Array MapEntry} {clock : Nat} (K : Maps.Keyed P k) (ht : P.underlying t = some (.map k e)) {z : Value} (hz : ∀ u : World, (zeroValue e).run P u = .ok z u)
    (hb : w.heap[b]? = some (.map es clock)) (F : Fit P k R es clock) {key : Value} {kl : Lit} (hkey : keyOf P k key = some kl) :
    ∃ (v0 : Value) (st : Nat) (es1 : Array MapEntry) (c1 : Nat), (Instr.mapEntry t (.map (some b)) key).run P w = .ok (.tuple #[v0, goInt st]) (setBlock w b (.map es1 c1)) ∧
      ∀ (w2 : World) (val : Value), w2.heap[b]? = some (.map es1 c1) → ∃ es' c', (Instr.entryStore t (.map (some b)) (goInt st) val).run P w2 = .ok () (setBlock w2 b (.map es' c')) ∧ (Instr.mapUpdate t (.map (some b)) key val).run P w = .ok () (setBlock w b (.map es' c')) := by
  obtain ⟨s1, s2, _⟩ := F.stamped
  rcases K.find w hkey es.toList F.keys with ⟨h1, h2⟩ | ⟨j, e0, h1, h2, h3⟩
  · have hidx : (es.push ⟨key, z, clock⟩).findIdx? (fun e => ((e.born : Nat) : Int) == ((clock : Nat) : Int)) = some es.size := by
      rw [findIdx_arr]
      refine findIdx_born (l := (es.push ⟨key, z, clock⟩).toList) (j := es.size) (e0 := ⟨key, z, clock⟩) ?_ (by simp)
      rw [Array.toList_push, List.map_append]
      refine List.nodup_append.2 ⟨s2, by simp, fun a ha c hc e1 => ?_⟩
      obtain ⟨x, hx, rfl⟩ := List.mem_map.1 ha
      have := s1 x hx
      simp at hc
      omega
    have hmod : ∀ val : Value, (es.push ⟨key, z, clock⟩).modify es.size (fun e => { e with val := val }) = es.push ⟨key, val, clock⟩ := fun val => by
      apply Array.ext'
      rw [Array.toList_modify, Array.toList_push, Array.toList_push, ← Array.length_toList, modify_last]
    refine ⟨z, clock, es.push ⟨key, z, clock⟩, clock + 1, ?_, fun w2 val hw2 => ⟨es.push ⟨key, val, clock⟩, clock + 1, ?_, ?_⟩⟩
    · simp [Instr.mapEntry, run_underlying ht, MapKept.run_getObj_map hb, K.check w false hkey, h1, hz, MapKept.run_setObj_map _ hb, Result.andThen, setBlock]
    · simp [Instr.entryStore, MapKept.run_getObj_map hw2, asInt, asIntOf, goInt, hidx, hmod, MapKept.run_setObj_map _ hw2, Result.andThen, setBlock]
    · simp [Instr.mapUpdate, run_underlying ht, MapKept.run_getObj_map hb, K.check w false hkey, h1, MapKept.run_setObj_map _ hb, Result.andThen, setBlock]
  · have hj : es[j]? = some e0 := by simpa using h2
    have hsame : es.modify j (fun e => { e with key := key }) = es := by
      apply Array.ext'
      rw [Array.toList_modify, modify_eq_set _ _ _ _ h2, show ({ e0 with key := key } : MapEntry) = e0 from by rw [← h3]]
      exact set_self _ _ _ h2
    have hidx : es.findIdx? (fun e => ((e.born : Nat) : Int) == ((e0.born : Nat) : Int)) = some j := (findIdx_arr _ _).trans (findIdx_born s2 h2)
    have hmod : ∀ val : Value, es.modify j (fun e => { e with val := val }) = es.modify j (fun e' => { e' with key := key, val := val }) := fun val => by
      apply Array.ext'
      rw [Array.toList_modify, Array.toList_modify, modify_eq_set _ _ _ _ h2, modify_eq_set _ _ _ _ h2, ← h3]
    refine ⟨e0.val, e0.born, es, clock, ?_, fun w2 val hw2 => ⟨es.modify j (fun e' => { e' with key := key, val := val }), clock, ?_, ?_⟩⟩
    · simp [Instr.mapEntry, run_underlying ht, MapKept.run_getObj_map hb, K.check w false hkey, h1, hj, h3, K.stays w hkey, hsame, MapKept.run_setObj_map _ hb, Result.andThen, setBlock]
    · simp [Instr.entryStore, MapKept.run_getObj_map hw2, asInt, asIntOf, goInt, hidx, hmod, MapKept.run_setObj_map _ hw2, Result.andThen, setBlock]
    · simp [Instr.mapUpdate, run_underlying ht, MapKept.run_getObj_map hb, K.check w false hkey, h1, hj, h3, K.stays w hkey, MapKept.run_setObj_map _ hb, Result.andThen, setBlock]
theorem grown_set {w : World} {b : Nat} {es : Array MapEntry} {k : Nat} {o' : Obj} (h : w.heap[b]? = some (.map es k)) : w.grownBy (setBlock w b o') (some b) :=
  ⟨rfl, rfl, rfl, by simp [setBlock], fun i _ hi => heap_setBlock_other h _ (fun e => hi (by rw [e]))⟩
/-- found, and stored then -/
theorem MapS.entry {w : World} {b : Nat} {L : List SlotD} (h : MapS w b L) (hr : RiseI 0 L) (hl : L.length ≤ 1000000) {s : SlotD} (hs : 0 < s.id) (hw : (Lit.int .i64 s.id).wf = true) :
    ∃ (v0 : Value) (st : Nat) (w1 : World), (Instr.mapEntry 63 (.map (some b)) (.int .i64 s.id)).run Try.prog w = .ok (.tuple #[v0, (.int .i64 (st : Int))]) w1 ∧ w.grownBy w1 (some b) ∧
      ∀ w2 : World, w2.heap[b]? = w1.heap[b]? → ∃ w3, (Instr.entryStore 63 (.map (some b)) ((.int .i64 (st : Int))) (.agg #[.int .i64 s.id, .int .i64 s.fm, .int .i64 s.to, .int .i64 s.nd])).run Try.prog w2 = .ok () w3 ∧ MapS w3 b (insS s (remS s.id L)) ∧ w2.grownBy w3 (some b) := by
  obtain ⟨D, ho, hd⟩ := h.own
  have ht := ho.tidy keyed
  obtain ⟨w', hrun, h1, _⟩ := ho.update keyed Try.underlying63 (by simp only [maxLen]; omega) (key_mk hw) (slR_mk s)
  obtain ⟨es, clock, hb, F, hsz, hD⟩ := ho
  obtain ⟨v0, st, es1, c1, e1, e2⟩ := entry_two keyed Try.underlying63 zero_slot hb F (key_mk hw)
  refine ⟨v0, st, _, e1, grown_set hb, fun w2 hw2 => ?_⟩
  rw [heap_setBlock_same hb] at hw2
  obtain ⟨es', c', e3, e4⟩ := e2 w2 (.agg #[.int .i64 s.id, .int .i64 s.fm, .int .i64 s.to, .int .i64 s.nd]) hw2
  rw [e4] at hrun
  injection hrun with _ hrun
  subst hrun
  have hd2 := hd.put ht hr hs hw
  have h3 := tight h1
  rw [hd2.size] at h3
  refine ⟨_, e3, ⟨_, ?_, hd2⟩, grown_set hw2⟩
  obtain ⟨es2, c2, q1, q2⟩ := h3
  rw [heap_setBlock_same hb] at q1
  injection q1 with q1
  injection q1 with q3 q4
  subst q3 q4
  exact ⟨_, _, heap_setBlock_same hw2 _, q2⟩
end Go.Proofs.Ytapojmniokdjfaa.Bk

