/- Layer 9 in plain words: what is free over a while, all together; the least and the greatest. -/
import Derived.Test.YtapojmniokdjfaaStpP
import Derived.Test.YtapojmniokdjfaaStpI
namespace Go.Proofs.Ytapojmniokdjfaa.Stp
open Go.RowKit Go.Shelf
set_option linter.unusedVariables false
set_option maxRecDepth 100000

def sumT (f : Int → Int) (a : Int) : Nat → Int
  | 0 => 0
  | n + 1 => sumT f a n + f (a + n)
def sumV (f : Int → Int) (a b : Int) : Int := sumT f a (b - a).toNat
theorem sumT_add (f : Int → Int) (a : Int) (n : Nat) : ∀ m, sumT f a (n + m) = sumT f a n + sumT f (a + n) m
  | 0 => by simp [sumT]
  | m + 1 => by
    rw [← Nat.add_assoc]
    show sumT f a (n + m) + f (a + ((n + m : Nat) : Int)) = sumT f a n + (sumT f (a + n) m + f (a + n + m))
    rw [sumT_add f a n m, Int.natCast_add]
    rw [show a + ((n : Int) + (m : Int)) = a + n + m from by omega]
    omega
theorem sum_self (f : Int → Int) (a : Int) : sumV f a a = 0 := by unfold sumV; rw [Int.sub_self]; rfl
theorem sum_split {f : Int → Int} {a b c : Int} (h : a ≤ b) (k : b ≤ c) : sumV f a c = sumV f a b + sumV f b c := by
  unfold sumV
  rw [show (c - a).toNat = (b - a).toNat + (c - b).toNat from by omega, sumT_add, show a + ((b - a).toNat : Int) = b from by omega]
theorem sumT_congr {f g : Int → Int} {a : Int} : ∀ (n : Nat), (∀ t, a ≤ t → t < a + n → f t = g t) → sumT f a n = sumT g a n
  | 0, _ => rfl
  | n + 1, h => by
    show sumT f a n + f (a + n) = sumT g a n + g (a + n)
    rw [sumT_congr n (fun t h1 h2 => h t h1 (by omega)), h (a + n) (by omega) (by omega)]
theorem sum_congr {f g : Int → Int} {a b : Int} (h : ∀ t, a ≤ t → t < b → f t = g t) : sumV f a b = sumV g a b := sumT_congr _ fun t h1 h2 => h t h1 (by omega)
theorem sumT_const (v a : Int) : ∀ (n : Nat), sumT (fun _ => v) a n = v * n
  | 0 => by simp [sumT]
  | n + 1 => by
    show sumT (fun _ => v) a n + v = v * ((n : Int) + 1)
    rw [sumT_const v a n, Int.mul_add, Int.mul_one]
theorem sum_const {f : Int → Int} {a b v : Int} (h : a ≤ b) (k : ∀ t, a ≤ t → t < b → f t = v) : sumV f a b = v * (b - a) := by
  rw [sum_congr (g := fun _ => v) k]
  unfold sumV
  rw [sumT_const, show ((b - a).toNat : Int) = b - a from by omega]
theorem sumT_bd {f : Int → Int} {a lo hi : Int} : ∀ (n : Nat), (∀ t, a ≤ t → t < a + n → lo ≤ f t ∧ f t ≤ hi) → lo * n ≤ sumT f a n ∧ sumT f a n ≤ hi * n
  | 0, _ => by simp [sumT]
  | n + 1, h => by
    have h1 := sumT_bd n (fun t h1 h2 => h t h1 (by omega))
    have h2 := h (a + n) (by omega) (by omega)
    show lo * ((n : Int) + 1) ≤ sumT f a n + f (a + n) ∧ sumT f a n + f (a + n) ≤ hi * ((n : Int) + 1)
    rw [Int.mul_add, Int.mul_add, Int.mul_one, Int.mul_one]
    omega
theorem sum_bd {f : Int → Int} {a b lo hi : Int} (h : a ≤ b) (k : ∀ t, a ≤ t → t < b → lo ≤ f t ∧ f t ≤ hi) : lo * (b - a) ≤ sumV f a b ∧ sumV f a b ≤ hi * (b - a) := by
  have := sumT_bd (f := f) (a := a) (lo := lo) (hi := hi) (b - a).toNat (fun t h1 h2 => k t h1 (by omega))
  rw [show ((b - a).toNat : Int) = b - a from by omega] at this
  exact this

theorem val_app : ∀ (pre R : List StepD) (d t : Int), (∀ s ∈ pre, s.at_ ≤ t) → valF d (pre ++ R) t = valF (lastV d pre) R t
  | [], R, d, t, _ => rfl
  | s :: pre, R, d, t, h => by
    rw [List.cons_append, val_cons (h s (by simp))]
    exact val_app pre R s.fr t fun u hu => h u (by simp [hu])
theorem val_front : ∀ (R post : List StepD) (d t : Int), (∀ s ∈ post, t < s.at_) → valF d (R ++ post) t = valF d R t
  | [], [], d, t, _ => rfl
  | [], s :: post, d, t, h => val_ahead (h s (by simp))
  | s :: R, post, d, t, h => by
    rw [List.cons_append]
    by_cases hs : s.at_ ≤ t
    · rw [val_cons hs, val_cons hs]; exact val_front R post s.fr t h
    · rw [val_ahead (by omega), val_ahead (by omega)]
theorem led_lt : ∀ {l : List StepD} {t : Int} {j : Nat} {s : StepD}, l[j]? = some s → j < ledF l t → s.at_ ≤ t
  | [], t, j, s, h, _ => by simp at h
  | u :: l, t, j, s, h, hj => by
    unfold ledF at hj
    by_cases hu : u.at_ ≤ t
    · rw [if_pos hu] at hj
      cases j with
      | zero => simp at h; subst h; exact hu
      | succ j => exact led_lt (by simpa using h) (by omega)
    · rw [if_neg hu] at hj; omega
theorem led_ge : ∀ {l : List StepD} {lo t : Int} {j : Nat} {s : StepD}, Rise lo l → l[j]? = some s → ledF l t ≤ j → t < s.at_
  | [], lo, t, j, s, _, h, _ => by simp at h
  | u :: l, lo, t, j, s, ⟨h1, h2⟩, h, hj => by
    unfold ledF at hj
    by_cases hu : u.at_ ≤ t
    · rw [if_pos hu] at hj
      cases j with
      | zero => omega
      | succ j => exact led_ge (j := j) h2 (by simpa using h) (by omega)
    · have h3 := rise_at (l := u :: l) (lo := u.at_ - 1) ⟨by omega, h2⟩ h
      omega
theorem rise_drop : ∀ {l : List StepD} {lo : Int} (n : Nat), Rise lo l → ∃ lo', Rise lo' (l.drop n)
  | l, lo, 0, h => ⟨lo, h⟩
  | [], lo, n + 1, h => ⟨lo, trivial⟩
  | s :: l, lo, n + 1, ⟨_, h⟩ => rise_drop n h
theorem rise_take : ∀ {l : List StepD} {lo : Int} (n : Nat), Rise lo l → Rise lo (l.take n)
  | l, lo, 0, h => by rw [List.take_zero]; trivial
  | [], lo, n + 1, h => trivial
  | s :: l, lo, n + 1, ⟨h1, h2⟩ => ⟨h1, rise_take n h2⟩
/-- the steps of a while, opened -/
structure PartY (l : List StepD) (a b : Int) (x : StepD) (Q : List StepD) : Prop where
  part : partL l a b = x :: Q
  rise : Rise x.at_ Q
  first : x.at_ ≤ a
  mid : ∀ s ∈ Q, a < s.at_ ∧ s.at_ < b
  val : ∀ t, a ≤ t → t < b → valF 0 l t = valF x.fr Q t
theorem part_open {l : List StepD} (hp : Prof l) {a b : Int} (ha : 0 ≤ a) (hab : a < b) : ∃ x Q, PartY l a b x Q := by
  obtain ⟨hpl, hp1⟩ := part_len hp ha hab
  have hla := hp.led ha
  have hlb := led_mono l (show a ≤ b - 1 by omega)
  have hln := led_le l (b - 1)
  obtain ⟨i, hi⟩ : ∃ i, ledF l a = i + 1 := ⟨ledF l a - 1, by omega⟩
  have hPe : partL l a b = (l.drop i).take (ledF l (b - 1) - i) := by unfold partL; rw [hi]; rfl
  have hget : ∀ j s, (partL l a b)[j]? = some s → l[i + j]? = some s ∧ i + j < ledF l (b - 1) := fun j s h => by
    rw [hPe] at h
    have hj : j < ledF l (b - 1) - i := by
      rcases Nat.lt_or_ge j (ledF l (b - 1) - i) with q | q
      · exact q
      · rw [List.getElem?_take, if_neg (by omega)] at h; cases h
    rw [List.getElem?_take, if_pos hj, List.getElem?_drop] at h
    exact ⟨h, by omega⟩
  obtain ⟨lo', hr⟩ := rise_drop i hp.rise
  have hr2 := rise_take (ledF l (b - 1) - i) hr
  rw [← hPe] at hr2
  cases hP : partL l a b with
  | nil => rw [hP] at hp1; simp at hp1
  | cons x Q =>
    rw [hP] at hr2 hget
    refine ⟨x, Q, hP, hr2.2, led_lt (hget 0 x rfl).1 (by omega), fun s hs => ?_, fun t h1 h2 => ?_⟩
    · obtain ⟨j, hj⟩ := List.getElem?_of_mem hs
      obtain ⟨k1, k2⟩ := hget (j + 1) s (by simpa using hj)
      have k3 := led_lt k1 k2
      have k4 := led_ge (t := a) hp.rise k1 (by omega)
      omega
    · have e1 : l = l.take i ++ ((l.drop i).take (ledF l (b - 1) - i) ++ (l.drop i).drop (ledF l (b - 1) - i)) := by
        rw [List.take_append_drop, List.take_append_drop]
      have hpre : ∀ s ∈ l.take i, s.at_ ≤ t := fun s hs => by
        obtain ⟨j, hj⟩ := List.getElem?_of_mem hs
        have hji : j < i := by
          rcases Nat.lt_or_ge j i with q | q
          · exact q
          · rw [List.getElem?_take, if_neg (by omega)] at hj; cases hj
        rw [List.getElem?_take, if_pos hji] at hj
        have := led_lt hj (show j < ledF l a by omega)
        omega
      have hpost : ∀ s ∈ (l.drop i).drop (ledF l (b - 1) - i), t < s.at_ := fun s hs => by
        obtain ⟨j, hj⟩ := List.getElem?_of_mem hs
        rw [List.getElem?_drop, List.getElem?_drop] at hj
        have := led_ge (t := b - 1) hp.rise hj (by omega)
        omega
      have hx := led_lt (hget 0 x rfl).1 (show i + 0 < ledF l a by omega)
      have e2 : valF 0 l t = valF 0 (l.take i ++ ((l.drop i).take (ledF l (b - 1) - i) ++ (l.drop i).drop (ledF l (b - 1) - i))) t := congrArg (fun z => valF 0 z t) e1
      rw [e2, val_app _ _ _ _ hpre, val_front _ _ _ _ hpost, ← hPe, hP, val_cons (by omega)]
def hdV (Q : List StepD) (b : Int) : Int := match Q with
  | [] => b
  | y :: _ => y.at_
theorem ar_is (a b : Int) : ∀ (Q : List StepD) (x : Int) (d : Int), Rise x Q → (∀ s ∈ Q, a < s.at_ ∧ s.at_ < b) → arS a (0, b) Q.reverse = (sumV (valF d Q) (hdV Q b) b, hdV Q b)
  | [], x, d, _, _ => by show ((0 : Int), b) = (sumV (valF d []) b b, b); rw [sum_self]
  | y :: Q, x, d, ⟨h1, h2⟩, hm => by
    have hy := hm y (by simp)
    have ih := ar_is a b Q y.at_ y.fr h2 (fun s hs => hm s (by simp [hs]))
    rw [List.reverse_cons, arS_app, ih]
    have hh : y.at_ ≤ hdV Q b ∧ hdV Q b ≤ b := by
      cases Q with
      | nil => exact ⟨by show y.at_ ≤ b; omega, Int.le_refl _⟩
      | cons z Q => have := hm z (by simp); exact ⟨by have := h2.1; show y.at_ ≤ z.at_; omega, by show z.at_ ≤ b; omega⟩
    have hlow : ∀ t, y.at_ ≤ t → t < hdV Q b → valF d (y :: Q) t = y.fr := fun t k1 k2 => by
      rw [val_cons k1]
      cases Q with
      | nil => rfl
      | cons z Q => exact val_ahead k2
    have e1 : sumV (valF d (y :: Q)) y.at_ (hdV Q b) = y.fr * (hdV Q b - y.at_) := sum_const hh.1 hlow
    have e2 : sumV (valF d (y :: Q)) (hdV Q b) b = sumV (valF y.fr Q) (hdV Q b) b := sum_congr fun t k1 k2 => val_cons (by omega)
    have e3 : mxV y.at_ a = y.at_ := by unfold mxV; rw [if_neg (by omega)]
    show (sumV (valF y.fr Q) (hdV Q b) b + y.fr * (hdV Q b - mxV y.at_ a), y.at_) = (sumV (valF d (y :: Q)) y.at_ b, y.at_)
    rw [e3, sum_split hh.1 hh.2, e1, e2, Int.add_comm]
theorem area_is {l : List StepD} {a b : Int} (h : durE l a b = 0) : areaV l a b = sumV (valF 0 l) a b := by
  obtain ⟨hp, hi, hj, hab⟩ := dur_yes h
  have ha := Clk.isT_bd hi
  unfold areaV
  rw [if_pos h]
  unfold durL
  by_cases hlt : a < b
  · rw [if_pos ⟨h, hlt⟩]
    obtain ⟨x, Q, hy⟩ := part_open hp ha.1 hlt
    rw [hy.part, List.reverse_cons, arS_app, ar_is a b Q x.at_ x.fr hy.rise hy.mid]
    have hh : a ≤ hdV Q b ∧ hdV Q b ≤ b := by
      cases hQ : Q with
      | nil => exact ⟨by show a ≤ b; omega, Int.le_refl _⟩
      | cons z Q' => have := hy.mid z (by rw [hQ]; simp); exact ⟨by show a ≤ z.at_; omega, by show z.at_ ≤ b; omega⟩
    have e3 : mxV x.at_ a = a := by
      have := hy.first
      unfold mxV
      by_cases q : x.at_ < a
      · rw [if_pos q]
      · rw [if_neg q]; omega
    have e1 : sumV (valF 0 l) a (hdV Q b) = x.fr * (hdV Q b - a) := sum_const hh.1 fun t k1 k2 => by
      rw [hy.val t k1 (by omega)]
      cases hQ : Q with
      | nil => rfl
      | cons z Q' => rw [hQ] at k2; exact val_ahead k2
    have e2 : sumV (valF 0 l) (hdV Q b) b = sumV (valF x.fr Q) (hdV Q b) b := sum_congr fun t k1 k2 => hy.val t (by omega) k2
    show sumV (valF x.fr Q) (hdV Q b) b + x.fr * (hdV Q b - mxV x.at_ a) = _
    rw [e3, sum_split hh.1 hh.2, e1, e2, Int.add_comm]
  · have : a = b := by omega
    subst this
    rw [if_neg (by omega), sum_self]; rfl
/-- the least of a while -/
def IsMin (f : Int → Int) (a b x : Int) : Prop := (∀ t, a ≤ t → t < b → x ≤ f t) ∧ ∃ t, a ≤ t ∧ t < b ∧ f t = x
def IsMax (f : Int → Int) (a b x : Int) : Prop := (∀ t, a ≤ t → t < b → f t ≤ x) ∧ ∃ t, a ≤ t ∧ t < b ∧ f t = x
theorem isMin_uniq {f : Int → Int} {a b x y : Int} (h : IsMin f a b x) (k : IsMin f a b y) : x = y := by
  obtain ⟨h1, t, h2, h3, h4⟩ := h
  obtain ⟨k1, u, k2, k3, k4⟩ := k
  have := h1 u k2 k3; have := k1 t h2 h3; omega
theorem isMax_uniq {f : Int → Int} {a b x y : Int} (h : IsMax f a b x) (k : IsMax f a b y) : x = y := by
  obtain ⟨h1, t, h2, h3, h4⟩ := h
  obtain ⟨k1, u, k2, k3, k4⟩ := k
  have := h1 u k2 k3; have := k1 t h2 h3; omega
theorem minF_is : ∀ (l : List StepD) (m : Int), minF m l ≤ m ∧ (∀ s ∈ l, minF m l ≤ s.fr) ∧ (minF m l = m ∨ ∃ s ∈ l, minF m l = s.fr)
  | [], m => ⟨Int.le_refl _, fun s h => (by cases h), Or.inl rfl⟩
  | u :: l, m => by
    unfold minF
    by_cases h : u.fr < m
    · rw [if_pos h]
      obtain ⟨h1, h2, h3⟩ := minF_is l u.fr
      refine ⟨by omega, fun s hs => ?_, ?_⟩
      · rcases List.mem_cons.1 hs with rfl | hs
        · exact h1
        · exact h2 s hs
      · rcases h3 with e | ⟨s, hs, e⟩
        · exact Or.inr ⟨u, by simp, e⟩
        · exact Or.inr ⟨s, by simp [hs], e⟩
    · rw [if_neg h]
      obtain ⟨h1, h2, h3⟩ := minF_is l m
      refine ⟨h1, fun s hs => ?_, ?_⟩
      · rcases List.mem_cons.1 hs with rfl | hs
        · omega
        · exact h2 s hs
      · rcases h3 with e | ⟨s, hs, e⟩
        · exact Or.inl e
        · exact Or.inr ⟨s, by simp [hs], e⟩
theorem maxF_is : ∀ (l : List StepD) (m : Int), m ≤ maxF m l ∧ (∀ s ∈ l, s.fr ≤ maxF m l) ∧ (maxF m l = m ∨ ∃ s ∈ l, maxF m l = s.fr)
  | [], m => ⟨Int.le_refl _, fun s h => (by cases h), Or.inl rfl⟩
  | u :: l, m => by
    unfold maxF
    by_cases h : m < u.fr
    · rw [if_pos h]
      obtain ⟨h1, h2, h3⟩ := maxF_is l u.fr
      refine ⟨by omega, fun s hs => ?_, ?_⟩
      · rcases List.mem_cons.1 hs with rfl | hs
        · exact h1
        · exact h2 s hs
      · rcases h3 with e | ⟨s, hs, e⟩
        · exact Or.inr ⟨u, by simp, e⟩
        · exact Or.inr ⟨s, by simp [hs], e⟩
    · rw [if_neg h]
      obtain ⟨h1, h2, h3⟩ := maxF_is l m
      refine ⟨h1, fun s hs => ?_, ?_⟩
      · rcases List.mem_cons.1 hs with rfl | hs
        · omega
        · exact h2 s hs
      · rcases h3 with e | ⟨s, hs, e⟩
        · exact Or.inl e
        · exact Or.inr ⟨s, by simp [hs], e⟩
theorem end_yes {l : List StepD} {a b : Int} (h : endE l a b = 0) : durE l a b = 0 ∧ a < b := by
  unfold endE at h
  by_cases hc : durE l a b = 0 ∧ a < b
  · exact hc
  · rw [if_neg hc] at h; cases h
theorem ext_is {l : List StepD} {a b : Int} (h : endE l a b = 0) : IsMin (valF 0 l) a b (minV l a b) ∧ IsMax (valF 0 l) a b (maxV l a b) := by
  obtain ⟨hd, hlt⟩ := end_yes h
  obtain ⟨hp, hi, hj, hab⟩ := dur_yes hd
  obtain ⟨x, Q, hy⟩ := part_open hp (Clk.isT_bd hi).1 hlt
  have hva : valF 0 l a = x.fr := by
    rw [hy.val a (Int.le_refl _) hlt]
    cases hQ : Q with
    | nil => rfl
    | cons z Q' => have := hy.mid z (by rw [hQ]; simp); exact val_ahead this.1
  have hve : ∀ s ∈ Q, valF 0 l s.at_ = s.fr := fun s hs => by
    have := hy.mid s hs
    rw [hy.val s.at_ (by omega) this.2]
    exact val_elem hy.rise hs
  have hvm : ∀ t, a ≤ t → t < b → valF 0 l t = x.fr ∨ ∃ s ∈ Q, valF 0 l t = s.fr := fun t k1 k2 => by
    rw [hy.val t k1 k2]
    rcases val_mem (l := Q) (d := x.fr) (t := t) with e | ⟨s, hs, e⟩
    · exact Or.inl e
    · exact Or.inr ⟨s, hs, e.symm⟩
  unfold minV maxV
  rw [if_pos h, if_pos h, hy.part]
  obtain ⟨m1, m2, m3⟩ := minF_is (x :: Q) (headV (x :: Q))
  obtain ⟨M1, M2, M3⟩ := maxF_is (x :: Q) (headV (x :: Q))
  have hh : headV (x :: Q) = x.fr := rfl
  rw [hh] at m1 m2 m3 M1 M2 M3 ⊢
  refine ⟨⟨fun t k1 k2 => ?_, ?_⟩, ⟨fun t k1 k2 => ?_, ?_⟩⟩
  · rcases hvm t k1 k2 with e | ⟨s, hs, e⟩
    · rw [e]; exact m1
    · rw [e]; exact m2 s (by simp [hs])
  · rcases m3 with e | ⟨s, hs, e⟩
    · exact ⟨a, Int.le_refl _, hlt, by rw [e]; exact hva⟩
    · rcases List.mem_cons.1 hs with rfl | hs
      · exact ⟨a, Int.le_refl _, hlt, by rw [e]; exact hva⟩
      · have := hy.mid s hs
        exact ⟨s.at_, by omega, this.2, by rw [e]; exact hve s hs⟩
  · rcases hvm t k1 k2 with e | ⟨s, hs, e⟩
    · rw [e]; exact M1
    · rw [e]; exact M2 s (by simp [hs])
  · rcases M3 with e | ⟨s, hs, e⟩
    · exact ⟨a, Int.le_refl _, hlt, by rw [e]; exact hva⟩
    · rcases List.mem_cons.1 hs with rfl | hs
      · exact ⟨a, Int.le_refl _, hlt, by rw [e]; exact hva⟩
      · have := hy.mid s hs
        exact ⟨s.at_, by omega, this.2, by rw [e]; exact hve s hs⟩
end Go.Proofs.Ytapojmniokdjfaa.Stp

