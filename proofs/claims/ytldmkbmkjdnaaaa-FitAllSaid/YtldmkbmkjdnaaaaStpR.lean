/- Layer 9: the document's At, Ends, Area. -/
import Derived.Test.YtldmkbmkjdnaaaaStpQ
import Derived.Test.YtldmkbmkjdnaaaaStpN
import Derived.Test.YtldmkbmkjdnaaaaStpB
namespace Go.Proofs.Ytldmkbmkjdnaaaa.Stp
open Go.RowKit Go.Shelf
open Dag (Ints)
set_option linter.unusedVariables false
set_option maxRecDepth 100000

def eMin (a b : Int) : Int → List StepD → Int
  | m, [] => m
  | m, s :: l => eMin a b (if a ≤ s.at_ ∧ s.at_ < b then (if s.fr < m then s.fr else m) else m) l
def eMax (a b : Int) : Int → List StepD → Int
  | m, [] => m
  | m, s :: l => eMax a b (if a ≤ s.at_ ∧ s.at_ < b then (if m < s.fr then s.fr else m) else m) l
theorem eMin_is (a b : Int) : ∀ (l : List StepD) (m : Int), eMin a b m l ≤ m ∧ (∀ s ∈ l, a ≤ s.at_ → s.at_ < b → eMin a b m l ≤ s.fr) ∧ (eMin a b m l = m ∨ ∃ s ∈ l, a ≤ s.at_ ∧ s.at_ < b ∧ eMin a b m l = s.fr)
  | [], m => ⟨Int.le_refl _, fun s h => (by cases h), Or.inl rfl⟩
  | u :: l, m => by
    unfold eMin
    obtain ⟨q, hq⟩ : ∃ q, (if a ≤ u.at_ ∧ u.at_ < b then (if u.fr < m then u.fr else m) else m) = q := ⟨_, rfl⟩
    rw [hq]
    obtain ⟨h1, h2, h3⟩ := eMin_is a b l q
    have hqm : q ≤ m ∧ (a ≤ u.at_ → u.at_ < b → q ≤ u.fr) ∧ (q = m ∨ a ≤ u.at_ ∧ u.at_ < b ∧ q = u.fr) := by
      rw [← hq]
      by_cases c1 : a ≤ u.at_ ∧ u.at_ < b
      · rw [if_pos c1]
        by_cases c2 : u.fr < m
        · rw [if_pos c2]; exact ⟨by omega, fun _ _ => Int.le_refl _, Or.inr ⟨c1.1, c1.2, rfl⟩⟩
        · rw [if_neg c2]; exact ⟨Int.le_refl _, fun _ _ => by omega, Or.inl rfl⟩
      · rw [if_neg c1]; exact ⟨Int.le_refl _, fun k1 k2 => absurd ⟨k1, k2⟩ c1, Or.inl rfl⟩
    refine ⟨by omega, fun s hs k1 k2 => ?_, ?_⟩
    · rcases List.mem_cons.1 hs with rfl | hs
      · have := hqm.2.1 k1 k2; omega
      · exact h2 s hs k1 k2
    · rcases h3 with e | ⟨s, hs, k1, k2, e⟩
      · rcases hqm.2.2 with e2 | ⟨k1, k2, e2⟩
        · exact Or.inl (e.trans e2)
        · exact Or.inr ⟨u, by simp, k1, k2, e.trans e2⟩
      · exact Or.inr ⟨s, by simp [hs], k1, k2, e⟩
theorem eMax_is (a b : Int) : ∀ (l : List StepD) (m : Int), m ≤ eMax a b m l ∧ (∀ s ∈ l, a ≤ s.at_ → s.at_ < b → s.fr ≤ eMax a b m l) ∧ (eMax a b m l = m ∨ ∃ s ∈ l, a ≤ s.at_ ∧ s.at_ < b ∧ eMax a b m l = s.fr)
  | [], m => ⟨Int.le_refl _, fun s h => (by cases h), Or.inl rfl⟩
  | u :: l, m => by
    unfold eMax
    obtain ⟨q, hq⟩ : ∃ q, (if a ≤ u.at_ ∧ u.at_ < b then (if m < u.fr then u.fr else m) else m) = q := ⟨_, rfl⟩
    rw [hq]
    obtain ⟨h1, h2, h3⟩ := eMax_is a b l q
    have hqm : m ≤ q ∧ (a ≤ u.at_ → u.at_ < b → u.fr ≤ q) ∧ (q = m ∨ a ≤ u.at_ ∧ u.at_ < b ∧ q = u.fr) := by
      rw [← hq]
      by_cases c1 : a ≤ u.at_ ∧ u.at_ < b
      · rw [if_pos c1]
        by_cases c2 : m < u.fr
        · rw [if_pos c2]; exact ⟨by omega, fun _ _ => Int.le_refl _, Or.inr ⟨c1.1, c1.2, rfl⟩⟩
        · rw [if_neg c2]; exact ⟨Int.le_refl _, fun _ _ => by omega, Or.inl rfl⟩
      · rw [if_neg c1]; exact ⟨Int.le_refl _, fun k1 k2 => absurd ⟨k1, k2⟩ c1, Or.inl rfl⟩
    refine ⟨by omega, fun s hs k1 k2 => ?_, ?_⟩
    · rcases List.mem_cons.1 hs with rfl | hs
      · have := hqm.2.1 k1 k2; omega
      · exact h2 s hs k1 k2
    · rcases h3 with e | ⟨s, hs, k1, k2, e⟩
      · rcases hqm.2.2 with e2 | ⟨k1, k2, e2⟩
        · exact Or.inl (e.trans e2)
        · exact Or.inr ⟨u, by simp, k1, k2, e.trans e2⟩
      · exact Or.inr ⟨s, by simp [hs], k1, k2, e⟩
/-- what is free at a time is so from a step of the while, or from its begin on -/
theorem val_from : ∀ {l : List StepD} {lo d a t : Int}, Rise lo l → a ≤ t → valF d l t = valF d l a ∨ ∃ s ∈ l, a ≤ s.at_ ∧ s.at_ ≤ t ∧ valF d l t = s.fr
  | [], lo, d, a, t, _, _ => Or.inl rfl
  | s :: l, lo, d, a, t, ⟨h1, h2⟩, hat => by
    by_cases ht : s.at_ ≤ t
    · rw [val_cons ht]
      rcases val_from (d := s.fr) h2 hat with e | ⟨u, hu, k1, k2, e⟩
      · by_cases ha : s.at_ ≤ a
        · rw [val_cons ha]; exact Or.inl e
        · refine Or.inr ⟨s, by simp, by omega, ht, ?_⟩
          rw [e]; exact val_low h2 (by omega)
      · exact Or.inr ⟨u, by simp [hu], k1, k2, e⟩
    · rw [val_ahead (by omega), val_ahead (by omega)]; exact Or.inl rfl
theorem ends_is {l : List StepD} {a b : Int} (h : endE l a b = 0) : eMin a b (valF 0 l a) l = minV l a b ∧ eMax a b (valF 0 l a) l = maxV l a b := by
  obtain ⟨hd, hlt⟩ := end_yes h
  obtain ⟨hp, hi, hj, hab⟩ := dur_yes hd
  obtain ⟨hm, hM⟩ := ext_is h
  obtain ⟨m1, m2, m3⟩ := eMin_is a b l (valF 0 l a)
  obtain ⟨M1, M2, M3⟩ := eMax_is a b l (valF 0 l a)
  constructor
  · refine isMin_uniq ⟨fun t k1 k2 => ?_, ?_⟩ hm
    · rcases val_from (d := 0) hp.rise k1 with e | ⟨s, hs, q1, q2, e⟩
      · rw [e]; exact m1
      · rw [e]; exact m2 s hs q1 (by omega)
    · rcases m3 with e | ⟨s, hs, q1, q2, e⟩
      · exact ⟨a, Int.le_refl _, hlt, e.symm⟩
      · exact ⟨s.at_, q1, q2, by rw [e]; exact val_elem hp.rise hs⟩
  · refine isMax_uniq ⟨fun t k1 k2 => ?_, ?_⟩ hM
    · rcases val_from (d := 0) hp.rise k1 with e | ⟨s, hs, q1, q2, e⟩
      · rw [e]; exact M1
      · rw [e]; exact M2 s hs q1 (by omega)
    · rcases M3 with e | ⟨s, hs, q1, q2, e⟩
      · exact ⟨a, Int.le_refl _, hlt, e.symm⟩
      · exact ⟨s.at_, q1, q2, by rw [e]; exact val_elem hp.rise hs⟩
set_option maxHeartbeats 3200000 in
theorem rends_any (l : List StepD) (a b : Int) (A : Option Addr) (n c : Nat) (hn : l.length = n) (w : World) (h : Stp w A c l) :
    Calls Try.prog 48 #[.slice A n c, .int .i64 a, .int .i64 b] w fun e w' => e = .returned (.tuple #[.int .i64 (minV l a b), .int .i64 (maxV l a b), .int .i64 (endE l a b)]) ∧ Below w.heap.size w w' := by
  have hnl : n ≤ 9223372036854775807 := by rw [← hn]; exact h.lenI
  have HCK := Lib.hid (rcheck_any l A n c hn w h)
  have HIA := Lib.hid fun (W : World) => Clk.ris_any a W
  have HIB := Lib.hid fun (W : World) => Clk.ris_any b W
  have HF := Lib.hid fun W (hW : Below w.heap.size w W) => free_any l a A n c hn W (h.below hW)
  obtain ⟨e0, he0⟩ : ∃ e0, endE l a b = e0 := ⟨_, rfl⟩
  obtain ⟨mi, hmi⟩ : ∃ mi, minV l a b = mi := ⟨_, rfl⟩
  obtain ⟨ma, hma⟩ : ∃ ma, maxV l a b = ma := ⟨_, rfl⟩
  rw [he0, hmi, hma]
  have hee := he0
  unfold endE at he0
  by_cases hd : durE l a b = 0 ∧ a < b
  case neg =>
    rw [if_neg hd] at he0
    subst he0
    unfold minV at hmi; unfold maxV at hma
    rw [hee, if_neg (by decide)] at hmi hma
    subst hmi hma
    rcases chkE_or l with ⟨hc, hp⟩ | ⟨hc, hp⟩
    · rw [hc] at HCK
      cases hi : Clk.isT a
      · rw [hi] at HIA
        clear h hn hd hi hc hp hee
        go_enter Try.func48, Try.ntmps48
        go_wp2_with fail
        refine HCK.out.mono ?_
        rintro e w1 ⟨rfl, hb1⟩
        go_wp2_with fail
        refine (HIA.out _).mono ?_
        rintro e w2 ⟨rfl, rfl⟩
        go_wp2
        go_ret3
        exact ⟨rfl, hb1⟩
      · rw [hi] at HIA
        cases hj : Clk.isT b
        · rw [hj] at HIB
          clear h hn hd hi hj hc hp hee
          go_enter Try.func48, Try.ntmps48
          go_wp2_with fail
          refine HCK.out.mono ?_
          rintro e w1 ⟨rfl, hb1⟩
          go_wp2_with fail
          refine (HIA.out _).mono ?_
          rintro e w2 ⟨rfl, rfl⟩
          go_wp2_with fail
          refine (HIB.out _).mono ?_
          rintro e w2 ⟨rfl, rfl⟩
          go_wp2
          go_ret3
          exact ⟨rfl, hb1⟩
        · rw [hj] at HIB
          have hba : b ≤ a := by
            rcases Int.lt_or_le a b with q | q
            · exact absurd ⟨by unfold durE; rw [if_pos ⟨chkD_prof.2 hp, hi, hj, by omega⟩], q⟩ hd
            · exact q
          clear h hn hd hi hj hc hp hee
          go_enter Try.func48, Try.ntmps48
          go_wp2_with fail
          refine HCK.out.mono ?_
          rintro e w1 ⟨rfl, hb1⟩
          go_wp2_with fail
          refine (HIA.out _).mono ?_
          rintro e w2 ⟨rfl, rfl⟩
          go_wp2_with fail
          refine (HIB.out _).mono ?_
          rintro e w2 ⟨rfl, rfl⟩
          go_wp2
          go_ret3
          exact ⟨rfl, hb1⟩
    · rw [hc] at HCK
      clear h hn hd hc hp hee
      go_enter Try.func48, Try.ntmps48
      go_wp2_with fail
      refine HCK.out.mono ?_
      rintro e w1 ⟨rfl, hb1⟩
      go_wp2
      go_ret3
      exact ⟨rfl, hb1⟩
  rw [if_pos hd] at he0
  subst he0
  obtain ⟨hp, hi, hj, _⟩ := dur_yes hd.1
  have hlt := hd.2
  have hc : chkE l = 0 := by unfold chkE; rw [if_pos (chkD_prof.2 hp)]
  rw [hc] at HCK
  rw [hi] at HIA
  rw [hj] at HIB
  obtain ⟨i1, i2⟩ := ends_is hee
  rw [hmi] at i1
  rw [hma] at i2
  rw [fold_val hp.rise] at HF
  have H := Lib.hid h; have HN := Lib.hid hn; have HMI := Lib.hid i1; have HMA := Lib.hid i2
  obtain ⟨v, hv⟩ : ∃ v, valF 0 l a = v := ⟨_, rfl⟩
  rw [hv] at HF HMI HMA
  clear h hn hd hi hj hc hp hee hmi hma i1 i2 hv
  go_enter Try.func48, Try.ntmps48
  go_wp2_with fail
  refine HCK.out.mono ?_
  rintro e w1 ⟨rfl, hb1⟩
  have HB1 := Lib.hid hb1
  clear hb1
  go_wp2_with fail
  refine (HIA.out _).mono ?_
  rintro e w2 ⟨rfl, rfl⟩
  go_wp2_with fail
  refine (HIB.out _).mono ?_
  rintro e w2 ⟨rfl, rfl⟩
  go_wp2_with fail
  refine (HF.out _ HB1.out).mono ?_
  rintro e w2 ⟨rfl, hb2⟩
  have HB2 := Lib.hid (blw HB1.out hb2)
  clear hb2
  go_wp2
  go_loopw [10, 11, 12] (fun vx vy vi wr => ∃ (k : Nat) (x y : Int), k ≤ n ∧ vi = .int .i64 k ∧ vx = .int .i64 x ∧ vy = .int .i64 y ∧ Hid (eMin a b x (l.drop k) = mi) ∧ Hid (eMax a b y (l.drop k) = ma) ∧ Hid (Below w.heap.size w wr)) (fun _ _ vi _ => n - (intOf vi).toNat)
  case atStart => exact ⟨0, v, v, Nat.zero_le _, rfl, rfl, rfl, HMI, HMA, HB2⟩
  case round =>
    clear HMI HMA
    obtain ⟨k, x, y, hk, rfl, rfl, rfl, HI, HA, HX⟩ := hrel
    by_cases hkn : k < n
    · obtain ⟨b1, o1, s, eA, hs, c2, c3⟩ := (H.out.below HX.out).lt (k := k) (by rw [HN.out]; exact hkn)
      subst eA
      have hd : l.drop k = s :: l.drop (k + 1) := by
        rw [List.drop_eq_getElem_cons (by rw [HN.out]; exact hkn), (List.getElem?_eq_some_iff.1 hs).2]
      have hI := HI.out
      have hA := HA.out
      rw [hd] at hI hA
      unfold eMin at hI
      unfold eMax at hA
      by_cases c0 : a ≤ s.at_
      · by_cases c1 : s.at_ < b
        · rw [if_pos ⟨c0, c1⟩] at hI hA
          have HI2 := Lib.hid hI; have HA2 := Lib.hid hA
          clear hd hs hI hA HI HA
          go_wp2
          refine ⟨⟨k + 1, _, _, by omega, by go_num, rfl, rfl, HI2, HA2, HX⟩, ?_⟩
          simp [intOf]; omega
        · rw [if_neg (fun e => c1 e.2)] at hI hA
          have HI2 := Lib.hid hI; have HA2 := Lib.hid hA
          clear hd hs hI hA HI HA
          go_wp2
          refine ⟨⟨k + 1, _, _, by omega, by go_num, rfl, rfl, HI2, HA2, HX⟩, ?_⟩
          simp [intOf]; omega
      · rw [if_neg (fun e => c0 e.1)] at hI hA
        have HI2 := Lib.hid hI; have HA2 := Lib.hid hA
        clear hd hs hI hA HI HA
        go_wp2
        refine ⟨⟨k + 1, _, _, by omega, by go_num, rfl, rfl, HI2, HA2, HX⟩, ?_⟩
        simp [intOf]; omega
    · obtain rfl : k = n := by omega
      have e1 : x = mi := by have := HI.out; rw [show l.drop k = [] from List.drop_eq_nil_of_le (by rw [HN.out]; exact Nat.le_refl _)] at this; exact this
      have e2 : y = ma := by have := HA.out; rw [show l.drop k = [] from List.drop_eq_nil_of_le (by rw [HN.out]; exact Nat.le_refl _)] at this; exact this
      subst e1 e2
      go_wp2
      go_ret3
      exact ⟨rfl, HX.out⟩

/-- from one time to the next -/
def raF (a b : Int) (f : Int → Int) : Int → List Int → Int
  | n, t :: u :: r => raF a b f (if a ≤ t ∧ u ≤ b then n + f t * (u - t) else n) (u :: r)
  | n, _ => n
theorem sum_none {f : Int → Int} {a b : Int} (h : b ≤ a) : sumV f a b = 0 := by unfold sumV; rw [show (b - a).toNat = 0 from by omega]; rfl
theorem ra_is {a b : Int} {f : Int → Int} (hab : a ≤ b) : ∀ (r : List Int) (n t : Int), RiseI t r → (a ≤ t ∨ a ∈ r) → (b ≤ t ∨ b ∈ r) → (∀ x, t < x → x ∉ r → f x = f (x - 1)) → raF a b f n (t :: r) = n + sumV f (if t < a then a else t) b
  | [], n, t, _, h1, h2, _ => by
    have h1' : a ≤ t := by rcases h1 with h | h; exact h; cases h
    have h2' : b ≤ t := by rcases h2 with h | h; exact h; cases h
    rw [if_neg (by omega), sum_none h2']
    show n = n + 0
    omega
  | u :: r, n, t, ⟨k1, k2⟩, h1, h2, hc => by
    have ih := fun n' => ra_is (f := f) hab r n' u k2
    have hcu : ∀ x, u < x → x ∉ r → f x = f (x - 1) := fun x hx hm => hc x (by omega) (by simp; exact ⟨by omega, hm⟩)
    show raF a b f (if a ≤ t ∧ u ≤ b then n + f t * (u - t) else n) (u :: r) = _
    by_cases ht : a ≤ t
    · have ha' : a ≤ u ∨ a ∈ r := Or.inl (by omega)
      rw [if_neg (show ¬ t < a by omega)]
      by_cases hu : u ≤ b
      · have hb' : b ≤ u ∨ b ∈ r := by
          rcases h2 with h | h
          · exact Or.inl (by omega)
          · rcases List.mem_cons.1 h with rfl | h
            · exact Or.inl (Int.le_refl _)
            · exact Or.inr h
        rw [if_pos ⟨ht, hu⟩, ih _ ha' hb' hcu, if_neg (by omega), sum_split (show t ≤ u by omega) hu]
        have e : sumV f t u = f t * (u - t) := sum_const (by omega) fun x q1 q2 => const_from (u := u) (fun y p1 p2 => hc y p1 (fun hm => by
          rcases List.mem_cons.1 hm with rfl | hm
          · omega
          · have := riseI_mem k2 hm; omega)) (x - t).toNat x q1 q2 (by omega)
        rw [e]; omega
      · have hbt : b ≤ t := by
          rcases h2 with h | h
          · exact h
          · rcases List.mem_cons.1 h with rfl | h
            · omega
            · have := riseI_mem k2 h; omega
        rw [if_neg (fun e => hu e.2), ih _ ha' (Or.inl (by omega)) hcu, if_neg (by omega), sum_none (by omega), sum_none hbt]
    · have ha' : a = u ∨ a ∈ r := by
        rcases h1 with h | h
        · exact absurd h ht
        · rcases List.mem_cons.1 h with rfl | h
          · exact Or.inl rfl
          · exact Or.inr h
      have hua : u ≤ a := by
        rcases ha' with rfl | h
        · exact Int.le_refl _
        · have := riseI_mem k2 h; omega
      have hb' : b ≤ u ∨ b ∈ r := by
        rcases h2 with h | h
        · exact Or.inl (by omega)
        · rcases List.mem_cons.1 h with rfl | h
          · exact Or.inl (Int.le_refl _)
          · exact Or.inr h
      rw [if_neg (fun e => ht e.1), ih _ (by rcases ha' with rfl | h; exact Or.inl (Int.le_refl _); exact Or.inr h) hb' hcu, if_pos (show t < a by omega)]
      by_cases q : u < a
      · rw [if_pos q]
      · rw [if_neg q, show u = a from by omega]
/-- the document's area -/
theorem rarea_is {l : List StepD} {a b : Int} (h : durE l a b = 0) : raF a b (foldV 0 l) 0 (timesL l [] a b) = areaV l a b := by
  obtain ⟨hp, hi, hj, hab⟩ := dur_yes h
  have ha := Clk.isT_bd hi; have hb := Clk.isT_bd hj
  have hnn : ∀ t, (t = a ∨ t = b ∨ (∃ s ∈ l, s.at_ = t) ∨ ∃ s ∈ ([] : List StepD), s.at_ = t) → 0 ≤ t := by
    rintro t (rfl | rfl | ⟨s, hs, rfl⟩ | ⟨s, hs, _⟩)
    · exact ha.1
    · exact hb.1
    · exact (hp.ok s hs).1.1
    · cases hs
  obtain ⟨hr, hm⟩ := times_is l [] a b hnn
  have hfv : ∀ t, foldV 0 l t = valF 0 l t := fun t => fold_val hp.rise
  rw [area_is h]
  have hma := (hm a).2 (Or.inl rfl)
  have hmb := (hm b).2 (Or.inr (Or.inl rfl))
  cases hts : timesL l [] a b with
  | nil => rw [hts] at hma; cases hma
  | cons t r =>
    rw [hts] at hr hma hmb
    have hc : ∀ x, t < x → x ∉ r → foldV 0 l x = foldV 0 l (x - 1) := fun x hx hn => by
      rw [hfv, hfv]
      exact val_const fun s hs e => by
        have := (hm x).2 (Or.inr (Or.inr (Or.inl ⟨s, hs, e⟩)))
        rw [hts] at this
        rcases List.mem_cons.1 this with rfl | q
        · omega
        · exact hn q
    have hta : t ≤ a := by
      rcases List.mem_cons.1 hma with e | q
      · omega
      · have := riseI_mem hr.2 q; omega
    rw [ra_is hab r 0 t hr.2 (by rcases List.mem_cons.1 hma with e | q; exact Or.inl (by omega); exact Or.inr q) (by rcases List.mem_cons.1 hmb with e | q; exact Or.inl (by omega); exact Or.inr q) hc]
    rw [Int.zero_add, sum_congr (g := valF 0 l) (fun t _ _ => hfv t)]
    by_cases q : t < a
    · rw [if_pos q]
    · rw [if_neg q, show t = a from by omega]
end Go.Proofs.Ytldmkbmkjdnaaaa.Stp

