/- Layer 9: the document's At, Ends, Area. -/
import Derived.Test.YtmlkomcjbcolhaaStpQ
import Derived.Test.YtmlkomcjbcolhaaStpN
import Derived.Test.YtmlkomcjbcolhaaStpB
namespace Go.Proofs.Ytmlkomcjbcolhaa.Stp
open Go.RowKit Go.Shelf
open Dag (Ints)
set_option linter.unusedVariables false
set_option maxRecDepth 100000

theorem rat_any (l : List StepD) (t : Int) (A : Option Addr) (n c : Nat) (hn : l.length = n) (w : World) (h : Stp w A c l) :
    Calls Try.prog 23 #[.slice A n c, .int .i64 t] w fun e w' => e = .returned (.int .i64 (atV l t)) ∧ Below w.heap.size w w' := by
  obtain ⟨r, hr⟩ : ∃ r, atV l t = r := ⟨_, rfl⟩
  rw [hr]
  unfold atV at hr
  have HC := Lib.hid (rcheck_any l A n c hn w h)
  have HIS := Lib.hid fun (W : World) => Clk.ris_any t W
  have HF := Lib.hid fun W (hW : Below w.heap.size w W) => free_any l t A n c hn W (h.below hW)
  rcases chkE_or l with ⟨hc, hp⟩ | ⟨hc, hp⟩
  · rw [hc] at HC
    cases hi : Clk.isT t
    · rw [hi] at hr HIS
      obtain rfl : r = 0 := by rw [← hr, if_neg (by simp)]
      clear h hr hi hc hp hn
      go_enter Try.func23, Try.ntmps23
      go_wp2_with fail
      refine HC.out.mono ?_
      rintro e w1 ⟨rfl, hb1⟩
      go_wp2_with fail
      refine (HIS.out _).mono ?_
      rintro e w2 ⟨rfl, rfl⟩
      go_wp2
      go_ret
      exact ⟨rfl, hb1⟩
    · rw [hi] at hr HIS
      rw [if_pos ⟨chkD_prof.2 hp, rfl⟩, ← fold_val hp.rise] at hr
      rw [hr] at HF
      clear h hr hi hc hp hn
      go_enter Try.func23, Try.ntmps23
      go_wp2_with fail
      refine HC.out.mono ?_
      rintro e w1 ⟨rfl, hb1⟩
      have HB1 := Lib.hid hb1
      clear hb1
      go_wp2_with fail
      refine (HIS.out _).mono ?_
      rintro e w2 ⟨rfl, rfl⟩
      go_wp2_with fail
      refine (HF.out _ HB1.out).mono ?_
      rintro e w3 ⟨rfl, hb3⟩
      go_wp2
      go_ret
      exact ⟨rfl, blw HB1.out hb3⟩
  · rw [hc] at HC
    obtain rfl : r = 0 := by rw [← hr, if_neg (by simp [hp])]
    clear h hr hc hp hn
    go_enter Try.func23, Try.ntmps23
    go_wp2_with fail
    refine HC.out.mono ?_
    rintro e w1 ⟨rfl, hb1⟩
    go_wp2
    go_ret
    exact ⟨rfl, hb1⟩

def eMin (a b : Int) : Int → List StepD → Int
  | m, [] => m
  | m, s :: l => eMin a b (if a ≤ s.at_ ∧ s.at_ < b then (if s.fr < m then s.fr else m) else m) l
def eMax (a b : Int) : Int → List StepD → Int
  | m, [] => m
  | m, s :: l => eMax a b (if a ≤ s.at_ ∧ s.at_ < b then (if m < s.fr then s.fr else m) else m) l
theorem eMin_is (a b : Int) : ∀ (l : List StepD) (m : Int), eMin a b m l ≤ m ∧ (∀ s ∈ l, a ≤ s.at_ → s.at_ < b → eMin a b m l ≤ s.fr) ∧ (eMin a b m l = m ∨ ∃ s ∈ l, a ≤ s.at_ ∧ s.at_ < b ∧ eMin a b m l = s.fr)
  | [], m => ⟨Int.le_refl _, fun s h => (by cases h), Or.inl rfl⟩
  | u :: l, m => by
    unfold eMin
    obtain ⟨q, hq⟩ : ∃ q, (if a ≤ u.at_ ∧ u.at_ < b then (if u.fr < m then u.fr else m) else m) = q := ⟨_, rfl⟩
    rw [hq]
    obtain ⟨h1, h2, h3⟩ := eMin_is a b l q
    have hqm : q ≤ m ∧ (a ≤ u.at_ → u.at_ < b → q ≤ u.fr) ∧ (q = m ∨ a ≤ u.at_ ∧ u.at_ < b ∧ q = u.fr) := by
      rw [← hq]
      by_cases c1 : a ≤ u.at_ ∧ u.at_ < b
      · rw [if_pos c1]
        by_cases c2 : u.fr < m
        · rw [if_pos c2]; exact ⟨by omega, fun _ _ => Int.le_refl _, Or.inr ⟨c1.1, c1.2, rfl⟩⟩
        · rw [if_neg c2]; exact ⟨Int.le_refl _, fun _ _ => by omega, Or.inl rfl⟩
      · rw [if_neg c1]; exact ⟨Int.le_refl _, fun k1 k2 => absurd ⟨k1, k2⟩ c1, Or.inl rfl⟩
    refine ⟨by omega, fun s hs k1 k2 => ?_, ?_⟩
    · rcases List.mem_cons.1 hs with rfl | hs
      · have := hqm.2.1 k1 k2; omega
      · exact h2 s hs k1 k2
    · rcases h3 with e | ⟨s, hs, k1, k2, e⟩
      · rcases hqm.2.2 with e2 | ⟨k1, k2, e2⟩
        · exact Or.inl (e.trans e2)
        · exact Or.inr ⟨u, by simp, k1, k2, e.trans e2⟩
      · exact Or.inr ⟨s, by simp [hs], k1, k2, e⟩
theorem eMax_is (a b : Int) : ∀ (l : List StepD) (m : Int), m ≤ eMax a b m l ∧ (∀ s ∈ l, a ≤ s.at_ → s.at_ < b → s.fr ≤ eMax a b m l) ∧ (eMax a b m l = m ∨ ∃ s ∈ l, a ≤ s.at_ ∧ s.at_ < b ∧ eMax a b m l = s.fr)
  | [], m => ⟨Int.le_refl _, fun s h => (by cases h), Or.inl rfl⟩
  | u :: l, m => by
    unfold eMax
    obtain ⟨q, hq⟩ : ∃ q, (if a ≤ u.at_ ∧ u.at_ < b then (if m < u.fr then u.fr else m) else m) = q := ⟨_, rfl⟩
    rw [hq]
    obtain ⟨h1, h2, h3⟩ := eMax_is a b l q
    have hqm : m ≤ q ∧ (a ≤ u.at_ → u.at_ < b → u.fr ≤ q) ∧ (q = m ∨ a ≤ u.at_ ∧ u.at_ < b ∧ q = u.fr) := by
      rw [← hq]
      by_cases c1 : a ≤ u.at_ ∧ u.at_ < b
      · rw [if_pos c1]
        by_cases c2 : m < u.fr
        · rw [if_pos c2]; exact ⟨by omega, fun _ _ => Int.le_refl _, Or.inr ⟨c1.1, c1.2, rfl⟩⟩
        · rw [if_neg c2]; exact ⟨Int.le_refl _, fun _ _ => by omega, Or.inl rfl⟩
      · rw [if_neg c1]; exact ⟨Int.le_refl _, fun k1 k2 => absurd ⟨k1, k2⟩ c1, Or.inl rfl⟩
    refine ⟨by omega, fun s hs k1 k2 => ?_, ?_⟩
    · rcases List.mem_cons.1 hs with rfl | hs
      · have := hqm.2.1 k1 k2; omega
      · exact h2 s hs k1 k2
    · rcases h3 with e | ⟨s, hs, k1, k2, e⟩
      · rcases hqm.2.2 with e2 | ⟨k1, k2, e2⟩
        · exact Or.inl (e.trans e2)
        · exact Or.inr ⟨u, by simp, k1, k2, e.trans e2⟩
      · exact Or.inr ⟨s, by simp [hs], k1, k2, e⟩
/-- what is free at a time is so from a step of the while, or from its begin on -/
theorem val_from : ∀ {l : List StepD} {lo d a t : Int}, Rise lo l → a ≤ t → valF d l t = valF d l a ∨ ∃ s ∈ l, a ≤ s.at_ ∧ s.at_ ≤ t ∧ valF d l t = s.fr
  | [], lo, d, a, t, _, _ => Or.inl rfl
  | s :: l, lo, d, a, t, ⟨h1, h2⟩, hat => by
    by_cases ht : s.at_ ≤ t
    · rw [val_cons ht]
      rcases val_from (d := s.fr) h2 hat with e | ⟨u, hu, k1, k2, e⟩
      · by_cases ha : s.at_ ≤ a
        · rw [val_cons ha]; exact Or.inl e
        · refine Or.inr ⟨s, by simp, by omega, ht, ?_⟩
          rw [e]; exact val_low h2 (by omega)
      · exact Or.inr ⟨u, by simp [hu], k1, k2, e⟩
    · rw [val_ahead (by omega), val_ahead (by omega)]; exact Or.inl rfl
theorem ends_is {l : List StepD} {a b : Int} (h : endE l a b = 0) : eMin a b (valF 0 l a) l = minV l a b ∧ eMax a b (valF 0 l a) l = maxV l a b := by
  obtain ⟨hd, hlt⟩ := end_yes h
  obtain ⟨hp, hi, hj, hab⟩ := dur_yes hd
  obtain ⟨hm, hM⟩ := ext_is h
  obtain ⟨m1, m2, m3⟩ := eMin_is a b l (valF 0 l a)
  obtain ⟨M1, M2, M3⟩ := eMax_is a b l (valF 0 l a)
  constructor
  · refine isMin_uniq ⟨fun t k1 k2 => ?_, ?_⟩ hm
    · rcases val_from (d := 0) hp.rise k1 with e | ⟨s, hs, q1, q2, e⟩
      · rw [e]; exact m1
      · rw [e]; exact m2 s hs q1 (by omega)
    · rcases m3 with e | ⟨s, hs, q1, q2, e⟩
      · exact ⟨a, Int.le_refl _, hlt, e.symm⟩
      · exact ⟨s.at_, q1, q2, by rw [e]; exact val_elem hp.rise hs⟩
  · refine isMax_uniq ⟨fun t k1 k2 => ?_, ?_⟩ hM
    · rcases val_from (d := 0) hp.rise k1 with e | ⟨s, hs, q1, q2, e⟩
      · rw [e]; exact M1
      · rw [e]; exact M2 s hs q1 (by omega)
    · rcases M3 with e | ⟨s, hs, q1, q2, e⟩
      · exact ⟨a, Int.le_refl _, hlt, e.symm⟩
      · exact ⟨s.at_, q1, q2, by rw [e]; exact val_elem hp.rise hs⟩
set_option maxHeartbeats 3200000 in
theorem rends_any (l : List StepD) (a b : Int) (A : Option Addr) (n c : Nat) (hn : l.length = n) (w : World) (h : Stp w A c l) :
    Calls Try.prog 20 #[.slice A n c, .int .i64 a, .int .i64 b] w fun e w' => e = .returned (.tuple #[.int .i64 (minV l a b), .int .i64 (maxV l a b), .int .i64 (endE l a b)]) ∧ Below w.heap.size w w' := by
  have hnl : n ≤ 9223372036854775807 := by rw [← hn]; exact h.lenI
  have HCK := Lib.hid (rcheck_any l A n c hn w h)
  have HIA := Lib.hid fun (W : World) => Clk.ris_any a W
  have HIB := Lib.hid fun (W : World) => Clk.ris_any b W
  have HF := Lib.hid fun W (hW : Below w.heap.size w W) => free_any l a A n c hn W (h.below hW)
  obtain ⟨e0, he0⟩ : ∃ e0, endE l a b = e0 := ⟨_, rfl⟩
  obtain ⟨mi, hmi⟩ : ∃ mi, minV l a b = mi := ⟨_, rfl⟩
  obtain ⟨ma, hma⟩ : ∃ ma, maxV l a b = ma := ⟨_, rfl⟩
  rw [he0, hmi, hma]
  have hee := he0
  unfold endE at he0
  by_cases hd : durE l a b = 0 ∧ a < b
  case neg =>
    rw [if_neg hd] at he0
    subst he0
    unfold minV at hmi; unfold maxV at hma
    rw [hee, if_neg (by decide)] at hmi hma
    subst hmi hma
    rcases chkE_or l with ⟨hc, hp⟩ | ⟨hc, hp⟩
    · rw [hc] at HCK
      cases hi : Clk.isT a
      · rw [hi] at HIA
        clear h hn hd hi hc hp hee
        go_enter Try.func20, Try.ntmps20
        go_wp2_with fail
        refine HCK.out.mono ?_
        rintro e w1 ⟨rfl, hb1⟩
        go_wp2_with fail
        refine (HIA.out _).mono ?_
        rintro e w2 ⟨rfl, rfl⟩
        go_wp2
        go_ret3
        exact ⟨rfl, hb1⟩
      · rw [hi] at HIA
        cases hj : Clk.isT b
        · rw [hj] at HIB
          clear h hn hd hi hj hc hp hee
          go_enter Try.func20, Try.ntmps20
          go_wp2_with fail
          refine HCK.out.mono ?_
          rintro e w1 ⟨rfl, hb1⟩
          go_wp2_with fail
          refine (HIA.out _).mono ?_
          rintro e w2 ⟨rfl, rfl⟩
          go_wp2_with fail
          refine (HIB.out _).mono ?_
          rintro e w2 ⟨rfl, rfl⟩
          go_wp2
          go_ret3
          exact ⟨rfl, hb1⟩
        · rw [hj] at HIB
          have hba : b ≤ a := by
            rcases Int.lt_or_le a b with q | q
            · exact absurd ⟨by unfold durE; rw [if_pos ⟨chkD_prof.2 hp, hi, hj, by omega⟩], q⟩ hd
            · exact q
          clear h hn hd hi hj hc hp hee
          go_enter Try.func20, Try.ntmps20
          go_wp2_with fail
          refine HCK.out.mono ?_
          rintro e w1 ⟨rfl, hb1⟩
          go_wp2_with fail
          refine (HIA.out _).mono ?_
          rintro e w2 ⟨rfl, rfl⟩
          go_wp2_with fail
          refine (HIB.out _).mono ?_
          rintro e w2 ⟨rfl, rfl⟩
          go_wp2
          go_ret3
          exact ⟨rfl, hb1⟩
    · rw [hc] at HCK
      clear h hn hd hc hp hee
      go_enter Try.func20, Try.ntmps20
      go_wp2_with fail
      refine HCK.out.mono ?_
      rintro e w1 ⟨rfl, hb1⟩
      go_wp2
      go_ret3
      exact ⟨rfl, hb1⟩
  rw [if_pos hd] at he0
  subst he0
  obtain ⟨hp, hi, hj, _⟩ := dur_yes hd.1
  have hlt := hd.2
  have hc : chkE l = 0 := by unfold chkE; rw [if_pos (chkD_prof.2 hp)]
  rw [hc] at HCK
  rw [hi] at HIA
  rw [hj] at HIB
  obtain ⟨i1, i2⟩ := ends_is hee
  rw [hmi] at i1
  rw [hma] at i2
  rw [fold_val hp.rise] at HF
  have H := Lib.hid h; have HN := Lib.hid hn; have HMI := Lib.hid i1; have HMA := Lib.hid i2
  obtain ⟨v, hv⟩ : ∃ v, valF 0 l a = v := ⟨_, rfl⟩
  rw [hv] at HF HMI HMA
  clear h hn hd hi hj hc hp hee hmi hma i1 i2 hv
  go_enter Try.func20, Try.ntmps20
  go_wp2_with fail
  refine HCK.out.mono ?_
  rintro e w1 ⟨rfl, hb1⟩
  have HB1 := Lib.hid hb1
  clear hb1
  go_wp2_with fail
  refine (HIA.out _).mono ?_
  rintro e w2 ⟨rfl, rfl⟩
  go_wp2_with fail
  refine (HIB.out _).mono ?_
  rintro e w2 ⟨rfl, rfl⟩
  go_wp2_with fail
  refine (HF.out _ HB1.out).mono ?_
  rintro e w2 ⟨rfl, hb2⟩
  have HB2 := Lib.hid (blw HB1.out hb2)
  clear hb2
  go_wp2
  go_loopw [10, 11, 12] (fun vx vy vi wr => ∃ (k : Nat) (x y : Int), k ≤ n ∧ vi = .int .i64 k ∧ vx = .int .i64 x ∧ vy = .int .i64 y ∧ Hid (eMin a b x (l.drop k) = mi) ∧ Hid (eMax a b y (l.drop k) = ma) ∧ Hid (Below w.heap.size w wr)) (fun _ _ vi _ => n - (intOf vi).toNat)
  case atStart => exact ⟨0, v, v, Nat.zero_le _, rfl, rfl, rfl, HMI, HMA, HB2⟩
  case round =>
    clear HMI HMA
    obtain ⟨k, x, y, hk, rfl, rfl, rfl, HI, HA, HX⟩ := hrel
    by_cases hkn : k < n
    · obtain ⟨b1, o1, s, eA, hs, c2, c3⟩ := (H.out.below HX.out).lt (k := k) (by rw [HN.out]; exact hkn)
      subst eA
      have hd : l.drop k = s :: l.drop (k + 1) := by
        rw [List.drop_eq_getElem_cons (by rw [HN.out]; exact hkn), (List.getElem?_eq_some_iff.1 hs).2]
      have hI := HI.out
      have hA := HA.out
      rw [hd] at hI hA
      unfold eMin at hI
      unfold eMax at hA
      by_cases c0 : a ≤ s.at_
      · by_cases c1 : s.at_ < b
        · rw [if_pos ⟨c0, c1⟩] at hI hA
          have HI2 := Lib.hid hI; have HA2 := Lib.hid hA
          clear hd hs hI hA HI HA
          go_wp2
          refine ⟨⟨k + 1, _, _, by omega, by go_num, rfl, rfl, HI2, HA2, HX⟩, ?_⟩
          simp [intOf]; omega
        · rw [if_neg (fun e => c1 e.2)] at hI hA
          have HI2 := Lib.hid hI; have HA2 := Lib.hid hA
          clear hd hs hI hA HI HA
          go_wp2
          refine ⟨⟨k + 1, _, _, by omega, by go_num, rfl, rfl, HI2, HA2, HX⟩, ?_⟩
          simp [intOf]; omega
      · rw [if_neg (fun e => c0 e.1)] at hI hA
        have HI2 := Lib.hid hI; have HA2 := Lib.hid hA
        clear hd hs hI hA HI HA
        go_wp2
        refine ⟨⟨k + 1, _, _, by omega, by go_num, rfl, rfl, HI2, HA2, HX⟩, ?_⟩
        simp [intOf]; omega
    · obtain rfl : k = n := by omega
      have e1 : x = mi := by have := HI.out; rw [show l.drop k = [] from List.drop_eq_nil_of_le (by rw [HN.out]; exact Nat.le_refl _)] at this; exact this
      have e2 : y = ma := by have := HA.out; rw [show l.drop k = [] from List.drop_eq_nil_of_le (by rw [HN.out]; exact Nat.le_refl _)] at this; exact this
      subst e1 e2
      go_wp2
      go_ret3
      exact ⟨rfl, HX.out⟩

/-- from one time to the next -/
def raF (a b : Int) (f : Int → Int) : Int → List Int → Int
  | n, t :: u :: r => raF a b f (if a ≤ t ∧ u ≤ b then n + f t * (u - t) else n) (u :: r)
  | n, _ => n
theorem sum_none {f : Int → Int} {a b : Int} (h : b ≤ a) : sumV f a b = 0 := by unfold sumV; rw [show (b - a).toNat = 0 from by omega]; rfl
theorem ra_is {a b : Int} {f : Int → Int} (hab : a ≤ b) : ∀ (r : List Int) (n t : Int), RiseI t r → (a ≤ t ∨ a ∈ r) → (b ≤ t ∨ b ∈ r) → (∀ x, t < x → x ∉ r → f x = f (x - 1)) → raF a b f n (t :: r) = n + sumV f (if t < a then a else t) b
  | [], n, t, _, h1, h2, _ => by
    have h1' : a ≤ t := by rcases h1 with h | h; exact h; cases h
    have h2' : b ≤ t := by rcases h2 with h | h; exact h; cases h
    rw [if_neg (by omega), sum_none h2']
    show n = n + 0
    omega
  | u :: r, n, t, ⟨k1, k2⟩, h1, h2, hc => by
    have ih := fun n' => ra_is (f := f) hab r n' u k2
    have hcu : ∀ x, u < x → x ∉ r → f x = f (x - 1) := fun x hx hm => hc x (by omega) (by simp; exact ⟨by omega, hm⟩)
    show raF a b f (if a ≤ t ∧ u ≤ b then n + f t * (u - t) else n) (u :: r) = _
    by_cases ht : a ≤ t
    · have ha' : a ≤ u ∨ a ∈ r := Or.inl (by omega)
      rw [if_neg (show ¬ t < a by omega)]
      by_cases hu : u ≤ b
      · have hb' : b ≤ u ∨ b ∈ r := by
          rcases h2 with h | h
          · exact Or.inl (by omega)
          · rcases List.mem_cons.1 h with rfl | h
            · exact Or.inl (Int.le_refl _)
            · exact Or.inr h
        rw [if_pos ⟨ht, hu⟩, ih _ ha' hb' hcu, if_neg (by omega), sum_split (show t ≤ u by omega) hu]
        have e : sumV f t u = f t * (u - t) := sum_const (by omega) fun x q1 q2 => const_from (u := u) (fun y p1 p2 => hc y p1 (fun hm => by
          rcases List.mem_cons.1 hm with rfl | hm
          · omega
          · have := riseI_mem k2 hm; omega)) (x - t).toNat x q1 q2 (by omega)
        rw [e]; omega
      · have hbt : b ≤ t := by
          rcases h2 with h | h
          · exact h
          · rcases List.mem_cons.1 h with rfl | h
            · omega
            · have := riseI_mem k2 h; omega
        rw [if_neg (fun e => hu e.2), ih _ ha' (Or.inl (by omega)) hcu, if_neg (by omega), sum_none (by omega), sum_none hbt]
    · have ha' : a = u ∨ a ∈ r := by
        rcases h1 with h | h
        · exact absurd h ht
        · rcases List.mem_cons.1 h with rfl | h
          · exact Or.inl rfl
          · exact Or.inr h
      have hua : u ≤ a := by
        rcases ha' with rfl | h
        · exact Int.le_refl _
        · have := riseI_mem k2 h; omega
      have hb' : b ≤ u ∨ b ∈ r := by
        rcases h2 with h | h
        · exact Or.inl (by omega)
        · rcases List.mem_cons.1 h with rfl | h
          · exact Or.inl (Int.le_refl _)
          · exact Or.inr h
      rw [if_neg (fun e => ht e.1), ih _ (by rcases ha' with rfl | h; exact Or.inl (Int.le_refl _); exact Or.inr h) hb' hcu, if_pos (show t < a by omega)]
      by_cases q : u < a
      · rw [if_pos q]
      · rw [if_neg q, show u = a from by omega]
/-- the document's area -/
theorem rarea_is {l : List StepD} {a b : Int} (h : durE l a b = 0) : raF a b (foldV 0 l) 0 (timesL l [] a b) = areaV l a b := by
  obtain ⟨hp, hi, hj, hab⟩ := dur_yes h
  have ha := Clk.isT_bd hi; have hb := Clk.isT_bd hj
  have hnn : ∀ t, (t = a ∨ t = b ∨ (∃ s ∈ l, s.at_ = t) ∨ ∃ s ∈ ([] : List StepD), s.at_ = t) → 0 ≤ t := by
    rintro t (rfl | rfl | ⟨s, hs, rfl⟩ | ⟨s, hs, _⟩)
    · exact ha.1
    · exact hb.1
    · exact (hp.ok s hs).1.1
    · cases hs
  obtain ⟨hr, hm⟩ := times_is l [] a b hnn
  have hfv : ∀ t, foldV 0 l t = valF 0 l t := fun t => fold_val hp.rise
  rw [area_is h]
  have hma := (hm a).2 (Or.inl rfl)
  have hmb := (hm b).2 (Or.inr (Or.inl rfl))
  cases hts : timesL l [] a b with
  | nil => rw [hts] at hma; cases hma
  | cons t r =>
    rw [hts] at hr hma hmb
    have hc : ∀ x, t < x → x ∉ r → foldV 0 l x = foldV 0 l (x - 1) := fun x hx hn => by
      rw [hfv, hfv]
      exact val_const fun s hs e => by
        have := (hm x).2 (Or.inr (Or.inr (Or.inl ⟨s, hs, e⟩)))
        rw [hts] at this
        rcases List.mem_cons.1 this with rfl | q
        · omega
        · exact hn q
    have hta : t ≤ a := by
      rcases List.mem_cons.1 hma with e | q
      · omega
      · have := riseI_mem hr.2 q; omega
    rw [ra_is hab r 0 t hr.2 (by rcases List.mem_cons.1 hma with e | q; exact Or.inl (by omega); exact Or.inr q) (by rcases List.mem_cons.1 hmb with e | q; exact Or.inl (by omega); exact Or.inr q) hc]
    rw [Int.zero_add, sum_congr (g := valF 0 l) (fun t _ _ => hfv t)]
    by_cases q : t < a
    · rw [if_pos q]
    · rw [if_neg q, show t = a from by omega]
set_option maxHeartbeats 3200000 in
theorem rarea_any (l : List StepD) (a b : Int) (A : Option Addr) (n c : Nat) (hn : l.length = n) (hb : n ≤ 200) (w : World) (h : Stp w A c l) :
    Calls Try.prog 21 #[.slice A n c, .int .i64 a, .int .i64 b] w fun e w' => e = .returned (.tuple #[.int .i64 (areaV l a b), .int .i64 (durE l a b)]) ∧ Below w.heap.size w w' := by
  have HCK := Lib.hid (rcheck_any l A n c hn w h)
  have HIA := Lib.hid fun (W : World) => Clk.ris_any a W
  have HIB := Lib.hid fun (W : World) => Clk.ris_any b W
  obtain ⟨e0, he0⟩ : ∃ e0, durE l a b = e0 := ⟨_, rfl⟩
  obtain ⟨v, hv⟩ : ∃ v, areaV l a b = v := ⟨_, rfl⟩
  rw [he0, hv]
  have hee := he0
  unfold durE at he0
  by_cases hd : chkD l = true ∧ Clk.isT a = true ∧ Clk.isT b = true ∧ a ≤ b
  case neg =>
    rw [if_neg hd] at he0
    subst he0
    unfold areaV at hv
    rw [hee, if_neg (by decide)] at hv
    subst hv
    rcases chkE_or l with ⟨hc, hp⟩ | ⟨hc, hp⟩
    · rw [hc] at HCK
      cases hi : Clk.isT a
      · rw [hi] at HIA
        clear h hn hd hi hc hp hee
        go_enter Try.func21, Try.ntmps21
        go_wp2_with fail
        refine HCK.out.mono ?_
        rintro e w1 ⟨rfl, hb1⟩
        go_wp2_with fail
        refine (HIA.out _).mono ?_
        rintro e w2 ⟨rfl, rfl⟩
        go_wp2
        go_ret2
        exact ⟨rfl, hb1⟩
      · rw [hi] at HIA
        cases hj : Clk.isT b
        · rw [hj] at HIB
          clear h hn hd hi hj hc hp hee
          go_enter Try.func21, Try.ntmps21
          go_wp2_with fail
          refine HCK.out.mono ?_
          rintro e w1 ⟨rfl, hb1⟩
          go_wp2_with fail
          refine (HIA.out _).mono ?_
          rintro e w2 ⟨rfl, rfl⟩
          go_wp2_with fail
          refine (HIB.out _).mono ?_
          rintro e w2 ⟨rfl, rfl⟩
          go_wp2
          go_ret2
          exact ⟨rfl, hb1⟩
        · rw [hj] at HIB
          have hba : b < a := by
            rcases Int.lt_or_le b a with q | q
            · exact q
            · exact absurd ⟨chkD_prof.2 hp, hi, hj, q⟩ hd
          clear h hn hd hi hj hc hp hee
          go_enter Try.func21, Try.ntmps21
          go_wp2_with fail
          refine HCK.out.mono ?_
          rintro e w1 ⟨rfl, hb1⟩
          go_wp2_with fail
          refine (HIA.out _).mono ?_
          rintro e w2 ⟨rfl, rfl⟩
          go_wp2_with fail
          refine (HIB.out _).mono ?_
          rintro e w2 ⟨rfl, rfl⟩
          go_wp2
          go_ret2
          exact ⟨rfl, hb1⟩
    · rw [hc] at HCK
      clear h hn hd hc hp hee
      go_enter Try.func21, Try.ntmps21
      go_wp2_with fail
      refine HCK.out.mono ?_
      rintro e w1 ⟨rfl, hb1⟩
      go_wp2
      go_ret2
      exact ⟨rfl, hb1⟩
  rw [if_pos hd] at he0
  subst he0
  obtain ⟨hp, hi, hj, hab⟩ := dur_yes hee
  have hc : chkE l = 0 := by unfold chkE; rw [if_pos hd.1]
  rw [hc] at HCK
  rw [hi] at HIA
  rw [hj] at HIB
  have hra := rarea_is hee
  rw [hv] at hra
  have HTM := Lib.hid fun W (hW : Below w.heap.size w W) => times_any l [] a b A none n 0 c 0 hn rfl (by omega) W (h.below hW) (Stp.empty W)
  have htl := timesL_len l [] a b
  have hTB := (times_is l [] a b (by
      rintro t (rfl | rfl | ⟨s, hs, rfl⟩ | ⟨s, hs, _⟩)
      · exact (Clk.isT_bd hi).1
      · exact (Clk.isT_bd hj).1
      · exact (hp.ok s hs).1.1
      · cases hs))
  have hTU : ∀ t ∈ timesL l [] a b, 0 ≤ t ∧ t ≤ 1099511627775 := fun t ht => by
    rcases (hTB.2 t).1 ht with rfl | rfl | ⟨s, hs, rfl⟩ | ⟨s, hs, _⟩
    · exact Clk.isT_bd hi
    · exact Clk.isT_bd hj
    · exact (hp.ok s hs).1
    · cases hs
  obtain ⟨ts, hts⟩ : ∃ ts, timesL l [] a b = ts := ⟨_, rfl⟩
  rw [hts] at HTM hra htl hTU
  obtain ⟨p, hpl⟩ : ∃ p, ts.length = p := ⟨_, rfl⟩
  rw [hpl] at HTM htl
  have hp1 : p ≤ 202 := by simp at htl; omega
  have HPL := Lib.hid hpl
  have HFR := Lib.hid fun (t : Int) W (hW : Below w.heap.size w W) => free_any l t A n c hn W (h.below hW)
  have HFB := Lib.hid fun (t : Int) (ht : t ∈ ts) => (show 0 ≤ foldV 0 l t ∧ foldV 0 l t ≤ 10000 from by rw [fold_val hp.rise]; exact hp.bd (hTU t ht).1)
  have HTU := Lib.hid hTU
  have HRA := Lib.hid hra
  clear h hn hd hi hj hc hp hra hts hpl htl hee hv hTB hTU
  go_enter Try.func21, Try.ntmps21
  go_wp2_with fail
  refine HCK.out.mono ?_
  rintro e w1 ⟨rfl, hb1⟩
  have HB1 := Lib.hid hb1
  clear hb1
  go_wp2_with fail
  refine (HIA.out _).mono ?_
  rintro e w2 ⟨rfl, rfl⟩
  go_wp2_with fail
  refine (HIB.out _).mono ?_
  rintro e w2 ⟨rfl, rfl⟩
  go_wp2_with fail
  refine (HTM.out _ HB1.out).mono ?_
  rintro e w2 ⟨At, ct, rfl, hit, hb2⟩
  have HIT := Lib.hid hit; have HB2 := Lib.hid (blw HB1.out hb2)
  clear hit hb2
  go_wp2
  go_loopw [9, 11] (fun vx vi wr => ∃ (i : Nat) (x : Int), i ≤ p ∧ vi = .int .i64 i ∧ vx = .int .i64 x ∧ Hid (raF a b (foldV 0 l) x (ts.drop i) = v) ∧ Hid (-(10995116277750000 * (i : Int)) ≤ x ∧ x ≤ 10995116277750000 * (i : Int)) ∧ Hid (Below w2.heap.size w2 wr)) (fun _ vi _ => p - (intOf vi).toNat)
  case atStart => exact ⟨0, 0, Nat.zero_le _, rfl, rfl, HRA, Lib.hid (by simp), Lib.hid (Below.refl _ _)⟩
  case round =>
    clear HRA
    obtain ⟨i, x, hi, rfl, rfl, HR, HXB, HX⟩ := hrel
    have HXW := Lib.hid (blw HB2.out HX.out)
    by_cases hlt : i + 1 < p
    · have hip : i < p := by omega
      obtain ⟨j, hj⟩ : ∃ j, j = i + 1 := ⟨_, rfl⟩
      have hjp : j < p := by omega
      have hwj : IntKind.i64.wrap ((i : Int) + 1) = (j : Int) := by rw [IntWalk.i64_in _ (by omega)]; omega
      obtain ⟨tb, to_, t, eT, ht, ct0⟩ := (Ints.below HIT.out HX.out).at_ (k := i) (by rw [HPL.out]; omega)
      subst eT
      obtain ⟨tb2, to2, u, eU, hu, cu0⟩ := (Ints.below HIT.out HX.out).at_ (k := i + 1) (by rw [HPL.out]; exact hlt)
      injection eU with eU; injection eU with e1 e2; subst e1 e2
      have htm := HTU.out t (List.mem_of_getElem? ht)
      have hum := HTU.out u (List.mem_of_getElem? hu)
      have hfb := HFB.out t (List.mem_of_getElem? ht)
      have hfr := HFR.out t
      have hd : ts.drop i = t :: u :: ts.drop (i + 1 + 1) := by
        rw [List.drop_eq_getElem_cons (by rw [HPL.out]; omega), (List.getElem?_eq_some_iff.1 ht).2, List.drop_eq_getElem_cons (by rw [HPL.out]; exact hlt), (List.getElem?_eq_some_iff.1 hu).2]
      have hd2 : ts.drop (i + 1) = u :: ts.drop (i + 1 + 1) := by
        rw [List.drop_eq_getElem_cons (by rw [HPL.out]; exact hlt), (List.getElem?_eq_some_iff.1 hu).2]
      have hR := HR.out
      rw [hd] at hR
      unfold raF at hR
      rw [← hd2] at hR
      obtain ⟨q, hq⟩ : ∃ q, foldV 0 l t = q := ⟨_, rfl⟩
      rw [hq] at hR hfr hfb
      have hxb := HXB.out
      by_cases c0 : a ≤ t
      · by_cases c1 : u ≤ b
        · rw [if_pos ⟨c0, c1⟩] at hR
          have hmul := mul_bd hfb (y := u - t) (by omega)
          have hw1 : IntKind.i64.wrap (u - t) = u - t := IntWalk.i64_in _ (by omega)
          have hw2 : IntKind.i64.wrap (q * (u - t)) = q * (u - t) := IntWalk.i64_in _ (by omega)
          have hw3 : IntKind.i64.wrap (x + q * (u - t)) = x + q * (u - t) := IntWalk.i64_in _ (by omega)
          have HR2 := Lib.hid hR
          have HXB2 : Hid (-(10995116277750000 * ((i + 1 : Nat) : Int)) ≤ x + q * (u - t) ∧ x + q * (u - t) ≤ 10995116277750000 * ((i + 1 : Nat) : Int)) := Lib.hid (by omega)
          have s0 : wr.drew.cell? ⟨tb, to_ + i, none⟩ = some (.int .i64 t) ∧ wr.drew.cell? ⟨tb, to_ + j, none⟩ = some (.int .i64 u) := ⟨kp (dr wr) ct0, by rw [hj]; exact kp (dr wr) cu0⟩
          have HQ0 := Lib.hid (dr wr)
          have HJ := Lib.hid hj
          have cu1 : wr.cell? ⟨tb, to_ + j, none⟩ = some (.int .i64 u) := by rw [hj]; exact cu0
          clear hR HR hd hd2 ht hu hq hmul hxb HXB htm hum hfb hj cu0 hlt
          go_wp2_with fail
          clear ct0 cu1
          go_region_held3 (fun (W : World) => W.cell? ⟨tb, to_ + i, none⟩ = some (.int .i64 t) ∧ W.cell? ⟨tb, to_ + j, none⟩ = some (.int .i64 u)) (first | exact s1 | exact s0) (first
            | (go_at_call 35; refine (hfr _ (blw HXW.out HQ0.out)).mono ?_; rintro e x1 ⟨rfl, hb1⟩; have s1 : x1.cell? ⟨tb, to_ + i, none⟩ = some (.int .i64 t) ∧ x1.cell? ⟨tb, to_ + j, none⟩ = some (.int .i64 u) := ⟨kp hb1 s0.1, kp hb1 s0.2⟩; have HQ1 := Lib.hid (blw HX.out (blw HQ0.out hb1)); clear hb1))
          all_goals
            go_wp2
            have hj := HJ.out
            refine ⟨⟨j, _, by omega, rfl, rfl, by rw [hj]; exact HR2, by rw [hj]; exact HXB2, HQ1⟩, ?_⟩
            simp [intOf]; omega
        · rw [if_neg (fun e => c1 e.2)] at hR
          have HR2 := Lib.hid hR
          have HXB2 : Hid (-(10995116277750000 * ((i + 1 : Nat) : Int)) ≤ x ∧ x ≤ 10995116277750000 * ((i + 1 : Nat) : Int)) := Lib.hid (by omega)
          have HJ := Lib.hid hj
          have cu1 : wr.cell? ⟨tb, to_ + j, none⟩ = some (.int .i64 u) := by rw [hj]; exact cu0
          clear hR HR hd hd2 ht hu hq hxb HXB htm hum hfb hj cu0 hlt
          go_wp2
          have hj := HJ.out
          refine ⟨⟨j, _, by omega, rfl, rfl, by rw [hj]; exact HR2, by rw [hj]; exact HXB2, HX⟩, ?_⟩
          simp [intOf]; omega
      · rw [if_neg (fun e => c0 e.1)] at hR
        have HR2 := Lib.hid hR
        have HXB2 : Hid (-(10995116277750000 * ((i + 1 : Nat) : Int)) ≤ x ∧ x ≤ 10995116277750000 * ((i + 1 : Nat) : Int)) := Lib.hid (by omega)
        have HJ := Lib.hid hj
        clear hR HR hd hd2 ht hu hq hxb HXB htm hum hfb hj cu0 hlt
        go_wp2
        have hj := HJ.out
        refine ⟨⟨j, _, by omega, rfl, rfl, by rw [hj]; exact HR2, by rw [hj]; exact HXB2, HX⟩, ?_⟩
        simp [intOf]; omega
    · have hr : x = v := by
        have := HR.out
        have hl : (ts.drop i).length ≤ 1 := by rw [List.length_drop, HPL.out]; omega
        match hts : ts.drop i, hl with
        | [], _ => rw [hts] at this; exact this
        | [t], _ => rw [hts] at this; exact this
        | t :: u :: r, h => simp at h
      subst hr
      go_wp2
      go_ret2
      exact ⟨rfl, HXW.out⟩
end Go.Proofs.Ytmlkomcjbcolhaa.Stp

