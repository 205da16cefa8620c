/- Layer 9: the document's Check. -/
import Derived.Test.YtldmkbmkjdnaaaaStpA
namespace Go.Proofs.Ytldmkbmkjdnaaaa.Stp
open Go.RowKit Go.Shelf
set_option linter.unusedVariables false
set_option maxRecDepth 100000

set_option maxHeartbeats 16000000 in
theorem rcheck_any (l : List StepD) (A : Option Addr) (n c : Nat) (hn : l.length = n) (w : World) (h : Stp w A c l) :
    Calls Try.prog 44 #[.slice A n c] w fun e w' => e = .returned (.int .i64 (chkE l)) ∧ Below w.heap.size w w' := by
  have hnl : n ≤ 9223372036854775807 := by rw [← hn]; exact h.lenI
  have H := Lib.hid h
  obtain ⟨r, hr⟩ : ∃ r, chkE l = r := ⟨_, rfl⟩
  rw [hr]
  have hlen := h.cap
  unfold chkE chkD at hr
  by_cases h1 : n = 0
  · subst h1
    obtain rfl := List.eq_nil_of_length_eq_zero hn
    have hr2 : r = 2 := by rw [← hr]; rfl
    subst hr2
    clear h hr
    go_enter Try.func44, Try.ntmps44
    go_wp2
    go_ret
    exact ⟨rfl, Below.refl _ _⟩
  have n0 : ¬ (n : Int) < 1 := by omega
  by_cases h2 : 20000 < n
  · have hr2 : r = 2 := by rw [← hr, if_neg]; simp; omega
    subst hr2
    clear h hr
    go_enter Try.func44, Try.ntmps44
    go_wp2
    go_ret
    exact ⟨rfl, Below.refl _ _⟩
  have n1 : (n : Int) ≤ 20000 := by omega
  obtain ⟨bb, hbb⟩ : ∃ bb, (zeroF l && chkF (-1) DD l) = bb := ⟨_, rfl⟩
  have hrb : r = if bb = true then 0 else 2 := by
    rw [← hr, hbb, hn]
    simp [show n ≤ 20000 from by omega]
  have HBB := Lib.hid hbb; have HRB := Lib.hid hrb; have HN := Lib.hid hn
  clear h hr hbb hrb hn
  go_enter Try.func44, Try.ntmps44
  go_wp2
  go_loopw [3] (fun i wr => ∃ (k : Nat), k ≤ n ∧ i = .int .i64 k ∧ Hid (k = 0 ∨ ∃ q p, k = q + 1 ∧ l[q]? = some p ∧ chkF p.at_ p.fr (l.drop k) = bb) ∧ Hid (Below w.heap.size w wr)) (fun i _ => n - (intOf i).toNat)
  case atStart => exact ⟨0, Nat.zero_le _, rfl, Lib.hid (Or.inl rfl), Lib.hid (Below.refl _ _)⟩
  case round =>
    obtain ⟨k, hk, rfl, HP, HX⟩ := hrel
    by_cases hlt : k < n
    · obtain ⟨b, off, s, eA, hs, c2, c3⟩ := (H.out.below HX.out).lt (k := k) (by rw [HN.out]; exact hlt)
      subst eA
      have hd : l.drop k = s :: l.drop (k + 1) := by
        rw [List.drop_eq_getElem_cons (by rw [HN.out]; exact hlt), (List.getElem?_eq_some_iff.1 hs).2]
      have his := fun (W : World) => Clk.ris_any s.at_ W
      have HR2 : Hid (bb = false → r = 2) := Lib.hid fun e => by rw [HRB.out, e]; rfl
      have HK : Hid ((k = 0 ∧ bb = (decide (s.at_ = 0) && chkF (-1) DD (s :: l.drop (k + 1)))) ∨ ∃ q p, k = q + 1 ∧ l[q]? = some p ∧ chkF p.at_ p.fr (s :: l.drop (k + 1)) = bb) := Lib.hid (by
        rw [← hd]
        rcases HP.out with rfl | h
        · refine Or.inl ⟨rfl, ?_⟩
          rw [← HBB.out]
          rw [List.drop_zero] at hd ⊢
          congr 1
          rw [hd]; rfl
        · exact Or.inr h)
      have HS := Lib.hid hs
      clear hd hs HP
      have fin : (chkF (-1) DD (s :: l.drop (k + 1)) = false) → (∀ p : StepD, chkF p.at_ p.fr (s :: l.drop (k + 1)) = false) → bb = false := fun e1 e2 => by
        rcases HK.out with ⟨_, e⟩ | ⟨q, p, _, _, e⟩
        · rw [e, e1, Bool.and_false]
        · rw [← e, e2]
      cases hi : Clk.isT s.at_
      · rw [hi] at his
        have hr2 := HR2.out (fin (by unfold chkF; rw [hi]; rfl) (fun p => by unfold chkF; rw [hi]; rfl))
        clear fin HK hi HRB HR2
        subst hr2
        go_wp2_with (first | (go_at_call 45; refine (his _).mono ?_; rintro e w1 ⟨rfl, rfl⟩))
        go_wp2
        try simp only [Exit.noGoto]
        go_ret
        exact ⟨rfl, HX.out⟩
      rw [hi] at his
      have hbd := Clk.isT_bd hi
      by_cases hf0 : s.fr < 0
      · have hr2 := HR2.out (fin (by unfold chkF; rw [show nodeOK s.fr = false from by simp [nodeOK]; omega]; simp) (fun p => by unfold chkF; rw [show nodeOK s.fr = false from by simp [nodeOK]; omega]; simp))
        clear fin HK hi HRB HR2
        subst hr2
        go_wp2_with (first | (go_at_call 45; refine (his _).mono ?_; rintro e w1 ⟨rfl, rfl⟩))
        go_wp2
        try simp only [Exit.noGoto]
        go_ret
        exact ⟨rfl, HX.out⟩
      by_cases hf1 : 10000 < s.fr
      · have hr2 := HR2.out (fin (by unfold chkF; rw [show nodeOK s.fr = false from by simp [nodeOK]; omega]; simp) (fun p => by unfold chkF; rw [show nodeOK s.fr = false from by simp [nodeOK]; omega]; simp))
        clear fin HK hi HRB HR2
        subst hr2
        go_wp2_with (first | (go_at_call 45; refine (his _).mono ?_; rintro e w1 ⟨rfl, rfl⟩))
        go_wp2
        try simp only [Exit.noGoto]
        go_ret
        exact ⟨rfl, HX.out⟩
      have hno : nodeOK s.fr = true := nodeOK_iff.2 ⟨by omega, by omega⟩
      have hf1' : s.fr ≤ 10000 := by omega
      clear fin
      rcases HK.out with ⟨hk0, e⟩ | ⟨q, p, hkq, hp, e⟩
      · subst hk0
        rw [Nat.zero_mul, Nat.add_zero] at c2 c3
        by_cases hz : s.at_ = 0
        · unfold chkF at e
          rw [hi, hno, hz, show decide ((0 : Int) = 0) = true from rfl, show decide ((-1 : Int) < 0) = true from rfl, show decide (s.fr ≠ DD) = true from decide_eq_true (by unfold DD; omega), Bool.true_and, Bool.true_and, Bool.true_and, Bool.true_and, Bool.true_and, ← hz] at e
          have HC2 := Lib.hid e
          rw [hz] at c2 his
          clear e HK hi hno hz HR2 hbd
          go_wp2_with (first | (go_at_call 45; refine (his _).mono ?_; rintro e w1 ⟨rfl, rfl⟩))
          go_quiet (fail)
          go_wp2
          go_roundw
          case rel => exact ⟨1, by omega, by go_num, Lib.hid (Or.inr ⟨0, s, rfl, HS.out, HC2.out.symm⟩), Lib.hid (blw HX.out (drN _ _))⟩
          case measure => simp [intOf]; omega
        · have hlow : 0 < s.at_ := by omega
          have hr2 := HR2.out (by rw [e, decide_eq_false hz]; rfl)
          clear e HK hi hno hz HR2 HRB
          subst hr2
          go_wp2_with (first | (go_at_call 45; refine (his _).mono ?_; rintro e w1 ⟨rfl, rfl⟩))
          go_quiet (fail)
          go_wp2
          try simp only [Exit.noGoto]
          go_ret
          exact ⟨rfl, blw HX.out (drN _ _)⟩
      · obtain ⟨b2, o2, eB, d0, d1⟩ := (H.out.below HX.out).cells q p hp
        obtain ⟨rfl, rfl⟩ : b = b2 ∧ off = o2 := by injection eB with eB; injection eB with e1 e2; exact ⟨e1, e2⟩
        have hq1 : IntKind.i64.wrap ((k : Int) - 1) = (q : Int) := by rw [IntWalk.i64_in _ (by omega)]; omega
        have hk0 : 0 < k := by omega
        have hkb : ((k : Int) == 0) = false := by rw [beq_eq_false_iff_ne]; omega
        have hqn : q < n := by omega
        have HKQ := Lib.hid hkq
        unfold chkF at e
        rw [hi, hno, Bool.true_and, Bool.true_and] at e
        by_cases hat : p.at_ < s.at_
        · rw [decide_eq_true hat, Bool.true_and] at e
          have hle : ¬ s.at_ ≤ p.at_ := by omega
          by_cases hfr : s.fr = p.fr
          · have hfb : (s.fr == p.fr) = true := by rw [beq_iff_eq]; exact hfr
            have hr2 := HR2.out (by rw [← e]; simp [hfr])
            clear e HK hi hno HR2 HRB hkq hp eB hat hfr hbd
            subst hr2
            go_wp2_with (first | (go_at_call 45; refine (his _).mono ?_; rintro e w1 ⟨rfl, rfl⟩))
            go_quiet (fail)
            go_wp2
            try simp only [Exit.noGoto]
            go_ret
            exact ⟨rfl, blw HX.out (drN _ _)⟩
          · have hfb : (s.fr == p.fr) = false := by rw [beq_eq_false_iff_ne]; exact hfr
            rw [show decide (s.fr ≠ p.fr) = true from decide_eq_true hfr, Bool.true_and] at e
            have HC2 := Lib.hid e
            clear e HK hi hno HR2 hkq hp eB hat hfr hbd
            go_wp2_with (first | (go_at_call 45; refine (his _).mono ?_; rintro e w1 ⟨rfl, rfl⟩))
            go_quiet (fail)
            go_wp2
            go_roundw
            case rel => exact ⟨k + 1, by omega, by go_num, Lib.hid (Or.inr ⟨k, s, rfl, HS.out, HC2.out⟩), Lib.hid (blw HX.out (drN _ _))⟩
            case measure => simp [intOf]; omega
        · have hle : s.at_ ≤ p.at_ := by omega
          have hr2 := HR2.out (by rw [← e, decide_eq_false hat]; rfl)
          clear e HK hi hno HR2 HRB hkq hp eB hat hbd
          subst hr2
          go_wp2_with (first | (go_at_call 45; refine (his _).mono ?_; rintro e w1 ⟨rfl, rfl⟩))
          go_quiet (fail)
          go_wp2
          try simp only [Exit.noGoto]
          go_ret
          exact ⟨rfl, blw HX.out (drN _ _)⟩
    · obtain rfl : k = n := by omega
      have hb1 : bb = true := by
        rcases HP.out with e | ⟨q, p, _, _, e⟩
        · omega
        · rw [← e, List.drop_eq_nil_of_le (by rw [HN.out]; exact Nat.le_refl _)]; rfl
      have hr2 : r = 0 := by rw [HRB.out, hb1]; rfl
      subst hr2
      clear hb1
      go_wp2
      try simp only [Exit.noGoto]
      go_ret
      exact ⟨rfl, HX.out⟩
end Go.Proofs.Ytldmkbmkjdnaaaa.Stp

