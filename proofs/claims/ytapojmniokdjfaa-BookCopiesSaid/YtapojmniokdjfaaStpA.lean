/- Layer 9: isCount, New, Check; the document's Check. -/
import Derived.Test.YtapojmniokdjfaaStpMem
namespace Go.Proofs.Ytapojmniokdjfaa.Stp
open Go.RowKit Go.Shelf
set_option linter.unusedVariables false
set_option maxRecDepth 100000

theorem count_any (t : Int) (w : World) : Calls Try.prog 34 #[.int .i64 t] w fun e w' => e = .returned (.bool (nodeOK t)) ∧ w = w' := by
  by_cases h0 : 0 ≤ t
  · by_cases h1 : t ≤ 10000
    · rw [show nodeOK t = true from by simp [nodeOK, h0, h1]]
      go_enter Try.func34, Try.ntmps34
      go_wp2
      go_ret
      exact ⟨rfl, rfl⟩
    · rw [show nodeOK t = false from by simp [nodeOK, h1]]
      go_enter Try.func34, Try.ntmps34
      go_wp2
      go_ret
      exact ⟨rfl, rfl⟩
  · rw [show nodeOK t = false from by simp [nodeOK, h0]]
    go_enter Try.func34, Try.ntmps34
    go_wp2
    go_ret
    exact ⟨rfl, rfl⟩

set_option maxHeartbeats 800000 in
theorem check_any (l : List StepD) (A : Option Addr) (n c : Nat) (hn : l.length = n) (w : World) (h : Stp w A c l) :
    Calls Try.prog 15 #[.slice A n c] w fun e w' => e = .returned (.int .i64 (chkE l)) ∧ Below w.heap.size w w' := by
  have hnl : n ≤ 9223372036854775807 := by rw [← hn]; exact h.lenI
  have H := Lib.hid h
  obtain ⟨r, hr⟩ : ∃ r, chkE l = r := ⟨_, rfl⟩
  rw [hr]
  have hlen := h.cap
  unfold chkE chkD at hr
  by_cases h1 : n = 0
  · subst h1
    obtain rfl := List.eq_nil_of_length_eq_zero hn
    have hr2 : r = 2 := by rw [← hr]; rfl
    subst hr2
    clear h hr
    go_enter Try.func15, Try.ntmps15
    go_wp2
    go_ret
    exact ⟨rfl, Below.refl _ _⟩
  have n0 : ((n : Int) == 0) = false := by rw [beq_eq_false_iff_ne]; omega
  by_cases h2 : 20000 < n
  · have hr2 : r = 2 := by rw [← hr, if_neg]; simp; omega
    subst hr2
    clear h hr
    go_enter Try.func15, Try.ntmps15
    go_wp2
    go_ret
    exact ⟨rfl, Below.refl _ _⟩
  have n1 : (n : Int) ≤ 20000 := by omega
  obtain ⟨b, off, s0, eA, hs0, c0, c1⟩ := h.lt (k := 0) (by omega)
  subst eA
  rw [Nat.zero_mul, Nat.add_zero] at c0 c1
  obtain ⟨r0, hl0⟩ : ∃ r0, l = s0 :: r0 := by
    cases l with
    | nil => simp at hs0
    | cons a r0 => simp at hs0; exact ⟨r0, by rw [hs0]⟩
  have hz : zeroF l = decide (s0.at_ = 0) := by rw [hl0]; rfl
  by_cases h3 : s0.at_ = 0
  case neg =>
    have hr2 : r = 2 := by rw [← hr, if_neg]; rw [hz]; simp [h3]
    subst hr2
    have h3b : (s0.at_ != 0) = true := by simp [h3]
    clear h hr hs0 hl0 hz
    go_enter Try.func15, Try.ntmps15
    go_wp2
    go_ret
    exact ⟨rfl, Below.refl _ _⟩
  obtain ⟨bb, hbb⟩ : ∃ bb, chkF (-1) DD l = bb := ⟨_, rfl⟩
  have hrb : r = if bb = true then 0 else 2 := by
    rw [← hr, hz, hbb, hn, h3]
    simp [show n ≤ 20000 from by omega]
  have h3b : (s0.at_ != 0) = false := by simp [h3]
  have HBB := Lib.hid hbb; have HRB := Lib.hid hrb; have HN := Lib.hid hn
  clear h hr hz hbb hrb hl0 hs0 hn h3
  go_enter Try.func15, Try.ntmps15
  go_wp2
  go_loopw [22] (fun i wr => ∃ (k : Nat) (lo d : Int), k ≤ n ∧ i = .int .i64 k ∧ Hid (chkF lo d (l.drop k) = bb) ∧ Hid (k = 0 ∧ lo = -1 ∧ d = DD ∨ ∃ q p, k = q + 1 ∧ l[q]? = some p ∧ p.at_ = lo ∧ p.fr = d) ∧ Hid (Below w.heap.size w wr)) (fun i _ => n - (intOf i).toNat)
  case atStart => exact ⟨0, -1, DD, Nat.zero_le _, rfl, HBB, Lib.hid (Or.inl ⟨rfl, rfl, rfl⟩), Lib.hid (Below.refl _ _)⟩
  case round =>
    clear c0 c1
    obtain ⟨k, lo, d, hk, rfl, HC, HP, HX⟩ := hrel
    by_cases hlt : k < n
    · obtain ⟨b1, o1, s, eA, hs, c2, c3⟩ := (H.out.below HX.out).lt (k := k) (by rw [HN.out]; exact hlt)
      have hd : l.drop k = s :: l.drop (k + 1) := by
        rw [List.drop_eq_getElem_cons (by rw [HN.out]; exact hlt), (List.getElem?_eq_some_iff.1 hs).2]
      have hc := HC.out
      rw [hd] at hc
      unfold chkF at hc
      obtain ⟨rfl, rfl⟩ : b = b1 ∧ off = o1 := by injection eA with eA; injection eA with e1 e2; exact ⟨e1, e2⟩
      have HX1 : Hid (Below w.heap.size w (wr.alloc (.cells #[.int .i64 s.at_, .int .i64 s.fr] 58))) := Lib.hid (blw HX.out (al _ _))
      have his := fun (W : World) => Clk.is_any s.at_ W
      have hco := fun (W : World) => count_any s.fr W
      clear hd h3b
      cases hi : Clk.isT s.at_
      · rw [hi] at hc his
        obtain rfl : bb = false := by rw [← hc]; rfl
        have hr2 := HRB.out
        subst hr2
        clear hc hs eA
        go_wp2_with (first | (go_at_call 31; refine (his _).mono ?_; rintro e w1 ⟨rfl, rfl⟩))
        go_wp2
        try simp only [Exit.noGoto]
        go_ret
        exact ⟨rfl, HX1.out⟩
      · rw [hi] at hc his
        cases hf : nodeOK s.fr
        · rw [hf] at hc hco
          obtain rfl : bb = false := by rw [← hc]; rfl
          have hr2 := HRB.out
          subst hr2
          clear hc hs eA
          go_wp2_with (first | (go_at_call 31; refine (his _).mono ?_; rintro e w1 ⟨rfl, rfl⟩) | (go_at_call 34; refine (hco _).mono ?_; rintro e w1 ⟨rfl, rfl⟩))
          go_wp2
          try simp only [Exit.noGoto]
          go_ret
          exact ⟨rfl, HX1.out⟩
        · rw [hf] at hc hco
          rw [Bool.true_and, Bool.true_and] at hc
          rcases HP.out with ⟨rfl, rfl, rfl⟩ | ⟨q, p, hkq, hp, rfl, rfl⟩
          · rw [show decide (-1 < s.at_) = true from decide_eq_true (by have := Clk.isT_bd hi; omega), show decide (s.fr ≠ DD) = true from decide_eq_true (by have := nodeOK_iff.1 hf; unfold DD; omega), Bool.true_and, Bool.true_and] at hc
            have HC2 := Lib.hid hc
            have HS := Lib.hid hs
            rw [Nat.zero_mul, Nat.add_zero] at c2 c3
            clear hc hs eA
            go_wp2_with (first | (go_at_call 31; refine (his _).mono ?_; rintro e w1 ⟨rfl, rfl⟩) | (go_at_call 34; refine (hco _).mono ?_; rintro e w1 ⟨rfl, rfl⟩))
            go_quiet (fail)
            go_wp2
            go_roundw
            case rel => exact ⟨1, s.at_, s.fr, by omega, by go_num, HC2, Lib.hid (Or.inr ⟨0, s, rfl, HS.out, rfl, rfl⟩), Lib.hid (blw HX1.out (drN _ _))⟩
            case measure => simp [intOf]; omega
          · obtain ⟨b2, o2, eB, d0, d1⟩ := (H.out.below HX.out).cells q p hp
            obtain ⟨rfl, rfl⟩ : b = b2 ∧ off = o2 := by injection eB with eB; injection eB with e1 e2; exact ⟨e1, e2⟩
            have hq1 : IntKind.i64.wrap ((k : Int) - 1) = (q : Int) := by rw [IntWalk.i64_in _ (by omega)]; omega
            have hk0 : 0 < k := by omega
            have hqn : q < n := by omega
            have HS := Lib.hid hs; have HKQ := Lib.hid hkq
            by_cases hat : p.at_ < s.at_
            · by_cases hfr : s.fr = p.fr
              · rw [hfr] at hc
                obtain rfl : bb = false := by rw [← hc]; simp
                have hr2 := HRB.out
                subst hr2
                have hle : ¬ s.at_ ≤ p.at_ := by omega
                rw [hfr] at c3
                rw [hfr] at HX1 hco
                clear hc hs eA hkq hp eB hat hfr
                go_wp2_with (first | (go_at_call 31; refine (his _).mono ?_; rintro e w1 ⟨rfl, rfl⟩) | (go_at_call 34; refine (hco _).mono ?_; rintro e w1 ⟨rfl, rfl⟩))
                have x1 := kp (al wr (.cells #[.int .i64 s.at_, .int .i64 p.fr] 58)) d0
                have x2 := kp (al wr (.cells #[.int .i64 s.at_, .int .i64 p.fr] 58)) d1
                obtain ⟨x3, x4⟩ := new2 wr (.int .i64 s.at_) (.int .i64 p.fr) 58
                generalize wr.alloc (.cells #[.int .i64 s.at_, .int .i64 p.fr] 58) = x0 at x1 x2 x3 x4 HX1 ⊢
                generalize wr.heap.size = tb at x3 x4 ⊢
                go_quiet (fail)
                go_wp2
                try simp only [Exit.noGoto]
                go_ret
                exact ⟨rfl, blw HX1.out (drN _ _)⟩
              · have hle : ¬ s.at_ ≤ p.at_ := by omega
                have hfb : (s.fr == p.fr) = false := by rw [beq_eq_false_iff_ne]; exact hfr
                rw [show decide (p.at_ < s.at_) = true from decide_eq_true hat, show decide (s.fr ≠ p.fr) = true from decide_eq_true hfr, Bool.true_and, Bool.true_and] at hc
                have HC2 := Lib.hid hc
                clear hc hs eA hkq hp eB hat hfr
                go_wp2_with (first | (go_at_call 31; refine (his _).mono ?_; rintro e w1 ⟨rfl, rfl⟩) | (go_at_call 34; refine (hco _).mono ?_; rintro e w1 ⟨rfl, rfl⟩))
                have x1 := kp (al wr (.cells #[.int .i64 s.at_, .int .i64 s.fr] 58)) d0
                have x2 := kp (al wr (.cells #[.int .i64 s.at_, .int .i64 s.fr] 58)) d1
                obtain ⟨x3, x4⟩ := new2 wr (.int .i64 s.at_) (.int .i64 s.fr) 58
                generalize wr.alloc (.cells #[.int .i64 s.at_, .int .i64 s.fr] 58) = x0 at x1 x2 x3 x4 HX1 ⊢
                generalize wr.heap.size = tb at x3 x4 ⊢
                go_quiet (fail)
                go_wp2
                go_roundw
                case rel => exact ⟨k + 1, s.at_, s.fr, by omega, by go_num, HC2, Lib.hid (Or.inr ⟨k, s, rfl, HS.out, rfl, rfl⟩), Lib.hid (blw HX1.out (drN _ _))⟩
                case measure => simp [intOf]; omega
            · have hle : s.at_ ≤ p.at_ := by omega
              rw [show decide (p.at_ < s.at_) = false from decide_eq_false hat] at hc
              obtain rfl : bb = false := by rw [← hc]; rfl
              have hr2 := HRB.out
              subst hr2
              clear hc hs eA hkq hp eB hat
              go_wp2_with (first | (go_at_call 31; refine (his _).mono ?_; rintro e w1 ⟨rfl, rfl⟩) | (go_at_call 34; refine (hco _).mono ?_; rintro e w1 ⟨rfl, rfl⟩))
              have x1 := kp (al wr (.cells #[.int .i64 s.at_, .int .i64 s.fr] 58)) d0
              have x2 := kp (al wr (.cells #[.int .i64 s.at_, .int .i64 s.fr] 58)) d1
              obtain ⟨x3, x4⟩ := new2 wr (.int .i64 s.at_) (.int .i64 s.fr) 58
              generalize wr.alloc (.cells #[.int .i64 s.at_, .int .i64 s.fr] 58) = x0 at x1 x2 x3 x4 HX1 ⊢
              generalize wr.heap.size = tb at x3 x4 ⊢
              go_quiet (fail)
              go_wp2
              try simp only [Exit.noGoto]
              go_ret
              exact ⟨rfl, blw HX1.out (drN _ _)⟩
    · obtain rfl : k = n := by omega
      have hc := HC.out
      rw [List.drop_eq_nil_of_le (by rw [HN.out]; exact Nat.le_refl _)] at hc
      obtain rfl : bb = true := by rw [← hc]; rfl
      have hr2 := HRB.out
      subst hr2
      clear hc
      go_wp2
      try simp only [Exit.noGoto]
      go_ret
      exact ⟨rfl, HX.out⟩
end Go.Proofs.Ytapojmniokdjfaa.Stp

