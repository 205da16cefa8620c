/- steps.Same; one form of what is tidy. -/
import Derived.Test.YtldmkbmkjdnaaaaTidI
import Derived.Test.YtldmkbmkjdnaaaaStpK
namespace Go.Proofs.Ytldmkbmkjdnaaaa.Stp
open Go.RowKit Go.Shelf Go.Proofs.Ytldmkbmkjdnaaaa.Srt
set_option linter.unusedVariables false
set_option maxRecDepth 100000
theorem norm_re : ∀ {R : List StepD} {lo d lo' d' : Int}, Norm lo d R → (∀ u ∈ R, lo' < u.at_) → (∀ u ∈ R, u.fr ≠ d') → Norm lo' d' R
  | [], _, _, _, _, _, _, _ => trivial
  | s :: R, _, _, _, _, ⟨h1, h2, h3⟩, k1, k2 => ⟨k1 s (by simp), k2 s (by simp), h3⟩
theorem TidyR.uniq {X R R' : List StepD} (h : TidyR X R) (k : TidyR X R') : R = R' := by
  obtain ⟨lo, h1⟩ := low_ex X
  obtain ⟨d, h2⟩ := big_ex X
  exact (h lo d h1 fun u hu e => by have := (h2 u hu).2; omega).uniq (k lo d h1 fun u hu e => by have := (h2 u hu).2; omega)
theorem TidyR.again {X R R2 : List StepD} (h : TidyR X R) (k : TidyR R R2) : R2 = R := by
  obtain ⟨lo0, h1⟩ := low_ex X
  obtain ⟨d0, h2⟩ := big_ex X
  have hn := (h lo0 d0 h1 fun u hu e => by have := (h2 u hu).2; omega).norm
  obtain ⟨lo, k1⟩ := low_ex R
  obtain ⟨d, k2⟩ := big_ex R
  have hd : ∀ u ∈ R, u.fr ≠ d := fun u hu e => by have := (k2 u hu).2; omega
  exact (k lo d k1 hd).uniq (tidy_self (norm_re hn k1 hd))
set_option maxHeartbeats 800000 in
theorem eq_any (l m : List StepD) (A B : Option Addr) (n k c d : Nat) (hn : l.length = n) (hk : m.length = k) (w : World) (h : Stp w A c l) (h' : Stp w B d m) :
    Calls Try.prog 39 #[.slice A n c, .slice B k d] w fun e w' => e = .returned (.bool (sameB l m)) ∧ Below w.heap.size w w' := by
  have hnl : n ≤ 9223372036854775807 := by rw [← hn]; exact h.lenI
  have hkl : k ≤ 9223372036854775807 := by rw [← hk]; exact h'.lenI
  obtain ⟨r, hr⟩ : ∃ r, sameB l m = r := ⟨_, rfl⟩
  rw [hr]
  have H1 := Lib.hid h; have H2 := Lib.hid h'; have HN := Lib.hid hn; have HK := Lib.hid hk; have HR := Lib.hid hr
  by_cases hnk : n = k
  case neg =>
    obtain rfl : r = false := by rw [← hr]; exact sameB_len (by rw [hn, hk]; exact hnk)
    have hnb : ((n : Int) != (k : Int)) = true := by rw [bne_iff_ne]; omega
    clear h h' hn hk hr hnk
    go_enter Try.func39, Try.ntmps39
    go_wp2
    go_ret
    exact ⟨rfl, Below.refl _ _⟩
  subst hnk
  have hnb : ((n : Int) != (n : Int)) = false := by simp
  clear h h' hn hk hr
  go_enter Try.func39, Try.ntmps39
  go_wp2
  go_loopw [13] (fun i wr => ∃ k : Nat, k ≤ n ∧ i = .int .i64 k ∧ Hid (sameB (l.drop k) (m.drop k) = r) ∧ Hid (Below w.heap.size w wr)) (fun i _ => n - (intOf i).toNat)
  case atStart => exact ⟨0, Nat.zero_le _, rfl, HR, Lib.hid (Below.refl _ _)⟩
  case round =>
    obtain ⟨k, hk, rfl, HS, HB⟩ := hrel
    by_cases hlt : k < n
    · obtain ⟨b1, o1, s, e1, hs, c1, c2⟩ := (H1.out.below HB.out).lt (k := k) (by rw [HN.out]; exact hlt)
      obtain ⟨b2, o2, u, e2, hu, c3, c4⟩ := (H2.out.below HB.out).lt (k := k) (by rw [HK.out]; exact hlt)
      subst e1 e2
      have hd1 : l.drop k = s :: l.drop (k + 1) := by
        rw [List.drop_eq_getElem_cons (by rw [HN.out]; exact hlt), (List.getElem?_eq_some_iff.1 hs).2]
      have hd2 : m.drop k = u :: m.drop (k + 1) := by
        rw [List.drop_eq_getElem_cons (by rw [HK.out]; exact hlt), (List.getElem?_eq_some_iff.1 hu).2]
      have hS := HS.out
      rw [hd1, hd2] at hS
      unfold sameB at hS
      by_cases h1 : s.at_ = u.at_
      · by_cases h2 : s.fr = u.fr
        · have hsu := stepD_ext h1 h2
          subst hsu
          rw [decide_eq_true h1, decide_eq_true h2, Bool.true_and, Bool.true_and] at hS
          have HS2 := Lib.hid hS
          clear hS hd1 hd2 hs hu HS h1 h2
          go_wp2_with fail
          go_quiet (fail)
          go_wp2
          go_roundw
          case rel => exact ⟨k + 1, by omega, by go_num, HS2, Lib.hid (blw HB.out (drN _ _))⟩
          case measure => simp [intOf]; omega
        · rw [decide_eq_false h2, Bool.false_and, Bool.and_false] at hS
          subst hS
          have hb : (s.fr == u.fr) = false := by rw [beq_eq_false_iff_ne]; exact h2
          have hb1 : (s.at_ == u.at_) = true := by rw [beq_iff_eq]; exact h1
          clear hd1 hd2 hs hu HS HR h1 h2
          go_wp2_with fail
          go_quiet (fail)
          go_wp2
          try simp only [Exit.noGoto]
          go_ret
          exact ⟨rfl, blw HB.out (drN _ _)⟩
      · rw [decide_eq_false h1, Bool.false_and] at hS
        subst hS
        have hb : (s.at_ == u.at_) = false := by rw [beq_eq_false_iff_ne]; exact h1
        clear hd1 hd2 hs hu HS HR h1
        go_wp2_with fail
        go_quiet (fail)
        go_wp2
        try simp only [Exit.noGoto]
        go_ret
        exact ⟨rfl, blw HB.out (drN _ _)⟩
    · obtain rfl : k = n := by omega
      have hS := HS.out
      rw [List.drop_eq_nil_of_le (by rw [HN.out]; exact Nat.le_refl _), List.drop_eq_nil_of_le (by rw [HK.out]; exact Nat.le_refl _)] at hS
      obtain rfl : r = true := by rw [← hS]; rfl
      clear hS
      go_wp2
      try simp only [Exit.noGoto]
      go_ret
      exact ⟨rfl, HB.out⟩

theorem psame_any (l m : List StepD) (A B : Option Addr) (n k c d : Nat) (hn : l.length = n) (hk : m.length = k) (w : World) (h : Stp w A c l) (h' : Stp w B d m) :
    Calls Try.prog 15 #[.slice A n c, .slice B k d] w fun e w' => e = .returned (.bool (sameB l m)) ∧ Below w.heap.size w w' := by
  have HE := Lib.hid fun (W : World) (h1 : Stp W A c l) (h2 : Stp W B d m) => eq_any l m A B n k c d hn hk W h1 h2
  have H1 := Lib.hid h; have H2 := Lib.hid h'
  clear h h' hn hk
  go_enter Try.func15, Try.ntmps15
  go_wp2_with fail
  refine (HE.out _ H1.out H2.out).mono ?_
  rintro e w1 ⟨rfl, hb⟩
  go_wp2
  go_ret
  exact ⟨rfl, hb⟩
end Go.Proofs.Ytldmkbmkjdnaaaa.Stp

