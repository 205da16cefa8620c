/- Layer 9: the document's Same; known. -/
import Derived.Test.YtapojmniokdjfaaStpF
import Derived.Test.YtapojmniokdjfaaStpJ
namespace Go.Proofs.Ytapojmniokdjfaa.Stp
open Go.RowKit Go.Shelf
set_option linter.unusedVariables false
set_option maxRecDepth 100000

def sameB : List StepD → List StepD → Bool
  | [], [] => true
  | a :: l, b :: m => decide (a.at_ = b.at_) && (decide (a.fr = b.fr) && sameB l m)
  | _, _ => false
theorem sameB_iff : ∀ {l m : List StepD}, sameB l m = true ↔ l = m
  | [], [] => by simp [sameB]
  | [], b :: m => by simp [sameB]
  | a :: l, [] => by simp [sameB]
  | a :: l, b :: m => by
    simp only [sameB, Bool.and_eq_true, decide_eq_true_eq, sameB_iff (l := l) (m := m)]
    constructor
    · rintro ⟨h1, h2, h3⟩; rw [stepD_ext h1 h2, h3]
    · intro h; injection h with h1 h2; subst h1 h2; exact ⟨rfl, rfl, rfl⟩
theorem sameB_len {l m : List StepD} (h : l.length ≠ m.length) : sameB l m = false := by
  cases hs : sameB l m
  · rfl
  · exact absurd (by rw [sameB_iff.1 hs]) h
set_option maxHeartbeats 800000 in
theorem rsame_any (l m : List StepD) (A B : Option Addr) (n k c d : Nat) (hn : l.length = n) (hk : m.length = k) (w : World) (h : Stp w A c l) (h' : Stp w B d m) :
    Calls Try.prog 17 #[.slice A n c, .slice B k d] w fun e w' => e = .returned (.bool (sameB l m)) ∧ Below w.heap.size w w' := by
  have hnl : n ≤ 9223372036854775807 := by rw [← hn]; exact h.lenI
  have hkl : k ≤ 9223372036854775807 := by rw [← hk]; exact h'.lenI
  obtain ⟨r, hr⟩ : ∃ r, sameB l m = r := ⟨_, rfl⟩
  rw [hr]
  have H1 := Lib.hid h; have H2 := Lib.hid h'; have HN := Lib.hid hn; have HK := Lib.hid hk; have HR := Lib.hid hr
  by_cases hnk : n = k
  case neg =>
    obtain rfl : r = false := by rw [← hr]; exact sameB_len (by rw [hn, hk]; exact hnk)
    have hnb : ((n : Int) != (k : Int)) = true := by rw [bne_iff_ne]; omega
    clear h h' hn hk hr hnk
    go_enter Try.func17, Try.ntmps17
    go_wp2
    go_ret
    exact ⟨rfl, Below.refl _ _⟩
  subst hnk
  have hnb : ((n : Int) != (n : Int)) = false := by simp
  clear h h' hn hk hr
  go_enter Try.func17, Try.ntmps17
  go_wp2
  go_loopw [5] (fun i wr => ∃ k : Nat, k ≤ n ∧ i = .int .i64 k ∧ Hid (sameB (l.drop k) (m.drop k) = r) ∧ Hid (Below w.heap.size w wr)) (fun i _ => n - (intOf i).toNat)
  case atStart => exact ⟨0, Nat.zero_le _, rfl, HR, Lib.hid (Below.refl _ _)⟩
  case round =>
    obtain ⟨k, hk, rfl, HS, HB⟩ := hrel
    by_cases hlt : k < n
    · obtain ⟨b1, o1, s, e1, hs, c1, c2⟩ := (H1.out.below HB.out).lt (k := k) (by rw [HN.out]; exact hlt)
      obtain ⟨b2, o2, u, e2, hu, c3, c4⟩ := (H2.out.below HB.out).lt (k := k) (by rw [HK.out]; exact hlt)
      subst e1 e2
      have hd1 : l.drop k = s :: l.drop (k + 1) := by
        rw [List.drop_eq_getElem_cons (by rw [HN.out]; exact hlt), (List.getElem?_eq_some_iff.1 hs).2]
      have hd2 : m.drop k = u :: m.drop (k + 1) := by
        rw [List.drop_eq_getElem_cons (by rw [HK.out]; exact hlt), (List.getElem?_eq_some_iff.1 hu).2]
      have hS := HS.out
      rw [hd1, hd2] at hS
      unfold sameB at hS
      by_cases h1 : s.at_ = u.at_
      · by_cases h2 : s.fr = u.fr
        · have hsu := stepD_ext h1 h2
          subst hsu
          rw [decide_eq_true h1, decide_eq_true h2, Bool.true_and, Bool.true_and] at hS
          have HS2 := Lib.hid hS
          clear hS hd1 hd2 hs hu HS h1 h2
          go_wp2_with fail
          go_quiet (fail)
          go_wp2
          go_roundw
          case rel => exact ⟨k + 1, by omega, by go_num, HS2, Lib.hid (blw HB.out (drN _ _))⟩
          case measure => simp [intOf]; omega
        · rw [decide_eq_false h2, Bool.false_and, Bool.and_false] at hS
          subst hS
          have hb : (s.fr == u.fr) = false := by rw [beq_eq_false_iff_ne]; exact h2
          have hb1 : (s.at_ == u.at_) = true := by rw [beq_iff_eq]; exact h1
          clear hd1 hd2 hs hu HS HR h1 h2
          go_wp2_with fail
          go_quiet (fail)
          go_wp2
          try simp only [Exit.noGoto]
          go_ret
          exact ⟨rfl, blw HB.out (drN _ _)⟩
      · rw [decide_eq_false h1, Bool.false_and] at hS
        subst hS
        have hb : (s.at_ == u.at_) = false := by rw [beq_eq_false_iff_ne]; exact h1
        clear hd1 hd2 hs hu HS HR h1
        go_wp2_with fail
        go_quiet (fail)
        go_wp2
        try simp only [Exit.noGoto]
        go_ret
        exact ⟨rfl, blw HB.out (drN _ _)⟩
    · obtain rfl : k = n := by omega
      have hS := HS.out
      rw [List.drop_eq_nil_of_le (by rw [HN.out]; exact Nat.le_refl _), List.drop_eq_nil_of_le (by rw [HK.out]; exact Nat.le_refl _)] at hS
      obtain rfl : r = true := by rw [← hS]; rfl
      clear hS
      go_wp2
      try simp only [Exit.noGoto]
      go_ret
      exact ⟨rfl, HB.out⟩

def kL : List StepD := [⟨0, 4⟩, ⟨10, 1⟩, ⟨20, 4⟩]
theorem k1 : newL 4 = [⟨0, 4⟩] := by kernel_rfl
theorem k2 : newE 4 = 0 := by kernel_rfl
theorem k3 : addL [⟨0, 4⟩] 10 20 (-3) = kL := by kernel_rfl
theorem k4 : addE [⟨0, 4⟩] 10 20 (-3) = 0 := by kernel_rfl
theorem k5 : minV kL 0 10 = 4 := by kernel_rfl
theorem k6 : endE kL 0 10 = 0 := by kernel_rfl
theorem k7 : minV kL 0 11 = 1 := by kernel_rfl
theorem k8 : endE kL 0 11 = 0 := by kernel_rfl
theorem k9 : addE kL 5 11 (-2) = 70 := by kernel_rfl
theorem k10 : addL kL 5 11 (-2) = [] := by kernel_rfl
theorem k11 : sameB kL kL = true := by kernel_rfl
end Go.Proofs.Ytapojmniokdjfaa.Stp

