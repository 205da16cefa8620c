/- Layer 9: the document's Same; known. -/
import Derived.Test.YtldmkbmkjdnaaaaStpF
import Derived.Test.YtldmkbmkjdnaaaaStpJ
namespace Go.Proofs.Ytldmkbmkjdnaaaa.Stp
open Go.RowKit Go.Shelf
set_option linter.unusedVariables false
set_option maxRecDepth 100000

def sameB : List StepD → List StepD → Bool
  | [], [] => true
  | a :: l, b :: m => decide (a.at_ = b.at_) && (decide (a.fr = b.fr) && sameB l m)
  | _, _ => false
theorem sameB_iff : ∀ {l m : List StepD}, sameB l m = true ↔ l = m
  | [], [] => by simp [sameB]
  | [], b :: m => by simp [sameB]
  | a :: l, [] => by simp [sameB]
  | a :: l, b :: m => by
    simp only [sameB, Bool.and_eq_true, decide_eq_true_eq, sameB_iff (l := l) (m := m)]
    constructor
    · rintro ⟨h1, h2, h3⟩; rw [stepD_ext h1 h2, h3]
    · intro h; injection h with h1 h2; subst h1 h2; exact ⟨rfl, rfl, rfl⟩
theorem sameB_len {l m : List StepD} (h : l.length ≠ m.length) : sameB l m = false := by
  cases hs : sameB l m
  · rfl
  · exact absurd (by rw [sameB_iff.1 hs]) h
set_option maxHeartbeats 800000 in
theorem rsame_any (l m : List StepD) (A B : Option Addr) (n k c d : Nat) (hn : l.length = n) (hk : m.length = k) (w : World) (h : Stp w A c l) (h' : Stp w B d m) :
    Calls Try.prog 13 #[.slice A n c, .slice B k d] w fun e w' => e = .returned (.bool (sameB l m)) ∧ Below w.heap.size w w' := by
  have hnl : n ≤ 9223372036854775807 := by rw [← hn]; exact h.lenI
  have hkl : k ≤ 9223372036854775807 := by rw [← hk]; exact h'.lenI
  obtain ⟨r, hr⟩ : ∃ r, sameB l m = r := ⟨_, rfl⟩
  rw [hr]
  have H1 := Lib.hid h; have H2 := Lib.hid h'; have HN := Lib.hid hn; have HK := Lib.hid hk; have HR := Lib.hid hr
  by_cases hnk : n = k
  case neg =>
    obtain rfl : r = false := by rw [← hr]; exact sameB_len (by rw [hn, hk]; exact hnk)
    have hnb : ((n : Int) != (k : Int)) = true := by rw [bne_iff_ne]; omega
    clear h h' hn hk hr hnk
    go_enter Try.func13, Try.ntmps13
    go_wp2
    go_ret
    exact ⟨rfl, Below.refl _ _⟩
  subst hnk
  have hnb : ((n : Int) != (n : Int)) = false := by simp
  clear h h' hn hk hr
  go_enter Try.func13, Try.ntmps13
  go_wp2
  go_loopw [5] (fun i wr => ∃ k : Nat, k ≤ n ∧ i = .int .i64 k ∧ Hid (sameB (l.drop k) (m.drop k) = r) ∧ Hid (Below w.heap.size w wr)) (fun i _ => n - (intOf i).toNat)
  case atStart => exact ⟨0, Nat.zero_le _, rfl, HR, Lib.hid (Below.refl _ _)⟩
  case round =>
    obtain ⟨k, hk, rfl, HS, HB⟩ := hrel
    by_cases hlt : k < n
    · obtain ⟨b1, o1, s, e1, hs, c1, c2⟩ := (H1.out.below HB.out).lt (k := k) (by rw [HN.out]; exact hlt)
      obtain ⟨b2, o2, u, e2, hu, c3, c4⟩ := (H2.out.below HB.out).lt (k := k) (by rw [HK.out]; exact hlt)
      subst e1 e2
      have hd1 : l.drop k = s :: l.drop (k + 1) := by
        rw [List.drop_eq_getElem_cons (by rw [HN.out]; exact hlt), (List.getElem?_eq_some_iff.1 hs).2]
      have hd2 : m.drop k = u :: m.drop (k + 1) := by
        rw [List.drop_eq_getElem_cons (by rw [HK.out]; exact hlt), (List.getElem?_eq_some_iff.1 hu).2]
      have hS := HS.out
      rw [hd1, hd2] at hS
      unfold sameB at hS
      by_cases h1 : s.at_ = u.at_
      · by_cases h2 : s.fr = u.fr
        · have hsu := stepD_ext h1 h2
          subst hsu
          rw [decide_eq_true h1, decide_eq_true h2, Bool.true_and, Bool.true_and] at hS
          have HS2 := Lib.hid hS
          clear hS hd1 hd2 hs hu HS h1 h2
          go_wp2_with fail
          go_quiet (fail)
          go_wp2
          go_roundw
          case rel => exact ⟨k + 1, by omega, by go_num, HS2, Lib.hid (blw HB.out (drN _ _))⟩
          case measure => simp [intOf]; omega
        · rw [decide_eq_false h2, Bool.false_and, Bool.and_false] at hS
          subst hS
          have hb : (s.fr == u.fr) = false := by rw [beq_eq_false_iff_ne]; exact h2
          have hb1 : (s.at_ == u.at_) = true := by rw [beq_iff_eq]; exact h1
          clear hd1 hd2 hs hu HS HR h1 h2
          go_wp2_with fail
          go_quiet (fail)
          go_wp2
          try simp only [Exit.noGoto]
          go_ret
          exact ⟨rfl, blw HB.out (drN _ _)⟩
      · rw [decide_eq_false h1, Bool.false_and] at hS
        subst hS
        have hb : (s.at_ == u.at_) = false := by rw [beq_eq_false_iff_ne]; exact h1
        clear hd1 hd2 hs hu HS HR h1
        go_wp2_with fail
        go_quiet (fail)
        go_wp2
        try simp only [Exit.noGoto]
        go_ret
        exact ⟨rfl, blw HB.out (drN _ _)⟩
    · obtain rfl : k = n := by omega
      have hS := HS.out
      rw [List.drop_eq_nil_of_le (by rw [HN.out]; exact Nat.le_refl _), List.drop_eq_nil_of_le (by rw [HK.out]; exact Nat.le_refl _)] at hS
      obtain rfl : r = true := by rw [← hS]; rfl
      clear hS
      go_wp2
      try simp only [Exit.noGoto]
      go_ret
      exact ⟨rfl, HB.out⟩

def kL : List StepD := [⟨0, 4⟩, ⟨10, 1⟩, ⟨20, 4⟩]
theorem k1 : newL 4 = [⟨0, 4⟩] := by kernel_rfl
theorem k2 : newE 4 = 0 := by kernel_rfl
theorem k3 : addL [⟨0, 4⟩] 10 20 (-3) = kL := by kernel_rfl
theorem k4 : addE [⟨0, 4⟩] 10 20 (-3) = 0 := by kernel_rfl
theorem k5 : minV kL 0 10 = 4 := by kernel_rfl
theorem k6 : endE kL 0 10 = 0 := by kernel_rfl
theorem k7 : minV kL 0 11 = 1 := by kernel_rfl
theorem k8 : endE kL 0 11 = 0 := by kernel_rfl
theorem k9 : addE kL 5 11 (-2) = 70 := by kernel_rfl
theorem k10 : addL kL 5 11 (-2) = [] := by kernel_rfl
theorem k11 : sameB kL kL = true := by kernel_rfl
set_option maxHeartbeats 1600000 in
theorem known9_any (w : World) : Calls Try.prog 11 #[] w fun e w' => e = .returned (.bool true) ∧ Below w.heap.size w w' := by
  have HN := Lib.hid fun (W : World) => new_any 4 W
  have HA := Lib.hid fun (A : Option Addr) (c : Nat) (W : World) (hs : Stp W A c [⟨0, 4⟩]) => add_any [⟨0, 4⟩] 10 20 (-3) A 1 c rfl (by decide) W hs
  have HL1 := Lib.hid fun (A : Option Addr) (c : Nat) (W : World) (hs : Stp W A c kL) => least_any kL 0 10 A 3 c rfl W hs
  have HL2 := Lib.hid fun (A : Option Addr) (c : Nat) (W : World) (hs : Stp W A c kL) => least_any kL 0 11 A 3 c rfl W hs
  have HA2 := Lib.hid fun (A : Option Addr) (c : Nat) (W : World) (hs : Stp W A c kL) => add_any kL 5 11 (-2) A 3 c rfl (by decide) W hs
  have HSM := Lib.hid fun (A B : Option Addr) (c d : Nat) (W : World) (hs : Stp W A c kL) (hs' : Stp W B d kL) => rsame_any kL kL A B 3 3 c d rfl rfl W hs hs'
  unfold RetS at HN HA HA2
  rw [k1, k2] at HN
  rw [k3, k4] at HA
  rw [k5, k6] at HL1
  rw [k7, k8] at HL2
  rw [k9, k10] at HA2
  rw [k11] at HSM
  go_enter Try.func11, Try.ntmps11
  go_wp2_with fail
  refine (HN.out _).mono ?_
  rintro e w1 ⟨A1, c1, rfl, hs1, hb1⟩
  have HS1 := Lib.hid hs1; have HB1 := Lib.hid hb1
  clear hs1 hb1
  go_wp2_with fail
  refine (HA.out _ _ _ HS1.out).mono ?_
  rintro e w2 ⟨A2, c2, rfl, hs2, hb2⟩
  have HS2 := Lib.hid hs2; have HB2 := Lib.hid (blw HB1.out hb2)
  clear hs2 hb2
  go_wp2_with fail
  refine (HL1.out _ _ _ HS2.out).mono ?_
  rintro e w3 ⟨rfl, hb3⟩
  have HS3 := Lib.hid (HS2.out.below hb3); have HB3 := Lib.hid (blw HB2.out hb3)
  clear hb3
  go_wp2_with fail
  refine (HL2.out _ _ _ HS3.out).mono ?_
  rintro e w4 ⟨rfl, hb4⟩
  have HS4 := Lib.hid (HS3.out.below hb4); have HB4 := Lib.hid (blw HB3.out hb4)
  clear hb4
  go_wp2_with fail
  refine (HA2.out _ _ _ HS4.out).mono ?_
  rintro e w5 ⟨A5, c5, rfl, hs5, hb5⟩
  have HS5 := Lib.hid (HS4.out.below hb5); have HB5 := Lib.hid (blw HB4.out hb5)
  clear hb5 hs5
  go_wp2_with fail
  refine (HSM.out _ _ _ _ _ (HS5.out.below (al _ _)) (lit3 (heap_alloc_new w5 _))).mono ?_
  rintro e w6 ⟨rfl, hb6⟩
  have HB6 := Lib.hid (blw (blw HB5.out (al w5 _)) hb6)
  clear hb6
  go_wp2
  go_ret
  exact ⟨rfl, HB6.out⟩
end Go.Proofs.Ytldmkbmkjdnaaaa.Stp

