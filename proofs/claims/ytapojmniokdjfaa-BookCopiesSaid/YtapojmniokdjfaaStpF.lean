/- Layer 9: the least and the greatest of a while. -/
import Derived.Test.YtapojmniokdjfaaStpE
namespace Go.Proofs.Ytapojmniokdjfaa.Stp
open Go.RowKit Go.Shelf
set_option linter.unusedVariables false
set_option maxRecDepth 100000

set_option maxHeartbeats 1600000 in
theorem extremes_any (l : List StepD) (a b : Int) (A : Option Addr) (n c : Nat) (hn : l.length = n) (w : World) (h : Stp w A c l) :
    Calls Try.prog 46 #[.slice A n c, .int .i64 a, .int .i64 b] w fun e w' => e = .returned (.tuple #[.int .i64 (minV l a b), .int .i64 (maxV l a b), .int .i64 (endE l a b)]) ∧ Below w.heap.size w w' := by
  have HD := Lib.hid fun W (hW : Below w.heap.size w W) => during_any l a b A n c hn W (h.below hW)
  obtain ⟨e0, he0⟩ : ∃ e0, endE l a b = e0 := ⟨_, rfl⟩
  obtain ⟨mi, hmi⟩ : ∃ mi, minV l a b = mi := ⟨_, rfl⟩
  obtain ⟨ma, hma⟩ : ∃ ma, maxV l a b = ma := ⟨_, rfl⟩
  rw [he0, hmi, hma]
  unfold minV at hmi
  unfold maxV at hma
  rw [he0] at hmi hma
  unfold endE at he0
  obtain ⟨r, hr⟩ : ∃ r, durE l a b = r := ⟨_, rfl⟩
  obtain ⟨R, hR⟩ : ∃ R, durL l a b = R := ⟨_, rfl⟩
  unfold RetS at HD
  rw [hr, hR] at HD
  rw [hr] at he0
  have hRR := hR
  unfold durL at hRR
  rw [hr] at hRR
  by_cases h2 : r = 2
  · subst h2
    rw [if_neg (by omega)] at he0
    subst he0
    rw [if_neg (by omega)] at hmi hma
    subst hmi hma
    rw [if_neg (by omega)] at hRR
    subst hRR
    clear h hr hR hn
    go_enter Try.func46, Try.ntmps46
    go_wp2_with fail
    refine (HD.out _ (Below.refl _ _)).mono ?_
    rintro e w1 ⟨A1, c1, rfl, hs1, hb1⟩
    go_wp2
    go_ret3
    exact ⟨rfl, hb1⟩
  · obtain rfl : r = 0 := by rcases dur_or l a b with q | q <;> omega
    obtain ⟨hp, hi, hj, hab⟩ := dur_yes hr
    have hbd := Clk.isT_bd hi
    by_cases hlt : a < b
    · rw [if_pos ⟨rfl, hlt⟩] at he0
      subst he0
      rw [if_pos rfl] at hmi hma
      rw [if_pos ⟨rfl, hlt⟩] at hRR
      subst hRR
      obtain ⟨hpl, hp1⟩ := part_len hp hbd.1 hlt

      have hpm : (partL l a b).length ≤ 20000 := by have := hp.len; have := led_le l (b - 1); omega
      generalize partL l a b = P at *
      obtain ⟨m, hm⟩ : ∃ m, P.length = m := ⟨_, rfl⟩
      rw [hm] at HD hp1 hpm
      have HM := Lib.hid hm; have HMI := Lib.hid hmi; have HMA := Lib.hid hma
      have hmb : ((m : Int) == 0) = false := by rw [beq_eq_false_iff_ne]; omega
      clear h hr hR hn hpl hm hmi hma hi hj hp
      go_enter Try.func46, Try.ntmps46
      go_wp2_with fail
      refine (HD.out _ (Below.refl _ _)).mono ?_
      rintro e w1 ⟨A1, c1, rfl, hs1, hb1⟩
      have HS := Lib.hid hs1; have HB := Lib.hid hb1
      obtain ⟨b0, o0, s0, eA, hs0, c0, c2⟩ := hs1.lt (k := 0) (by rw [HM.out]; omega)
      subst eA
      rw [Nat.zero_mul, Nat.add_zero] at c0 c2
      have hhd : headV P = s0.fr := by
        cases P with
        | nil => simp at hs0
        | cons x P => simp at hs0; rw [hs0]; rfl
      have HHD := Lib.hid hhd
      clear hs1 hb1 hs0 hhd
      go_wp2_with fail
      go_quiet (fail)
      clear c0 c2
      go_wp2
      go_loopw [39, 11, 12] (fun vi vl vm wr => ∃ (k : Nat) (x y : Int), k ≤ m ∧ vi = .int .i64 k ∧ vl = .int .i64 x ∧ vm = .int .i64 y ∧ Hid (minF x (P.drop k) = mi) ∧ Hid (maxF y (P.drop k) = ma) ∧ Hid (Below w1.heap.size w1 wr)) (fun vi _ _ _ => m - (intOf vi).toNat)
      case atStart => exact ⟨0, s0.fr, s0.fr, Nat.zero_le _, rfl, rfl, rfl, Lib.hid (by rw [← HHD.out]; exact HMI.out), Lib.hid (by rw [← HHD.out]; exact HMA.out), Lib.hid (drN _ _)⟩
      case round =>
        obtain ⟨k, x, y, hk, rfl, rfl, rfl, HI, HA, HX⟩ := hrel
        by_cases hkm : k < m
        · obtain ⟨b, off, s, eA, hs, c2, c3⟩ := (HS.out.below HX.out).lt (k := k) (by rw [HM.out]; exact hkm)
          obtain ⟨rfl, rfl⟩ : b0 = b ∧ o0 = off := by injection eA with eA; injection eA with e1 e2; exact ⟨e1, e2⟩
          have hd : P.drop k = s :: P.drop (k + 1) := by
            rw [List.drop_eq_getElem_cons (by rw [HM.out]; exact hkm), (List.getElem?_eq_some_iff.1 hs).2]
          have HI2 : Hid (minF (if s.fr < x then s.fr else x) (P.drop (k + 1)) = mi) := Lib.hid (by have := HI.out; rw [hd] at this; exact this)
          have HA2 : Hid (maxF (if y < s.fr then s.fr else y) (P.drop (k + 1)) = ma) := Lib.hid (by have := HA.out; rw [hd] at this; exact this)
          have HX1 : Hid (Below w1.heap.size w1 (wr.alloc (.cells #[.int .i64 s.at_, .int .i64 s.fr] 58))) := Lib.hid (blw HX.out (al _ _))
          clear hd hs eA HI HA
          obtain ⟨x3, x4⟩ := new2 wr (.int .i64 s.at_) (.int .i64 s.fr) 58
          go_wp2_with fail
          generalize wr.alloc (.cells #[.int .i64 s.at_, .int .i64 s.fr] 58) = W2 at HX1 x3 x4 ⊢
          generalize wr.heap.size = tb at x3 x4 ⊢
          go_quiet (fail)
          go_wp2
          refine ⟨⟨k + 1, _, _, by omega, by go_num, rfl, rfl, HI2, HA2, Lib.hid (blw HX1.out (drN _ _))⟩, ?_⟩
          simp [intOf]; omega
        · obtain rfl : k = m := by omega
          have e1 : x = mi := by have := HI.out; rw [List.drop_eq_nil_of_le (by rw [HM.out]; exact Nat.le_refl _)] at this; exact this
          have e2 : y = ma := by have := HA.out; rw [List.drop_eq_nil_of_le (by rw [HM.out]; exact Nat.le_refl _)] at this; exact this
          subst e1 e2
          go_wp2
          go_ret3
          exact ⟨rfl, blw HB.out HX.out⟩
    · rw [if_neg (by omega)] at he0
      subst he0
      rw [if_neg (by omega)] at hmi hma
      subst hmi hma
      rw [if_neg (by omega)] at hRR
      subst hRR
      clear h hr hR hn
      go_enter Try.func46, Try.ntmps46
      go_wp2_with fail
      refine (HD.out _ (Below.refl _ _)).mono ?_
      rintro e w1 ⟨A1, c1, rfl, hs1, hb1⟩
      go_wp2
      go_ret3
      exact ⟨rfl, hb1⟩

theorem least_any (l : List StepD) (a b : Int) (A : Option Addr) (n c : Nat) (hn : l.length = n) (w : World) (h : Stp w A c l) :
    Calls Try.prog 25 #[.slice A n c, .int .i64 a, .int .i64 b] w fun e w' => e = .returned (.tuple #[.int .i64 (minV l a b), .int .i64 (endE l a b)]) ∧ Below w.heap.size w w' := by
  have HD := Lib.hid (extremes_any l a b A n c hn w h)
  clear h
  go_enter Try.func25, Try.ntmps25
  go_wp2_with fail
  refine HD.out.mono ?_
  rintro e w1 ⟨rfl, hb1⟩
  go_wp2
  go_ret2
  exact ⟨rfl, hb1⟩
end Go.Proofs.Ytapojmniokdjfaa.Stp

