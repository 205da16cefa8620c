/- Layer 9: At; the steps of a while. -/
import Derived.Test.YtapojmniokdjfaaStpC
import Derived.Test.YtapojmniokdjfaaStpD
import Derived.Test.YtapojmniokdjfaaStpDur
namespace Go.Proofs.Ytapojmniokdjfaa.Stp
open Go.RowKit Go.Shelf
set_option linter.unusedVariables false
set_option maxRecDepth 100000

set_option maxHeartbeats 800000 in
theorem at_any (l : List StepD) (t : Int) (A : Option Addr) (n c : Nat) (hn : l.length = n) (w : World) (h : Stp w A c l) :
    Calls Try.prog 13 #[.slice A n c, .int .i64 t] w fun e w' => e = .returned (.int .i64 (atV l t)) ∧ Below w.heap.size w w' := by
  have H := Lib.hid h
  obtain ⟨r, hr⟩ : ∃ r, atV l t = r := ⟨_, rfl⟩
  rw [hr]
  unfold atV at hr
  have HC := Lib.hid fun W (hW : Below w.heap.size w W) => check_any l A n c hn W (h.below hW)
  have HIS := Lib.hid fun (W : World) => Clk.is_any t W
  rcases chkE_or l with ⟨hc, hp⟩ | ⟨hc, hp⟩
  · rw [hc] at HC
    cases hi : Clk.isT t
    · rw [hi] at hr HIS
      obtain rfl : r = 0 := by rw [← hr, if_neg (by simp)]
      clear h hr hi hc hp
      go_enter Try.func13, Try.ntmps13
      go_wp2_with (first | (go_at_call 15; refine (HC.out _ (Below.refl _ _)).mono ?_; rintro e w1 ⟨rfl, hb1⟩) | (go_at_call 31; refine (HIS.out _).mono ?_; rintro e w2 ⟨rfl, rfl⟩))
      go_wp2
      go_ret
      exact ⟨rfl, hb1⟩
    · have hbd := Clk.isT_bd hi
      rw [hi] at HIS
      obtain ⟨q, hq⟩ : ∃ q, ledF l t = q + 1 := ⟨ledF l t - 1, by have := hp.led hbd.1; omega⟩
      have hql : q < l.length := by have := led_le l t; omega
      obtain ⟨b, off, s, eA, hs, c0, c1⟩ := h.lt hql
      have hrs : r = s.fr := by rw [← hr, if_pos ⟨chkD_prof.2 hp, hi⟩]; exact led_val hp.rise hq hs
      subst hrs
      have HF := Lib.hid fun W (hW : Below w.heap.size w W) => find_any l t (-1) hp.rise A n c hn (by have := hp.len; omega) W (h.below hW)
      have hqi : (ledF l t : Int) - 1 = (q : Int) := by rw [hq]; omega
      rw [hqi] at HF
      have hqn : q < n := by omega
      have hnl : n ≤ 9223372036854775807 := by have := hp.len; omega
      have HX := Lib.hid c1
      subst eA
      clear h hr hi hc hp hq hqi hs c0 c1 hn hql H
      go_enter Try.func13, Try.ntmps13
      go_wp2_with (first | (go_at_call 15; refine (HC.out _ (Below.refl _ _)).mono ?_; rintro e w1 ⟨rfl, hb1⟩; have HB1 := Lib.hid hb1; clear hb1) | (go_at_call 31; refine (HIS.out _).mono ?_; rintro e w2 ⟨rfl, rfl⟩) | (go_at_call 32; refine (HF.out _ HB1.out).mono ?_; rintro e w3 ⟨rfl, hb3⟩; have HB3 := Lib.hid (blw HB1.out hb3); clear hb3; have c1 := kp HB3.out HX.out))
      go_ret
      exact ⟨rfl, HB3.out⟩
  · rw [hc] at HC
    obtain rfl : r = 0 := by rw [← hr, if_neg (by simp [hp])]
    clear h hr hc hp
    go_enter Try.func13, Try.ntmps13
    go_wp2_with (first | (go_at_call 15; refine (HC.out _ (Below.refl _ _)).mono ?_; rintro e w1 ⟨rfl, hb1⟩) | (go_at_call 31; refine (HIS.out _).mono ?_; rintro e w2 ⟨rfl, rfl⟩))
    go_wp2
    go_ret
    exact ⟨rfl, hb1⟩

set_option maxHeartbeats 1600000 in
theorem during_any (l : List StepD) (a b : Int) (A : Option Addr) (n c : Nat) (hn : l.length = n) (w : World) (h : Stp w A c l) :
    Calls Try.prog 52 #[.slice A n c, .int .i64 a, .int .i64 b] w (RetS (durL l a b) (durE l a b) w) := by
  have H := Lib.hid h
  obtain ⟨r, hr⟩ : ∃ r, durE l a b = r := ⟨_, rfl⟩
  obtain ⟨R, hR⟩ : ∃ R, durL l a b = R := ⟨_, rfl⟩
  rw [hr, hR]
  unfold durL at hR
  rw [hr] at hR
  have hr0 := hr
  unfold durE at hr
  have HC := Lib.hid fun W (hW : Below w.heap.size w W) => check_any l A n c hn W (h.below hW)
  have HIA := Lib.hid fun (W : World) => Clk.is_any a W
  have HIB := Lib.hid fun (W : World) => Clk.is_any b W
  by_cases h2 : r = 2
  · subst h2
    obtain rfl : R = [] := by rw [← hR, if_neg (by omega)]
    rcases chkE_or l with ⟨hc, hp⟩ | ⟨hc, hp⟩
    · rw [hc] at HC
      cases hi : Clk.isT a
      · rw [hi] at HIA
        clear h hr hR hi hc hp hr0
        go_enter Try.func52, Try.ntmps52
        go_wp2_with fail
        refine (HC.out _ (Below.refl _ _)).mono ?_
        rintro e w1 ⟨rfl, hb1⟩
        go_wp2_with fail
        refine (HIA.out _).mono ?_
        rintro e w2 ⟨rfl, rfl⟩
        go_wp2
        go_ret2
        exact retS_err rfl hb1
      · rw [hi] at HIA
        cases hj : Clk.isT b
        · rw [hj] at HIB
          clear h hr hR hi hj hc hp hr0
          go_enter Try.func52, Try.ntmps52
          go_wp2_with fail
          refine (HC.out _ (Below.refl _ _)).mono ?_
          rintro e w1 ⟨rfl, hb1⟩
          go_wp2_with fail
          refine (HIA.out _).mono ?_
          rintro e w2 ⟨rfl, rfl⟩
          go_wp2_with fail
          refine (HIB.out _).mono ?_
          rintro e w2 ⟨rfl, rfl⟩
          go_wp2
          go_ret2
          exact retS_err rfl hb1
        · rw [hj] at HIB
          have hba : b < a := by
            rcases Int.lt_or_le b a with q | q
            · exact q
            · rw [if_pos ⟨chkD_prof.2 hp, hi, hj, q⟩] at hr; cases hr
          clear h hr hR hi hj hc hp hr0
          go_enter Try.func52, Try.ntmps52
          go_wp2_with fail
          refine (HC.out _ (Below.refl _ _)).mono ?_
          rintro e w1 ⟨rfl, hb1⟩
          go_wp2_with fail
          refine (HIA.out _).mono ?_
          rintro e w2 ⟨rfl, rfl⟩
          go_wp2_with fail
          refine (HIB.out _).mono ?_
          rintro e w2 ⟨rfl, rfl⟩
          go_wp2
          go_ret2
          exact retS_err rfl hb1
    · rw [hc] at HC
      clear h hr hR hc hp hr0
      go_enter Try.func52, Try.ntmps52
      go_wp2_with fail
      refine (HC.out _ (Below.refl _ _)).mono ?_
      rintro e w1 ⟨rfl, hb1⟩
      go_wp2
      go_ret2
      exact retS_err rfl hb1
  · obtain rfl : r = 0 := by rcases dur_or l a b with q | q <;> omega
    obtain ⟨hp, hi, hj, hab⟩ := dur_yes hr0
    have hc : chkE l = 0 := by unfold chkE; rw [if_pos (chkD_prof.2 hp)]
    rw [hc] at HC
    rw [hi] at HIA
    rw [hj] at HIB
    have hbd := Clk.isT_bd hi
    have hbd2 := Clk.isT_bd hj
    have hnl : n ≤ 9223372036854775807 := by have := hp.len; omega
    by_cases heq : a = b
    · subst heq
      obtain rfl : R = [] := by rw [← hR, if_neg (by omega)]
      have hle : ¬ a < a := by omega
      have hbe : (a == a) = true := by simp
      clear h hr hR hi hj hc hp hr0
      go_enter Try.func52, Try.ntmps52
      go_wp2_with fail
      refine (HC.out _ (Below.refl _ _)).mono ?_
      rintro e w1 ⟨rfl, hb1⟩
      go_wp2_with fail
      refine (HIA.out _).mono ?_
      rintro e w2 ⟨rfl, rfl⟩
      go_wp2_with fail
      refine (HIB.out _).mono ?_
      rintro e w2 ⟨rfl, rfl⟩
      go_wp2
      go_ret2
      exact retS_err rfl hb1
    · have hlt : a < b := by omega
      have hRp : R = partL l a b := by rw [← hR, if_pos ⟨rfl, hlt⟩]
      obtain ⟨hpl, hp1⟩ := part_len hp hbd.1 hlt
      have HFA := Lib.hid fun W (hW : Below w.heap.size w W) => find_any l a (-1) hp.rise A n c hn (by have := hp.len; omega) W (h.below hW)
      have HFB := Lib.hid fun W (hW : Below w.heap.size w W) => find_any l (b - 1) (-1) hp.rise A n c hn (by have := hp.len; omega) W (h.below hW)
      obtain ⟨x, hx⟩ : ∃ x, ledF l a = x + 1 := ⟨ledF l a - 1, by have := hp.led hbd.1; omega⟩
      obtain ⟨y, hy⟩ : ∃ y, ledF l (b - 1) = y + 1 := ⟨ledF l (b - 1) - 1, by have := hp.led (t := b - 1) (by omega); omega⟩
      have hxy : x ≤ y := by have := led_mono l (show a ≤ b - 1 by omega); omega
      have hyn : y + 1 ≤ n := by have := led_le l (b - 1); omega
      have hcap := h.cap
      rw [show (ledF l a : Int) - 1 = (x : Int) from by rw [hx]; omega] at HFA
      rw [show (ledF l (b - 1) : Int) - 1 = (y : Int) from by rw [hy]; omega] at HFB
      have hcut := fun W => run_cut_lh A n c x (y + 1) .i64 .i64 (x : Int) ((y : Int) + 1) rfl (by omega) (by omega) (by omega) W
      have HP := Lib.hid (show R = (l.drop x).take (y + 1 - x) from by rw [hRp]; unfold partL; rw [hx, hy]; rfl)
      have HRL := Lib.hid (show R.length = y + 1 - x from by rw [hRp, hpl, hx, hy]; rfl)
      have HCT := Lib.hid fun W (hW : Below w.heap.size w W) => (h.below hW).cut x (y + 1 - x) (by omega)
      have hle : ¬ b < a := by omega
      have hbe : (a == b) = false := by rw [beq_eq_false_iff_ne]; exact heq
      have hw1 : IntKind.i64.wrap (b - 1) = b - 1 := IntWalk.i64_in _ (by omega)
      clear h hr hR hi hj hc hp hr0 hRp hpl hp1 hx hy hn
      go_enter Try.func52, Try.ntmps52
      go_wp2_with fail
      refine (HC.out _ (Below.refl _ _)).mono ?_
      rintro e w1 ⟨rfl, hb1⟩
      have HB1 := Lib.hid hb1
      clear hb1
      go_wp2_with fail
      refine (HIA.out _).mono ?_
      rintro e w2 ⟨rfl, rfl⟩
      go_wp2_with fail
      refine (HIB.out _).mono ?_
      rintro e w2 ⟨rfl, rfl⟩
      go_wp2_with fail
      refine (HFA.out _ HB1.out).mono ?_
      rintro e w3 ⟨rfl, hb3⟩
      have HB3 := Lib.hid (blw HB1.out hb3)
      clear hb3
      go_wp2_with fail
      refine (HFB.out _ HB3.out).mono ?_
      rintro e w4 ⟨rfl, hb4⟩
      have HB4 := Lib.hid (blw HB3.out hb4)
      clear hb4
      go_wp2_with fail
      go_ret2
      refine ⟨cutS A c x, c - x, by rw [HRL.out]; rfl, ?_, HB4.out⟩
      rw [HP.out]
      exact HCT.out _ HB4.out
end Go.Proofs.Ytapojmniokdjfaa.Stp

