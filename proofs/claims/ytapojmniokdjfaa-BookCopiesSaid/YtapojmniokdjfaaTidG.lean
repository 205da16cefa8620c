/- steps.Tidy of any steps: the last of each time. -/
import Derived.Test.YtapojmniokdjfaaTidSta
import Derived.Test.YtapojmniokdjfaaTidOf
namespace Go.Proofs.Ytapojmniokdjfaa.Stp
open Go.RowKit Go.Shelf Go.Proofs.Ytapojmniokdjfaa.Srt
set_option linter.unusedVariables false
set_option maxRecDepth 100000
/-- R is X, tidied, whatever lies below and apart -/
def TidyR (X R : List StepD) : Prop := ∀ lo d : Int, (∀ u ∈ X, lo < u.at_) → (∀ u ∈ X, u.fr ≠ d) → TidyOf lo d X R
set_option maxHeartbeats 3200000 in
theorem tidyF_any (l : List StepD) (b0 o0 n c : Nat) (hn : l.length = n) (hn0 : 0 < n) (hb : n ≤ 1000) (w : World) (h : Stp w (some ⟨b0, o0, none⟩) c l) :
    Calls Try.prog 40 #[.slice (some ⟨b0, o0, none⟩) n c] w fun e w' => ∃ R, R.length ≤ n ∧ TidyR l R ∧ RetP w.heap.size R w e w' := by
  have HC := Lib.hid (clone_any l b0 o0 n c hn (by omega) w h)
  have HSO := Lib.hid fun (g c1 : Nat) (W : World) (hs : RowS W g c1 l) => sortF_any g c1 n l hn (by omega) W hs
  have HNL := Lib.hid hn
  clear h
  go_enter Try.func40, Try.ntmps40
  go_wp2_with fail
  refine HC.out.mono ?_
  rintro e w1 ⟨A1, c1, rfl, ho1, hb1⟩
  obtain ⟨g, c2, eV, hgb, hr1⟩ := OwnS.row ho1 (by rw [hn]; exact hn0)
  injection eV with eA eN eC
  subst eA eC
  rw [hn]
  have HB1 := Lib.hid hb1; have HS1 := Lib.hid hr1; have HGB := Lib.hid hgb
  clear ho1 hb1 hr1 hn eN hgb
  go_wp2_with fail
  refine (HSO.out _ _ _ HS1.out).mono ?_
  rintro e w2 ⟨rfl, g2, Y, hY, mY, sY⟩
  have HB2 : Hid (Below w.heap.size w w2) := Lib.hid (HB1.out.trans ((Below.refl _ _).grown g2 HB1.out.size fun k hk => by injection hk with hk; subst hk; exact HGB.out))
  have hYn : Y.length = n := by rw [mY.len]; exact HNL.out
  have HS2 := Lib.hid hY; have HN := Lib.hid hYn
  obtain ⟨R, hR⟩ : ∃ R, tdF [] Y = R := ⟨_, rfl⟩
  have HF : Hid (TidyR l R) := Lib.hid fun lo d h1 h2 => by rw [← hR]; exact tdF_tidy hYn sY mY.fq h1 h2
  have HR := Lib.hid hR
  clear hY mY sY g2 hYn hR
  go_wp2
  go_loopw [4, 13] (fun vo vi wr => ∃ (k : Nat) (out : List StepD) (O : Option Addr) (co : Nat), k ≤ n ∧ out.length ≤ k ∧ vi = .int .i64 k ∧ vo = .slice O out.length co ∧ Hid (OwnS wr w2.heap.size (.slice O out.length co) out) ∧ Hid (Below w2.heap.size w2 wr) ∧ Hid (tdF out (Y.drop k) = R)) (fun _ vi _ => n - (intOf vi).toNat)
  case atStart => exact ⟨0, [], none, 0, Nat.zero_le _, Nat.le_refl _, rfl, rfl, Lib.hid (OwnS.nil _ _), Lib.hid (Below.refl _ _), HR⟩
  case round =>
    obtain ⟨k, out, O, co, hk, hok, rfl, rfl, HO, HX, HT⟩ := hrel
    by_cases hlt : k < n
    · obtain ⟨s, hs, c0, d0⟩ := (HS2.out.below HX.out).lt (k := k) (by rw [HN.out]; exact hlt)
      have hd : Y.drop k = s :: Y.drop (k + 1) := by
        rw [List.drop_eq_getElem_cons (by rw [HN.out]; exact hlt), (List.getElem?_eq_some_iff.1 hs).2]
      have ht := HT.out
      rw [hd] at ht
      have HXA : Hid (Below w2.heap.size w2 (wr.alloc (.cells #[.int .i64 s.at_, .int .i64 s.fr] 58))) := Lib.hid (blw HX.out (al _ _))
      have HOA := Lib.hid (HO.out.below (al wr (.cells #[.int .i64 s.at_, .int .i64 s.fr] 58)))
      obtain ⟨x3, x4⟩ := new2 wr (.int .i64 s.at_) (.int .i64 s.fr) 58
      have hln := put_len out s
      by_cases hlast : k + 1 = n
      · have ht2 : tdF (putD out s) (Y.drop (k + 1)) = R := by
          rw [← ht, show Y.drop (k + 1) = [] from List.drop_eq_nil_of_le (by rw [HN.out]; omega)]; rfl
        have HT2 := Lib.hid ht2
        have hkb : ((k : Int) + 1 == (n : Int)) = true := by rw [beq_iff_eq]; omega
        have hnk : (n : Int) = (k : Int) + 1 := by omega
        have HL := Lib.hid hlast
        clear hs hd ht ht2 hlast hnk HT
        go_wp2_with fail
        generalize wr.alloc (.cells #[.int .i64 s.at_, .int .i64 s.fr] 58) = W3 at HXA HOA x3 x4 ⊢
        generalize wr.heap.size = tb at x3 x4 ⊢
        go_quiet (fail)
        have y3 := kp (drN W3 nq) x3; have y4 := kp (drN W3 nq) x4
        have HXB := Lib.hid (blw HXA.out (drN W3 nq)); have HOB := Lib.hid (HOA.out.below (drN W3 nq))
        generalize W3.drewN nq = W4 at y3 y4 HXB HOB ⊢
        clear x3 x4 HXA HOA
        go_wp2_with fail
        refine (put_any out s w2.heap.size O out.length co W4 HOB.out HXB.out.size (by omega)).mono ?_
        rintro e w5 ⟨O3, co3, rfl, ho3, hb3⟩
        have HO3 := Lib.hid ho3; have HB3 := Lib.hid (HXB.out.trans hb3)
        clear ho3 hb3
        go_wp2
        go_roundw
        case rel => exact ⟨k + 1, putD out s, _, _, by omega, by omega, by go_num, rfl, HO3, HB3, HT2⟩
        case measure => simp [intOf]; omega
      · obtain ⟨u, hu, c2, d2⟩ := (HS2.out.below HX.out).lt (k := k + 1) (by rw [HN.out]; omega)
        have hd2 : Y.drop (k + 1) = u :: Y.drop (k + 1 + 1) := by
          rw [List.drop_eq_getElem_cons (by rw [HN.out]; omega), (List.getElem?_eq_some_iff.1 hu).2]
        have hkb : ((k : Int) + 1 == (n : Int)) = false := by rw [beq_eq_false_iff_ne]; omega
        have hk1 : k + 1 < n := by omega
        have c3 := kp (al wr (.cells #[.int .i64 s.at_, .int .i64 s.fr] 58)) c2
        rw [hd2] at ht
        by_cases hat : u.at_ = s.at_
        · have ht2 : tdF out (Y.drop (k + 1)) = R := by
            rw [hd2, ← ht]
            show _ = (if u.at_ = s.at_ then _ else _)
            rw [if_pos hat]
          have HT2 := Lib.hid ht2
          rw [hat] at c3
          have hab : (s.at_ != s.at_) = false := by simp
          clear hs hu hd hd2 ht ht2 HT hat c2
          go_wp2_with fail
          generalize wr.alloc (.cells #[.int .i64 s.at_, .int .i64 s.fr] 58) = W3 at HXA HOA x3 x4 c3 ⊢
          generalize wr.heap.size = tb at x3 x4 ⊢
          go_quiet (fail)
          go_wp2
          go_roundw
          case rel => exact ⟨k + 1, out, O, co, by omega, by omega, by go_num, rfl, Lib.hid (HOA.out.below (drN _ _)), Lib.hid (blw HXA.out (drN _ _)), HT2⟩
          case measure => simp [intOf]; omega
        · have ht2 : tdF (putD out s) (Y.drop (k + 1)) = R := by
            rw [hd2, ← ht]
            show _ = (if u.at_ = s.at_ then _ else _)
            rw [if_neg hat]
          have HT2 := Lib.hid ht2
          have hab : (u.at_ != s.at_) = true := by rw [bne_iff_ne]; exact hat
          clear hs hu hd hd2 ht ht2 HT hat c2
          go_wp2_with fail
          generalize wr.alloc (.cells #[.int .i64 s.at_, .int .i64 s.fr] 58) = W3 at HXA HOA x3 x4 c3 ⊢
          generalize wr.heap.size = tb at x3 x4 ⊢
          go_quiet (fail)
          have y3 := kp (drN W3 nq) x3; have y4 := kp (drN W3 nq) x4
          have HXB := Lib.hid (blw HXA.out (drN W3 nq)); have HOB := Lib.hid (HOA.out.below (drN W3 nq))
          generalize W3.drewN nq = W4 at y3 y4 HXB HOB ⊢
          clear x3 x4 HXA HOA
          go_wp2_with fail
          refine (put_any out s w2.heap.size O out.length co W4 HOB.out HXB.out.size (by omega)).mono ?_
          rintro e w5 ⟨O3, co3, rfl, ho3, hb3⟩
          have HO3 := Lib.hid ho3; have HB3 := Lib.hid (HXB.out.trans hb3)
          clear ho3 hb3
          go_wp2
          go_roundw
          case rel => exact ⟨k + 1, putD out s, _, _, by omega, by omega, by go_num, rfl, HO3, HB3, HT2⟩
          case measure => simp [intOf]; omega
    · obtain rfl : k = n := by omega
      have hr : out = R := by
        have := HT.out
        rw [show Y.drop k = [] from List.drop_eq_nil_of_le (by rw [HN.out]; exact Nat.le_refl _)] at this
        exact this
      subst hr
      go_wp2
      go_ret
      exact ⟨out, by omega, HF.out, O, co, rfl, HO.out.rebase HB2.out.size, blw HB2.out HX.out⟩
end Go.Proofs.Ytapojmniokdjfaa.Stp

