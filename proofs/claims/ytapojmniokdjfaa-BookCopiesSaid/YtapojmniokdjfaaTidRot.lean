/- slices' swapRange and rotate, of steps. -/
import Derived.Test.YtapojmniokdjfaaTidMem
import Derived.Test.YtapojmniokdjfaaFitReg
namespace Go.Proofs.Ytapojmniokdjfaa.Stp
open Go.RowKit Go.Shelf Go.Proofs.Ytapojmniokdjfaa.Srt Go.Proofs.Ytapojmniokdjfaa.Ft
set_option linter.unusedVariables false
set_option maxRecDepth 100000
theorem wpAnyR_weak {P : Program} {ops : Array Oper} {Q : Exit → Act → World → Prop} {md : Region.Mode} {S : World → Prop} {n m : Nat} : ∀ (fuel : Nat) (listed : Array Bool) (a : Act) (w : World), wpAnyR P md ops Q S n fuel listed a w → wpAnyR P md ops Q (fun _ => True) m fuel listed a w
  | 0, _, _, _, h => h
  | fuel + 1, _, _, _, h => ⟨h.1, fun i hi => wpOp_mono (fun a' w' h' => ⟨Or.inr trivial, wpAnyR_weak fuel _ a' w' h'.2⟩) (h.2 i hi)⟩
set_option maxHeartbeats 1600000 in
theorem swap_any (g c n a b k : Nat) (X : List StepD) (hn : X.length = n) (hb : n ≤ 1000) (ha : a + k ≤ n) (hbk : b + k ≤ n) (hd : a + k ≤ b ∨ b + k ≤ a) (w : World) (h : RowS w g c X) (cmp : Value) :
    Calls Try.prog 104 #[.slice (some ⟨g, 0, none⟩) n c, .int .i64 a, .int .i64 b, .int .i64 k, cmp] w fun e w' => e = .returned (.tuple #[]) ∧ w.grownBy w' (some g) ∧ ∃ Y, RowS w' g c Y ∧ Via (swI a b k) X Y := by
  have H := Lib.hid h; have HN := Lib.hid hn
  clear h hn
  go_enter Try.func104, Try.ntmps104
  go_wp2_with fail
  go_loopw [10] (fun vi wr => ∃ (i : Nat) (Z : List StepD), i ≤ k ∧ vi = .int .i64 i ∧ Hid (RowS wr g c Z) ∧ Hid (w.grownBy wr (some g)) ∧ Hid (Via (swI a b i) X Z)) (fun vi _ => k - (intOf vi).toNat)
  case atStart =>
    refine ⟨0, X, Nat.zero_le _, rfl, H, Lib.hid (grown_refl _ _), Lib.hid ((Via.refl X).congr fun q hq => ?_)⟩
    unfold swI
    rw [if_neg (by omega), if_neg (by omega)]
  case round =>
    obtain ⟨i, Z, hi, rfl, HZ, HW, HV⟩ := hrel
    by_cases hlt : i < k
    · have hZl := HV.out.1
      obtain ⟨s, hs, c0, c1⟩ := HZ.out.lt (k := a + i) (by rw [hZl, HN.out]; omega)
      obtain ⟨u, hu, d0, d1⟩ := HZ.out.lt (k := b + i) (by rw [hZl, HN.out]; omega)
      have HV2 : Hid (∀ Y, Via (swI (a + i) (b + i) 1) Z Y → Via (swI a b (i + 1)) X Y) := fun Y hY => (HV.out.trans hY (fun q hq => sw_lt (by rw [HN.out]; omega) (by rw [HN.out]; omega) hq)).congr fun q hq => sw_next (by omega)
      have HU := Lib.hid (set_via hs hu)
      have HL1 : Hid (a + i < Z.length) := by show _ < _; rw [hZl, HN.out]; omega
      have HL2 : Hid (∀ v, b + i < (Z.set (a + i) v).length) := fun v => by rw [List.length_set, hZl, HN.out]; omega
      have a1 : IntKind.i64.wrap ((a : Int) + (i : Int)) = ((a + i : Nat) : Int) := by rw [IntWalk.i64_in _ (by omega)]; omega
      have a2 : IntKind.i64.wrap ((b : Int) + (i : Int)) = ((b + i : Nat) : Int) := by rw [IntWalk.i64_in _ (by omega)]; omega
      have q1 : a + i < n := by omega
      have q2 : b + i < n := by omega
      clear hs hu hZl
      generalize hp : a + i = p at *
      generalize hr : b + i = r at *
      have HP := Lib.hid hp; have HR := Lib.hid hr
      clear hp hr
      go_wp2_with fail
      have s0 : wr.drew.cell? ⟨g, p * 2, none⟩ = some (.int .i64 s.at_) ∧ wr.drew.cell? ⟨g, p * 2 + 1, none⟩ = some (.int .i64 s.fr) ∧ wr.drew.cell? ⟨g, r * 2, none⟩ = some (.int .i64 u.at_) ∧ wr.drew.cell? ⟨g, r * 2 + 1, none⟩ = some (.int .i64 u.fr) := ⟨c0, c1, d0, d1⟩
      clear c0 c1 d0 d1
      have HZD := Lib.hid (HZ.out.below (dr wr))
      have HWD := Lib.hid (grown_trans HW.out (Below.grow (dr wr) (some g)))
      refine wp_region_R (fun _ => True) 24 (by kernel_rfl) ?_
      generalize wr.drew = W0 at s0 HZD HWD ⊢
      refine wpAnyR_leadI (by kernel_rfl) ?hQ trivial [0, 1, 2, 3, 4, 5, 6, 7, 8, 9, 10, 11, 12, 14, 15, 16, 17, 18] 6 _ _ (by kernel_rfl) ?_
      case hQ => intro c a d v w h; cases d <;> exact h
      iterate 18 (refine wpLeadI_read (v := ?_) _ rfl rfl (by rfl) ?_ ?_; rotate_left; (intro W hW; (try dsimp only at hW); go_simp; (try simp only [a1, a2]); (try go_simp); (try with_reducible rfl)); try simp only [Act.put, List.setIfInBounds_toArray, List.set_cons_succ, List.set_cons_zero])
      simp only [wpLeadI]
      refine wpAnyR_weak (S := fun W => W = W0) (n := 20) _ _ _ _ ?_
      refine wpAnyR_leadI (S := fun W => W = W0) (by kernel_rfl) ?hQ2 (w := W0) rfl [13, 19] 4 _ _ (by kernel_rfl) ?_
      case hQ2 => intro c a d v w h; cases d <;> exact h
      iterate 2 (refine wpLeadI_read (v := ?_) _ rfl rfl (by rfl) ?_ ?_; rotate_left; (intro W hW; (try dsimp only at hW); rw [hW]; go_simp; (try with_reducible rfl)); try simp only [Act.put, List.setIfInBounds_toArray, List.set_cons_succ, List.set_cons_zero])
      simp only [wpLeadI]
      refine wpAnyR_tail (n := 20) rfl (by kernel_rfl) ?_
      go_wp2_with (first
        | (refine wpList_put rfl _ _ rfl g c _ r s (r * 2) (by simp [Act.eval]) rfl (by simp [Act.eval]) H1.out (HL2.out u) ?_; intro W2 h2 g2; have H2 := Lib.hid h2; have G2 := Lib.hid (grown_trans G1.out g2); clear h2 g2)
        | (refine wpList_put rfl _ _ rfl g c Z p u (p * 2) (by simp [Act.eval]) rfl (by simp [Act.eval]) HZD.out HL1.out ?_; intro W1 h1 g1; have H1 := Lib.hid h1; have G1 := Lib.hid (grown_trans HWD.out g1); clear h1 g1))
      go_roundw
      case rel => exact ⟨i + 1, _, by omega, by go_num, H2, G2, Lib.hid (HV2.out _ HU.out)⟩
      case measure => simp [intOf]; omega
    · obtain rfl : i = k := by omega
      go_wp2
      go_end0
      exact ⟨rfl, HW.out, Z, HZ.out, HV.out⟩
set_option maxHeartbeats 1600000 in
theorem rot_any (g c n a m b : Nat) (X : List StepD) (hn : X.length = n) (hb : n ≤ 1000) (ham : a < m) (hmb : m < b) (hbn : b ≤ n) (w : World) (h : RowS w g c X) (cmp : Value) :
    Calls Try.prog 100 #[.slice (some ⟨g, 0, none⟩) n c, .int .i64 a, .int .i64 m, .int .i64 b, cmp] w fun e w' => e = .returned (.tuple #[]) ∧ w.grownBy w' (some g) ∧ ∃ Y, RowS w' g c Y ∧ Via (rotI a m b) X Y := by
  have H := Lib.hid h; have HN := Lib.hid hn
  have e1 : IntKind.i64.wrap ((m : Int) - (a : Int)) = ((m - a : Nat) : Int) := by rw [IntWalk.i64_in _ (by omega)]; omega
  have e2 : IntKind.i64.wrap ((b : Int) - (m : Int)) = ((b - m : Nat) : Int) := by rw [IntWalk.i64_in _ (by omega)]; omega
  obtain ⟨p0, hp0⟩ : ∃ p, m - a = p := ⟨_, rfl⟩
  obtain ⟨q0, hq0⟩ : ∃ p, b - m = p := ⟨_, rfl⟩
  rw [hp0] at e1
  rw [hq0] at e2
  have HP := Lib.hid hp0; have HQ := Lib.hid hq0
  have HS := Lib.hid fun (a b k : Nat) (Z : List StepD) (hl : Z.length = n) (ha : a + k ≤ n) (hbk : b + k ≤ n) (hd : a + k ≤ b ∨ b + k ≤ a) (W : World) (hz : RowS W g c Z) => swap_any g c n a b k Z hl hb ha hbk hd W hz cmp
  clear h hn hp0 hq0
  go_enter Try.func100, Try.ntmps100
  go_wp2_with fail
  go_loopw [10, 11] (fun vi vj wr => ∃ (i j : Nat) (Z : List StepD), 0 < i ∧ 0 < j ∧ Hid (i ≤ m - a ∧ j ≤ b - m) ∧ vi = .int .i64 i ∧ vj = .int .i64 j ∧ Hid (RowS wr g c Z) ∧ Hid (w.grownBy wr (some g)) ∧ Hid (Z.length = n ∧ ∀ Y, Via (rotI (m - i) m (m + j)) Z Y → Via (rotI a m b) X Y)) (fun vi vj _ => (intOf vi).toNat + (intOf vj).toNat)
  case atStart =>
    have f1 := HP.out; have f2 := HQ.out
    refine ⟨p0, q0, X, by omega, by omega, Lib.hid ⟨by omega, by omega⟩, rfl, rfl, H, Lib.hid (grown_refl _ _), Lib.hid ⟨HN.out, fun Y hY => ?_⟩⟩
    rw [show m - p0 = a from by omega, show m + q0 = b from by omega] at hY
    exact hY
  case round =>
    obtain ⟨i, j, Z, hi0, hj0, HB, rfl, rfl, HZ, HW, HV⟩ := hrel
    have hB := HB.out
    have a1 : IntKind.i64.wrap ((m : Int) - (i : Int)) = ((m - i : Nat) : Int) := by rw [IntWalk.i64_in _ (by omega)]; omega
    by_cases hij : i = j
    · subst hij
      have ht : ((i : Int) != (i : Int)) = false := by simp
      obtain ⟨mi, hmi⟩ : ∃ q, m - i = q := ⟨_, rfl⟩
      rw [hmi] at a1
      have HC := Lib.hid (HS.out mi m i Z HV.out.1 (by omega) (by omega) (by omega))
      have HMI := Lib.hid hmi
      clear hmi hB
      go_wp2_with fail
      refine (HC.out _ HZ.out).mono ?_
      rintro e w1 ⟨rfl, g1, Y, hY, vY⟩
      go_wp2
      go_end0
      refine ⟨rfl, grown_trans HW.out g1, Y, hY, HV.out.2 Y ?_⟩
      rw [HMI.out]
      exact vY.congr fun q hq => by rw [← HMI.out]; exact rot_last (by have := HB.out; omega)
    · have ht : ((i : Int) != (j : Int)) = true := by rw [bne_iff_ne]; omega
      by_cases hlt : j < i
      · have hgt : (j : Int) < (i : Int) := by omega
        have a3 : IntKind.i64.wrap ((i : Int) - (j : Int)) = ((i - j : Nat) : Int) := by rw [IntWalk.i64_in _ (by omega)]; omega
        obtain ⟨ij, hijq⟩ : ∃ q, i - j = q := ⟨_, rfl⟩
        rw [hijq] at a3
        have HIJ := Lib.hid hijq
        clear hijq
        obtain ⟨mi, hmi⟩ : ∃ q, m - i = q := ⟨_, rfl⟩
        rw [hmi] at a1
        have HC := Lib.hid (HS.out mi m j Z HV.out.1 (by omega) (by omega) (by omega))
        have HMI := Lib.hid hmi
        clear hmi hB
        go_wp2_with fail
        refine (HC.out _ HZ.out).mono ?_
        rintro e w1 ⟨rfl, g1, Y, hY, vY⟩
        have HY := Lib.hid hY; have VY := Lib.hid vY; have G1 := Lib.hid (grown_trans HW.out g1)
        clear hY vY g1
        go_wp2
        go_roundw
        case rel =>
          have hB := HB.out; have hmi := HMI.out; have hZn := HV.out.1
          have hijq := HIJ.out; clear HIJ
          subst hijq
          refine ⟨i - j, j, Y, by omega, by omega, Lib.hid ⟨by omega, by omega⟩, rfl, rfl, HY, G1, Lib.hid ⟨by rw [VY.out.1]; exact hZn, fun U hU => HV.out.2 U ((VY.out.trans hU fun q hq => rot_lt (by omega) (by omega) (show m + j ≤ Z.length by omega) hq).congr fun q hq => ?_)⟩⟩
          rw [← hmi]
          exact rot_low (a := 0) hlt (by omega)
        case measure => have hijq := HIJ.out; simp [intOf]; omega
      · have hgt : ¬ (j : Int) < (i : Int) := by omega
        obtain ⟨mi, hmi⟩ : ∃ q, m - i = q := ⟨_, rfl⟩
        rw [hmi] at a1
        have a4 : IntKind.i64.wrap ((m : Int) + (j : Int)) = ((m + j : Nat) : Int) := by rw [IntWalk.i64_in _ (by omega)]; omega
        have a2 : IntKind.i64.wrap (((m + j : Nat) : Int) - (i : Int)) = ((m + j - i : Nat) : Int) := by rw [IntWalk.i64_in _ (by omega)]; omega
        have a3 : IntKind.i64.wrap ((j : Int) - (i : Int)) = ((j - i : Nat) : Int) := by rw [IntWalk.i64_in _ (by omega)]; omega
        obtain ⟨ji, hjiq⟩ : ∃ q, j - i = q := ⟨_, rfl⟩
        rw [hjiq] at a3
        have HJI := Lib.hid hjiq
        clear hjiq
        obtain ⟨mj, hmj⟩ : ∃ q, m + j - i = q := ⟨_, rfl⟩
        rw [hmj] at a2
        obtain ⟨t, ht4⟩ : ∃ q, m + j = q := ⟨_, rfl⟩
        rw [ht4] at a2 a4
        clear ht4
        have HC := Lib.hid (HS.out mi mj i Z HV.out.1 (by omega) (by omega) (by omega))
        have HMI := Lib.hid hmi; have HMJ := Lib.hid hmj
        clear hmi hmj hB
        go_wp2_with fail
        refine (HC.out _ HZ.out).mono ?_
        rintro e w1 ⟨rfl, g1, Y, hY, vY⟩
        have HY := Lib.hid hY; have VY := Lib.hid vY; have G1 := Lib.hid (grown_trans HW.out g1)
        clear hY vY g1
        go_wp2
        go_roundw
        case rel =>
          have hB := HB.out; have hmi := HMI.out; have hmj := HMJ.out; have hZn := HV.out.1
          have hjiq := HJI.out; clear HJI
          subst hjiq
          refine ⟨i, j - i, Y, by omega, by omega, Lib.hid ⟨by omega, by omega⟩, rfl, rfl, HY, G1, Lib.hid ⟨by rw [VY.out.1]; exact hZn, fun U hU => HV.out.2 U ((VY.out.trans hU fun q hq => rot_lt (by omega) (by omega) (show m + (j - i) ≤ Z.length by omega) hq).congr fun q hq => ?_)⟩⟩
          rw [← hmi, ← hmj]
          exact rot_high (by omega) (by omega)
        case measure => have hjiq := HJI.out; simp [intOf]; omega
end Go.Proofs.Ytapojmniokdjfaa.Stp

