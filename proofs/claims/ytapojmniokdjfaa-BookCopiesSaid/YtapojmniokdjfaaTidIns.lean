/- slices' insertion sort of steps, in full. -/
import Derived.Test.YtapojmniokdjfaaTidRot
namespace Go.Proofs.Ytapojmniokdjfaa.Srt
set_option linter.unusedVariables false
/-- in order but for the one at j, which is ahead of none behind it -/
structure SrtBut (X : List StepD) (a i j : Nat) : Prop where
  but : ∀ p q, a ≤ p → p < q → q ≤ i → p ≠ j → q ≠ j → atK X p ≤ atK X q
  up : ∀ q, j < q → q ≤ i → atK X j ≤ atK X q
theorem SrtOn.but {X : List StepD} {a i : Nat} (h : SrtOn X a i) : SrtBut X a i i :=
  ⟨fun p q h1 h2 h3 _ h5 => h p q h1 h2 (by omega), fun q h1 h2 => by omega⟩
theorem SrtBut.stop {X : List StepD} {a i j : Nat} (h : SrtBut X a i j) (hs : j = a ∨ (a < j ∧ atK X (j - 1) ≤ atK X j)) : SrtOn X a (i + 1) := by
  intro p q h1 h2 h3
  by_cases e1 : p = j
  · subst e1; exact h.up q h2 (by omega)
  · by_cases e2 : q = j
    · subst e2
      rcases hs with e | ⟨hs1, hs⟩
      · omega
      · by_cases e3 : p = q - 1
        · rw [e3]; exact hs
        · exact Int.le_trans (h.but p (q - 1) h1 (by omega) (by omega) e1 (by omega)) hs
    · exact h.but p q h1 h2 (by omega) e1 e2
theorem SrtBut.step {X Y : List StepD} {a i q : Nat} (h : SrtBut X a i (q + 1)) (hq : a ≤ q) (hi : q + 1 ≤ i) (hX : i < X.length) (hY : Via (swI (q + 1) q 1) X Y) (hk : atK X (q + 1) < atK X q) : SrtBut Y a i q := by
  have k0 : ∀ k, k < X.length → k ≠ q → k ≠ q + 1 → atK Y k = atK X k := fun k h1 h2 h3 => by
    rw [hY.key h1]; unfold swI; rw [if_neg (by omega), if_neg (by omega)]
  have k1 : atK Y q = atK X (q + 1) := by
    rw [hY.key (by omega)]; unfold swI; rw [if_neg (by omega), if_pos (by omega)]; congr 1; omega
  have k2 : atK Y (q + 1) = atK X q := by
    rw [hY.key (by omega)]; unfold swI; rw [if_pos (by omega)]; congr 1; omega
  refine ⟨fun p r h1 h2 h3 h4 h5 => ?_, fun r h1 h2 => ?_⟩
  · by_cases e1 : p = q + 1
    · subst e1
      rw [k2, k0 r (by omega) (by omega) (by omega)]
      exact h.but q r hq (by omega) h3 (by omega) (by omega)
    · by_cases e2 : r = q + 1
      · subst e2
        rw [k2, k0 p (by omega) h4 e1]
        exact h.but p q h1 (by omega) (by omega) e1 (by omega)
      · rw [k0 p (by omega) h4 e1, k0 r (by omega) h5 e2]
        exact h.but p r h1 h2 h3 e1 e2
  · rw [k1]
    by_cases e2 : r = q + 1
    · rw [e2, k2]; omega
    · rw [k0 r (by omega) (by omega) e2]
      exact h.up r (by omega) h2
theorem Mix.step {X Y : List StepD} {a b q : Nat} (hq : a ≤ q) (hb : q + 2 ≤ b) (hX : b ≤ X.length) (hY : Via (swI (q + 1) q 1) X Y) (hk : atK X (q + 1) < atK X q) : Mix a b X Y :=
  (rot_mix (hY.congr fun k _ => sw_rot) (by omega) (by omega) (by omega) fun i j h1 h2 h3 h4 => by
    obtain rfl : i = q := by omega
    obtain rfl : j = i + 1 := by omega
    exact hk).wide hq hb
theorem Mix.srtOut {X Y : List StepD} {a b c d : Nat} (h : Mix a b X Y) (hs : SrtOn X c d) (hd : d ≤ a ∨ b ≤ c) : SrtOn Y c d := fun p q h1 h2 h3 => by
  rw [h.keyO (by omega), h.keyO (by omega)]; exact hs p q h1 h2 h3
end Go.Proofs.Ytapojmniokdjfaa.Srt
namespace Go.Proofs.Ytapojmniokdjfaa.Stp
open Go.RowKit Go.Shelf Go.Proofs.Ytapojmniokdjfaa.Srt Go.Proofs.Ytapojmniokdjfaa.Ft
set_option linter.unusedVariables false
set_option maxRecDepth 100000
theorem cmpV_neg {x y : Int} : cmpV x y < 0 ↔ x < y := by
  unfold cmpV
  by_cases h : x < y
  · rw [if_pos h]; omega
  · rw [if_neg h]
    by_cases h2 : y < x
    · rw [if_pos h2]; omega
    · rw [if_neg h2]; omega
set_option maxHeartbeats 3200000 in
theorem insF_any (g c n a b : Nat) (X : List StepD) (hn : X.length = n) (hb : n ≤ 1000) (hab : a ≤ b) (hbn : b ≤ n) (w : World) (h : RowS w g c X) :
    Calls Try.prog 90 #[.slice (some ⟨g, 0, none⟩) n c, .int .i64 a, .int .i64 b, .func (.func 57) #[] #[]] w fun e w' => e = .returned (.tuple #[]) ∧ w.grownBy w' (some g) ∧ ∃ Y, RowS w' g c Y ∧ Mix a b X Y ∧ SrtOn Y a b := by
  have H := Lib.hid h; have HN := Lib.hid hn
  have e1 : IntKind.i64.wrap ((a : Int) + 1) = ((a + 1 : Nat) : Int) := by rw [IntWalk.i64_in _ (by omega)]; omega
  clear h hn
  go_enter Try.func90, Try.ntmps90
  go_wp2_with fail
  go_loopw [8] (fun vi wr => ∃ (i : Nat) (Z : List StepD), a < i ∧ i ≤ b + 1 ∧ vi = .int .i64 i ∧ Hid (RowS wr g c Z) ∧ Hid (w.grownBy wr (some g)) ∧ Hid (Z.length = n ∧ Mix a b X Z ∧ SrtOn Z a i)) (fun vi _ => b + 1 - (intOf vi).toNat)
  case atStart => exact ⟨a + 1, X, by omega, by omega, rfl, H, Lib.hid (grown_refl _ _), Lib.hid ⟨HN.out, Mix.refl _ _ _, fun p q h1 h2 h3 => by omega⟩⟩
  case round =>
    obtain ⟨i, Z, hi1, hi2, rfl, HZ, HW, HV⟩ := hrel
    by_cases hlt : i < b
    · go_wp2
      go_loopw [9] (fun vj wr => ∃ (j : Nat) (Z : List StepD), a ≤ j ∧ j ≤ i ∧ vj = .int .i64 j ∧ Hid (RowS wr g c Z) ∧ Hid (w.grownBy wr (some g)) ∧ Hid (Z.length = n ∧ Mix a b X Z ∧ SrtBut Z a i j)) (fun vj _ => (intOf vj).toNat)
      case atStart => exact ⟨i, Z, by omega, by omega, rfl, HZ, HW, Lib.hid ⟨HV.out.1, HV.out.2.1, HV.out.2.2.but⟩⟩
      case round =>
        clear HZ HW HV Z
        obtain ⟨j, Z, hj1, hj2, rfl, HZ, HW, HV⟩ := hrel
        by_cases hja : a < j
        · obtain ⟨q, hq⟩ : ∃ q, j = q + 1 := ⟨j - 1, by omega⟩
          have hZl := HV.out.1
          obtain ⟨s, hs, c0, c1⟩ := HZ.out.lt (k := j) (by rw [hZl]; omega)
          obtain ⟨u, hu, d0, d1⟩ := HZ.out.lt (k := q) (by rw [hZl]; omega)
          obtain ⟨v, hv⟩ : ∃ v, cmpV s.at_ u.at_ = v := ⟨_, rfl⟩
          have HC := Lib.hid fun (W : World) => tcmp_any s u W
          rw [hv] at HC
          have hqn : q < n := by omega
          have hjn : j < n := by omega
          have hwq : IntKind.i64.wrap ((j : Int) - 1) = (q : Int) := by rw [IntWalk.i64_in _ (by omega)]; omega
          have HU := Lib.hid (set_via hs hu)
          have HL1 : Hid (j < Z.length) := by show _ < _; rw [hZl]; omega
          have HL2 : Hid (∀ v, q < (Z.set j v).length) := fun v => by rw [List.length_set, hZl]; omega
          have hkj := atK_of hs; have hkq := atK_of hu
          have HQ := Lib.hid hq
          by_cases hlv : v < 0
          · have HB2 : Hid (∀ Y, Via (swI j q 1) Z Y → Y.length = n ∧ Mix a b X Y ∧ SrtBut Y a i q) := fun Y hY => by
              have hk : atK Z (q + 1) < atK Z q := by rw [← hq, hkj, hkq]; exact cmpV_neg.1 (by rw [hv]; exact hlv)
              rw [hq] at hY
              have hbut := HV.out.2.2
              rw [hq] at hbut
              exact ⟨by rw [hY.1]; exact hZl, HV.out.2.1.trans (Mix.step (by omega) (by omega) (by omega) hY hk), hbut.step (by omega) (by omega) (by omega) hY hk⟩
            clear hs hu hv hkj hkq hq hZl
            go_wp2_with fail
            have s0 : wr.drew.cell? ⟨g, j * 2, none⟩ = some (.int .i64 s.at_) ∧ wr.drew.cell? ⟨g, j * 2 + 1, none⟩ = some (.int .i64 s.fr) ∧ wr.drew.cell? ⟨g, q * 2, none⟩ = some (.int .i64 u.at_) ∧ wr.drew.cell? ⟨g, q * 2 + 1, none⟩ = some (.int .i64 u.fr) := ⟨kp (dr wr) c0, kp (dr wr) c1, kp (dr wr) d0, kp (dr wr) d1⟩
            have HX0 := Lib.hid (HZ.out.below (dr wr)); have HY0 := Lib.hid (grown_trans HW.out (Below.grow (dr wr) (some g)))
            go_region_held3 (fun (W : World) => W.cell? ⟨g, j * 2, none⟩ = some (.int .i64 s.at_) ∧ W.cell? ⟨g, j * 2 + 1, none⟩ = some (.int .i64 s.fr) ∧ W.cell? ⟨g, q * 2, none⟩ = some (.int .i64 u.at_) ∧ W.cell? ⟨g, q * 2 + 1, none⟩ = some (.int .i64 u.fr)) (first | exact s1 | exact s0) (first
              | (go_at_call 57; refine (HC.out _).mono ?_; rintro e x1 ⟨rfl, hb1⟩; have s1 : x1.cell? ⟨g, j * 2, none⟩ = some (.int .i64 s.at_) ∧ x1.cell? ⟨g, j * 2 + 1, none⟩ = some (.int .i64 s.fr) ∧ x1.cell? ⟨g, q * 2, none⟩ = some (.int .i64 u.at_) ∧ x1.cell? ⟨g, q * 2 + 1, none⟩ = some (.int .i64 u.fr) := ⟨kp hb1 s0.1, kp hb1 s0.2.1, kp hb1 s0.2.2.1, kp hb1 s0.2.2.2⟩; have HX1 : Hid (RowS x1 g c Z) := Lib.hid (HX0.out.below hb1); have HY1 : Hid (w.grownBy x1 (some g)) := Lib.hid (grown_trans HY0.out (Below.grow hb1 (some g))); clear hb1))
            go_wp2_with fail
            obtain ⟨c0, c1, d0, d1⟩ := s1
            have s0 : x1.drew.cell? ⟨g, j * 2, none⟩ = some (.int .i64 s.at_) ∧ x1.drew.cell? ⟨g, j * 2 + 1, none⟩ = some (.int .i64 s.fr) ∧ x1.drew.cell? ⟨g, q * 2, none⟩ = some (.int .i64 u.at_) ∧ x1.drew.cell? ⟨g, q * 2 + 1, none⟩ = some (.int .i64 u.fr) := ⟨c0, c1, d0, d1⟩
            clear c0 c1 d0 d1
            have HZD := Lib.hid (HX1.out.below (dr x1))
            have HWD := Lib.hid (grown_trans HY1.out (Below.grow (dr x1) (some g)))
            refine wp_region_R (fun _ => True) 18 (by kernel_rfl) ?_
            generalize x1.drew = W0 at s0 HZD HWD ⊢
            refine wpAnyR_leadI (by kernel_rfl) ?hQ trivial [0, 1, 2, 3, 4, 5, 6, 7, 8, 10, 11, 12] 6 _ _ (by kernel_rfl) ?_
            case hQ => intro c a d v w h; cases d <;> exact h
            iterate 12 (refine wpLeadI_read (v := ?_) _ rfl rfl (by rfl) ?_ ?_; rotate_left; (intro W hW; (try dsimp only at hW); go_simp; (try simp only [hwq]); (try go_simp); (try with_reducible rfl)); try simp only [Act.put, List.setIfInBounds_toArray, List.set_cons_succ, List.set_cons_zero])
            simp only [wpLeadI]
            refine wpAnyR_weak (S := fun W => W = W0) (n := 14) _ _ _ _ ?_
            refine wpAnyR_leadI (S := fun W => W = W0) (by kernel_rfl) ?hQ2 (w := W0) rfl [9, 13] 4 _ _ (by kernel_rfl) ?_
            case hQ2 => intro c a d v w h; cases d <;> exact h
            iterate 2 (refine wpLeadI_read (v := ?_) _ rfl rfl (by rfl) ?_ ?_; rotate_left; (intro W hW; (try dsimp only at hW); rw [hW]; go_simp; (try simp only [hwq]); (try go_simp); (try with_reducible rfl)); try simp only [Act.put, List.setIfInBounds_toArray, List.set_cons_succ, List.set_cons_zero])
            simp only [wpLeadI]
            refine wpAnyR_tail (n := 14) rfl (by kernel_rfl) ?_
            go_wp2_with (first
              | (refine wpList_put rfl _ _ rfl g c _ q s (q * 2) (by simp [Act.eval]) rfl (by simp [Act.eval]) H1.out (HL2.out u) ?_; intro W2 h2 g2; have H2 := Lib.hid h2; have G2 := Lib.hid (grown_trans G1.out g2); clear h2 g2)
              | (refine wpList_put rfl _ _ rfl g c Z j u (j * 2) (by simp [Act.eval]) rfl (by simp [Act.eval]) HZD.out HL1.out ?_; intro W1 h1 g1; have H1 := Lib.hid h1; have G1 := Lib.hid (grown_trans HWD.out g1); clear h1 g1))
            go_roundw
            case rel => have hq := HQ.out; exact ⟨q, _, by omega, by omega, by go_num, H2, G2, Lib.hid (HB2.out _ HU.out)⟩
            case measure => have hq := HQ.out; simp [intOf]; omega
          · have HB2 : Hid (SrtOn Z a (i + 1)) := by
              refine HV.out.2.2.stop (Or.inr ⟨hja, ?_⟩)
              rw [show j - 1 = q from by omega, hkj, hkq]
              have hns : ¬ s.at_ < u.at_ := fun h => hlv (by rw [← hv]; exact cmpV_neg.2 h)
              omega
            clear hs hu hv hkj hkq hq hZl
            go_wp2_with fail
            have s0 : wr.drew.cell? ⟨g, j * 2, none⟩ = some (.int .i64 s.at_) ∧ wr.drew.cell? ⟨g, j * 2 + 1, none⟩ = some (.int .i64 s.fr) ∧ wr.drew.cell? ⟨g, q * 2, none⟩ = some (.int .i64 u.at_) ∧ wr.drew.cell? ⟨g, q * 2 + 1, none⟩ = some (.int .i64 u.fr) := ⟨kp (dr wr) c0, kp (dr wr) c1, kp (dr wr) d0, kp (dr wr) d1⟩
            have HX0 := Lib.hid (HZ.out.below (dr wr)); have HY0 := Lib.hid (grown_trans HW.out (Below.grow (dr wr) (some g)))
            go_region_held3 (fun (W : World) => W.cell? ⟨g, j * 2, none⟩ = some (.int .i64 s.at_) ∧ W.cell? ⟨g, j * 2 + 1, none⟩ = some (.int .i64 s.fr) ∧ W.cell? ⟨g, q * 2, none⟩ = some (.int .i64 u.at_) ∧ W.cell? ⟨g, q * 2 + 1, none⟩ = some (.int .i64 u.fr)) (first | exact s1 | exact s0) (first
              | (go_at_call 57; refine (HC.out _).mono ?_; rintro e x1 ⟨rfl, hb1⟩; have s1 : x1.cell? ⟨g, j * 2, none⟩ = some (.int .i64 s.at_) ∧ x1.cell? ⟨g, j * 2 + 1, none⟩ = some (.int .i64 s.fr) ∧ x1.cell? ⟨g, q * 2, none⟩ = some (.int .i64 u.at_) ∧ x1.cell? ⟨g, q * 2 + 1, none⟩ = some (.int .i64 u.fr) := ⟨kp hb1 s0.1, kp hb1 s0.2.1, kp hb1 s0.2.2.1, kp hb1 s0.2.2.2⟩; have HX1 : Hid (RowS x1 g c Z) := Lib.hid (HX0.out.below hb1); have HY1 : Hid (w.grownBy x1 (some g)) := Lib.hid (grown_trans HY0.out (Below.grow hb1 (some g))); clear hb1))
            go_wp2
            go_roundw
            case rel => exact ⟨i + 1, Z, by omega, by omega, by go_num, Lib.hid HX1.out, Lib.hid HY1.out, Lib.hid ⟨HV.out.1, HV.out.2.1, HB2.out⟩⟩
            case measure => simp [intOf]; omega
        · have hje : j = a := by omega
          have HB2 : Hid (SrtOn Z a (i + 1)) := HV.out.2.2.stop (Or.inl hje)
          have hd0 : decide ((j : Int) > (a : Int)) = false := decide_eq_false (by omega)
          have hd1 : ¬ (a : Int) < (j : Int) := by omega
          clear hje
          go_wp2_with fail
          have HZD := Lib.hid (HZ.out.below (dr wr))
          have HWD := Lib.hid (grown_trans HW.out (Below.grow (dr wr) (some g)))
          refine wp_region_R (fun _ => True) 17 (by kernel_rfl) ?_
          refine wpAnyR_leadI (by kernel_rfl) ?hQ ?hS0 [0, 1, 2, 3, 4, 5, 6, 7, 8, 9, 10, 11, 12, 13, 14, 15, 16] 0 _ _ (by kernel_rfl) ?_
          case hQ => intro c a d v w h; cases d <;> exact h
          case hS0 => exact trivial
          iterate 4 (refine wpLeadI_read (v := ?_) _ rfl rfl (by rfl) ?_ ?_; rotate_left; (intro W hW; (try dsimp only at hW); go_simp; (try with_reducible rfl)); try simp only [Act.put, List.setIfInBounds_toArray, List.set_cons_succ, List.set_cons_zero])
          iterate 12 (refine wpLeadI_skip _ rfl rfl (by kernel_rfl) ?_; try simp only [Act.put, List.setIfInBounds_toArray, List.set_cons_succ, List.set_cons_zero])
          iterate 1 (refine wpLeadI_read (v := ?_) _ rfl rfl (by rfl) ?_ ?_; rotate_left; (intro W hW; (try dsimp only at hW); go_simp; (try with_reducible rfl)); try simp only [Act.put, List.setIfInBounds_toArray, List.set_cons_succ, List.set_cons_zero])
          simp only [wpLeadI]
          refine ⟨by kernel_rfl, ?_⟩
          go_wp2
          go_roundw
          case rel => exact ⟨i + 1, Z, by omega, by omega, by go_num, HZD, HWD, Lib.hid ⟨HV.out.1, HV.out.2.1, HB2.out⟩⟩
          case measure => simp [intOf]; omega
    · have HE : Hid (SrtOn Z a b) := fun p q h1 h2 h3 => HV.out.2.2 p q h1 h2 (by omega)
      go_wp2
      go_end0
      exact ⟨rfl, HW.out, Z, HZ.out, HV.out.2.1, HE.out⟩
end Go.Proofs.Ytapojmniokdjfaa.Stp

