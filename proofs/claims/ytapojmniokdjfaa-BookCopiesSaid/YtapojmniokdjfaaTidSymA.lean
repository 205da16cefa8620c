/- slices' symMerge, of steps. -/
import Derived.Test.YtapojmniokdjfaaTidSymP
namespace Go.Proofs.Ytapojmniokdjfaa.Stp
open Go.RowKit Go.Shelf Go.Proofs.Ytapojmniokdjfaa.Srt Go.Proofs.Ytapojmniokdjfaa.Ft
set_option linter.unusedVariables false
set_option maxRecDepth 100000
set_option maxHeartbeats 3200000 in
theorem sym1_any (g c n a m b : Nat) (X : List StepD) (hn : X.length = n) (hb : n ≤ 1000) (ham : a + 1 = m) (hmb : m < b) (hbn : b ≤ n) (sb : SrtOn X m b) (w : World) (h : RowS w g c X) :
    Calls Try.prog 91 #[.slice (some ⟨g, 0, none⟩) n c, .int .i64 a, .int .i64 m, .int .i64 b, .func (.func 57) #[] #[]] w fun e w' => e = .returned (.tuple #[]) ∧ w.grownBy w' (some g) ∧ ∃ Y, RowS w' g c Y ∧ Mix a b X Y ∧ SrtOn Y a b := by
  have H := Lib.hid h; have HN := Lib.hid hn; have HS := Lib.hid sb; have HM := Lib.hid ham
  have e1 : IntKind.i64.wrap ((m : Int) - (a : Int)) = 1 := by rw [IntWalk.i64_in _ (by omega)]; omega
  clear h hn sb
  have ham2 : a < m := by omega
  clear ham
  go_enter Try.func91, Try.ntmps91
  go_wp2_with fail
  go_loopw [10, 11] (fun vi vj wr => ∃ i j : Nat, m ≤ i ∧ i ≤ j ∧ j ≤ b ∧ vi = .int .i64 i ∧ vj = .int .i64 j ∧ Hid (RowS wr g c X) ∧ Hid (w.grownBy wr (some g)) ∧ Hid ((i = m ∨ atK X (i - 1) < atK X a) ∧ (j = b ∨ atK X a ≤ atK X j))) (fun vi vj _ => (intOf vj).toNat - (intOf vi).toNat)
  case atStart => exact ⟨m, b, Nat.le_refl _, by omega, Nat.le_refl _, rfl, rfl, H, Lib.hid (grown_refl _ _), Lib.hid ⟨Or.inl rfl, Or.inl rfl⟩⟩
  case round =>
    obtain ⟨i, j, hmi, hij, hjb, rfl, rfl, HZ, HW, HI⟩ := hrel
    by_cases hlt : i < j
    · obtain ⟨q, hq⟩ : ∃ q : Nat, q = (i + j) / 2 := ⟨_, rfl⟩
      have hq1 : i ≤ q := by omega
      have hq2 : q < j := by omega
      have w1 : IntKind.i64.wrap ((i : Int) + (j : Int)) = ((i + j : Nat) : Int) := by rw [IntWalk.i64_in _ (by omega)]; omega
      have hqz : ((i : Int) + (j : Int)) / 2 = (q : Int) := by omega
      obtain ⟨s, hs, c0, c1⟩ := HZ.out.lt (k := q) (by rw [HN.out]; omega)
      obtain ⟨u, hu, d0, d1⟩ := HZ.out.lt (k := a) (by rw [HN.out]; omega)
      obtain ⟨v, hv⟩ : ∃ v, cmpV s.at_ u.at_ = v := ⟨_, rfl⟩
      have HC := Lib.hid fun (W : World) => tcmp_any s u W
      rw [hv] at HC
      have hqn : q < n := by omega
      have han : a < n := by omega
      have hkq := atK_of hs; have hka := atK_of hu
      have HQZ := Lib.hid hqz
      by_cases hlv : v < 0
      · have HB : Hid (atK X (q + 1 - 1) < atK X a) := by show _ < _; rw [Nat.add_sub_cancel, hkq, hka]; exact cmpV_neg.1 (by rw [hv]; exact hlv)
        have w2 : IntKind.i64.wrap ((q : Int) + 1) = ((q + 1 : Nat) : Int) := by rw [IntWalk.i64_in _ (by omega)]; omega
        clear hs hu hv hkq hka hq hqz
        go_wp2_with fail
        rw [HQZ.out]
        have s0 : wr.drew.cell? ⟨g, q * 2, none⟩ = some (.int .i64 s.at_) ∧ wr.drew.cell? ⟨g, q * 2 + 1, none⟩ = some (.int .i64 s.fr) ∧ wr.drew.cell? ⟨g, a * 2, none⟩ = some (.int .i64 u.at_) ∧ wr.drew.cell? ⟨g, a * 2 + 1, none⟩ = some (.int .i64 u.fr) := ⟨kp (dr wr) c0, kp (dr wr) c1, kp (dr wr) d0, kp (dr wr) d1⟩
        clear c0 c1 d0 d1
        have HX0 := Lib.hid (HZ.out.below (dr wr)); have HY0 := Lib.hid (grown_trans HW.out (Below.grow (dr wr) (some g)))
        go_region_held3 (fun (W : World) => W.cell? ⟨g, q * 2, none⟩ = some (.int .i64 s.at_) ∧ W.cell? ⟨g, q * 2 + 1, none⟩ = some (.int .i64 s.fr) ∧ W.cell? ⟨g, a * 2, none⟩ = some (.int .i64 u.at_) ∧ W.cell? ⟨g, a * 2 + 1, none⟩ = some (.int .i64 u.fr)) (first | exact s1 | exact s0) (first
          | (go_at_call 57; refine (HC.out _).mono ?_; rintro e x1 ⟨rfl, hb1⟩; have s1 : x1.cell? ⟨g, q * 2, none⟩ = some (.int .i64 s.at_) ∧ x1.cell? ⟨g, q * 2 + 1, none⟩ = some (.int .i64 s.fr) ∧ x1.cell? ⟨g, a * 2, none⟩ = some (.int .i64 u.at_) ∧ x1.cell? ⟨g, a * 2 + 1, none⟩ = some (.int .i64 u.fr) := ⟨kp hb1 s0.1, kp hb1 s0.2.1, kp hb1 s0.2.2.1, kp hb1 s0.2.2.2⟩; have HX1 : Hid (RowS x1 g c X) := Lib.hid (HX0.out.below hb1); have HY1 : Hid (w.grownBy x1 (some g)) := Lib.hid (grown_trans HY0.out (Below.grow hb1 (some g))); clear hb1))
        go_wp2
        go_roundw
        case rel => exact ⟨q + 1, j, by omega, by omega, hjb, by go_num, rfl, Lib.hid HX1.out, Lib.hid HY1.out, Lib.hid ⟨Or.inr HB.out, HI.out.2⟩⟩
        case measure => simp [intOf]; omega
      · have HB : Hid (atK X a ≤ atK X q) := by
          show _ ≤ _
          rw [hkq, hka]
          have hns : ¬ s.at_ < u.at_ := fun h => hlv (by rw [← hv]; exact cmpV_neg.2 h)
          omega
        clear hs hu hv hkq hka hq hqz
        go_wp2_with fail
        rw [HQZ.out]
        have s0 : wr.drew.cell? ⟨g, q * 2, none⟩ = some (.int .i64 s.at_) ∧ wr.drew.cell? ⟨g, q * 2 + 1, none⟩ = some (.int .i64 s.fr) ∧ wr.drew.cell? ⟨g, a * 2, none⟩ = some (.int .i64 u.at_) ∧ wr.drew.cell? ⟨g, a * 2 + 1, none⟩ = some (.int .i64 u.fr) := ⟨kp (dr wr) c0, kp (dr wr) c1, kp (dr wr) d0, kp (dr wr) d1⟩
        clear c0 c1 d0 d1
        have HX0 := Lib.hid (HZ.out.below (dr wr)); have HY0 := Lib.hid (grown_trans HW.out (Below.grow (dr wr) (some g)))
        go_region_held3 (fun (W : World) => W.cell? ⟨g, q * 2, none⟩ = some (.int .i64 s.at_) ∧ W.cell? ⟨g, q * 2 + 1, none⟩ = some (.int .i64 s.fr) ∧ W.cell? ⟨g, a * 2, none⟩ = some (.int .i64 u.at_) ∧ W.cell? ⟨g, a * 2 + 1, none⟩ = some (.int .i64 u.fr)) (first | exact s1 | exact s0) (first
          | (go_at_call 57; refine (HC.out _).mono ?_; rintro e x1 ⟨rfl, hb1⟩; have s1 : x1.cell? ⟨g, q * 2, none⟩ = some (.int .i64 s.at_) ∧ x1.cell? ⟨g, q * 2 + 1, none⟩ = some (.int .i64 s.fr) ∧ x1.cell? ⟨g, a * 2, none⟩ = some (.int .i64 u.at_) ∧ x1.cell? ⟨g, a * 2 + 1, none⟩ = some (.int .i64 u.fr) := ⟨kp hb1 s0.1, kp hb1 s0.2.1, kp hb1 s0.2.2.1, kp hb1 s0.2.2.2⟩; have HX1 : Hid (RowS x1 g c X) := Lib.hid (HX0.out.below hb1); have HY1 : Hid (w.grownBy x1 (some g)) := Lib.hid (grown_trans HY0.out (Below.grow hb1 (some g))); clear hb1))
        go_wp2
        go_roundw
        case rel => exact ⟨i, q, by omega, by omega, by omega, rfl, rfl, Lib.hid HX1.out, Lib.hid HY1.out, Lib.hid ⟨HI.out.1, Or.inr HB.out⟩⟩
        case measure => simp [intOf]; omega
    · have hie : j = i := by omega
      have HI2 : Hid ((i = m ∨ atK X (i - 1) < atK X a) ∧ (i = b ∨ atK X a ≤ atK X i)) := by rw [hie] at HI; exact HI
      clear hie
      obtain ⟨i1, hi1⟩ : ∃ i1, i = i1 + 1 := ⟨i - 1, by omega⟩
      have w3 : IntKind.i64.wrap ((i : Int) - 1) = (i1 : Int) := by rw [IntWalk.i64_in _ (by omega)]; omega
      have HI1 := Lib.hid hi1
      have hai : a ≤ i1 := by omega
      clear hi1
      go_wp2
      go_loopw [13] (fun vk wr => ∃ (k : Nat) (Z : List StepD), a ≤ k ∧ k ≤ i1 ∧ vk = .int .i64 k ∧ Hid (RowS wr g c Z) ∧ Hid (w.grownBy wr (some g)) ∧ Hid (Via (rotI a (a + 1) (k + 1)) X Z)) (fun vk _ => i1 - (intOf vk).toNat)
      case atStart => exact ⟨a, X, Nat.le_refl _, hai, rfl, HZ, HW, Lib.hid (rot_id (Or.inr rfl) (by omega) (Nat.le_refl _))⟩
      case round =>
        clear HZ HW
        obtain ⟨k, Z, hk1, hk2, rfl, HZ, HW, HV⟩ := hrel
        by_cases hki : k < i1
        · obtain ⟨r, hr⟩ : ∃ r, k + 1 = r := ⟨_, rfl⟩
          have hI := HI1.out
          have hZl : Z.length = n := by rw [HV.out.1]; exact HN.out
          have hrn : r < n := by omega
          have hkn : k < n := by omega
          have w4 : IntKind.i64.wrap ((k : Int) + 1) = (r : Int) := by rw [IntWalk.i64_in _ (by omega)]; omega
          obtain ⟨s, hs, c0, c1⟩ := HZ.out.lt (k := k) (by rw [hZl]; omega)
          obtain ⟨u, hu, d0, d1⟩ := HZ.out.lt (k := r) (by rw [hZl]; omega)
          have HU := Lib.hid (set_via hs hu)
          have HL1 : Hid (k < Z.length) := by show _ < _; rw [hZl]; omega
          have HL2 : Hid (∀ v, r < (Z.set k v).length) := fun v => by rw [List.length_set, hZl]; omega
          have HV2 : Hid (∀ Y, Via (swI k r 1) Z Y → Via (rotI a (a + 1) (r + 1)) X Y) := fun Y hY => by
            rw [← hr] at hY ⊢
            have hXn := HN.out
            exact (HV.out.trans hY fun q hq => sw_lt (by omega) (by omega) hq).congr fun q _ => up_next hk1
          have HR := Lib.hid hr
          clear hs hu hr hI hZl
          go_wp2_with fail
          have s0 : wr.drew.cell? ⟨g, k * 2, none⟩ = some (.int .i64 s.at_) ∧ wr.drew.cell? ⟨g, k * 2 + 1, none⟩ = some (.int .i64 s.fr) ∧ wr.drew.cell? ⟨g, r * 2, none⟩ = some (.int .i64 u.at_) ∧ wr.drew.cell? ⟨g, r * 2 + 1, none⟩ = some (.int .i64 u.fr) := ⟨c0, c1, d0, d1⟩
          clear c0 c1 d0 d1
          have HZD := Lib.hid (HZ.out.below (dr wr))
          have HWD := Lib.hid (grown_trans HW.out (Below.grow (dr wr) (some g)))
          refine wp_region_R (fun _ => True) 18 (by kernel_rfl) ?_
          generalize wr.drew = W0 at s0 HZD HWD ⊢
          refine wpAnyR_leadI (by kernel_rfl) ?hQ trivial [0, 1, 2, 3, 4, 5, 6, 7, 8, 10, 11, 12] 6 _ _ (by kernel_rfl) ?_
          case hQ => intro c a d v w h; cases d <;> exact h
          iterate 12 (refine wpLeadI_read (v := ?_) _ rfl rfl (by rfl) ?_ ?_; rotate_left; (intro W hW; (try dsimp only at hW); go_simp; (try simp only [w4]); (try go_simp); (try with_reducible rfl)); try simp only [Act.put, List.setIfInBounds_toArray, List.set_cons_succ, List.set_cons_zero])
          simp only [wpLeadI]
          refine wpAnyR_weak (S := fun W => W = W0) (n := 14) _ _ _ _ ?_
          refine wpAnyR_leadI (S := fun W => W = W0) (by kernel_rfl) ?hQ2 (w := W0) rfl [9, 13] 4 _ _ (by kernel_rfl) ?_
          case hQ2 => intro c a d v w h; cases d <;> exact h
          iterate 2 (refine wpLeadI_read (v := ?_) _ rfl rfl (by rfl) ?_ ?_; rotate_left; (intro W hW; (try dsimp only at hW); rw [hW]; go_simp; (try simp only [w4]); (try go_simp); (try with_reducible rfl)); try simp only [Act.put, List.setIfInBounds_toArray, List.set_cons_succ, List.set_cons_zero])
          simp only [wpLeadI]
          refine wpAnyR_tail (n := 14) rfl (by kernel_rfl) ?_
          go_wp2_with (first
            | (refine wpList_put rfl _ _ rfl g c _ r s (r * 2) (by simp [Act.eval]) rfl (by simp [Act.eval]) H1.out (HL2.out u) ?_; intro W2 h2 g2; have H2 := Lib.hid h2; have G2 := Lib.hid (grown_trans G1.out g2); clear h2 g2)
            | (refine wpList_put rfl _ _ rfl g c Z k u (k * 2) (by simp [Act.eval]) rfl (by simp [Act.eval]) HZD.out HL1.out ?_; intro W1 h1 g1; have H1 := Lib.hid h1; have G1 := Lib.hid (grown_trans HWD.out g1); clear h1 g1))
          go_roundw
          case rel => have hr := HR.out; exact ⟨r, _, by omega, by omega, by go_num, H2, G2, Lib.hid (HV2.out _ HU.out)⟩
          case measure => have hr := HR.out; simp [intOf]; omega
        · have hke : k + 1 = i := by rw [HI1.out]; omega
          have HE : Hid (Mix a b X Z ∧ SrtOn Z a b) := by
            have hI2 := HI2.out
            have hV := HV.out
            rw [hke] at hV
            have hS := HS.out
            rw [← HM.out] at hI2 hS
            have hm := HM.out
            exact one_up (by omega) (by omega) (by rw [HN.out]; omega) hS hI2.1 hI2.2 hV
          clear hke
          go_wp2
          refine bodyPost_ret (results_none rfl _ _ _) rfl ?_
          exact ⟨rfl, HW.out, Z, HZ.out, HE.out.1, HE.out.2⟩
end Go.Proofs.Ytapojmniokdjfaa.Stp

