/- slices' symMerge, of steps. -/
import Derived.Test.YtapojmniokdjfaaTidSymP
namespace Go.Proofs.Ytapojmniokdjfaa.Stp
open Go.RowKit Go.Shelf Go.Proofs.Ytapojmniokdjfaa.Srt Go.Proofs.Ytapojmniokdjfaa.Ft
set_option linter.unusedVariables false
set_option maxRecDepth 100000
set_option maxHeartbeats 3200000 in
theorem sym2_any (g c n a m b : Nat) (X : List StepD) (hn : X.length = n) (hb : n ≤ 1000) (ham : a + 1 < m) (hmb : m + 1 = b) (hbn : b ≤ n) (sa : SrtOn X a m) (w : World) (h : RowS w g c X) :
    Calls Try.prog 91 #[.slice (some ⟨g, 0, none⟩) n c, .int .i64 a, .int .i64 m, .int .i64 b, .func (.func 57) #[] #[]] w fun e w' => e = .returned (.tuple #[]) ∧ w.grownBy w' (some g) ∧ ∃ Y, RowS w' g c Y ∧ Mix a b X Y ∧ SrtOn Y a b := by
  have H := Lib.hid h; have HN := Lib.hid hn; have HS := Lib.hid sa; have HM := Lib.hid hmb
  obtain ⟨d, hd⟩ : ∃ d, m - a = d := ⟨_, rfl⟩
  have e1 : IntKind.i64.wrap ((m : Int) - (a : Int)) = (d : Int) := by rw [IntWalk.i64_in _ (by omega)]; omega
  have e1n : ((d : Int) == 1) = false := by rw [beq_eq_false_iff_ne]; omega
  have e2 : IntKind.i64.wrap ((b : Int) - (m : Int)) = 1 := by rw [IntWalk.i64_in _ (by omega)]; omega
  have hmb2 : m < b := by omega
  clear h hn sa hd hmb
  go_enter Try.func91, Try.ntmps91
  go_wp2_with fail
  go_loopw [14, 15] (fun vi vj wr => ∃ i j : Nat, a ≤ i ∧ i ≤ j ∧ j ≤ m ∧ vi = .int .i64 i ∧ vj = .int .i64 j ∧ Hid (RowS wr g c X) ∧ Hid (w.grownBy wr (some g)) ∧ Hid ((i = a ∨ atK X (i - 1) ≤ atK X m) ∧ (j = m ∨ atK X m < atK X j))) (fun vi vj _ => (intOf vj).toNat - (intOf vi).toNat)
  case atStart => exact ⟨a, m, Nat.le_refl _, by omega, Nat.le_refl _, rfl, rfl, H, Lib.hid (grown_refl _ _), Lib.hid ⟨Or.inl rfl, Or.inl rfl⟩⟩
  case round =>
    obtain ⟨i, j, hai, hij, hjm, rfl, rfl, HZ, HW, HI⟩ := hrel
    by_cases hlt : i < j
    · obtain ⟨q, hq⟩ : ∃ q : Nat, q = (i + j) / 2 := ⟨_, rfl⟩
      have hq1 : i ≤ q := by omega
      have hq2 : q < j := by omega
      have w1 : IntKind.i64.wrap ((i : Int) + (j : Int)) = ((i + j : Nat) : Int) := by rw [IntWalk.i64_in _ (by omega)]; omega
      have hqz : ((i : Int) + (j : Int)) / 2 = (q : Int) := by omega
      obtain ⟨s, hs, c0, c1⟩ := HZ.out.lt (k := m) (by rw [HN.out]; omega)
      obtain ⟨u, hu, d0, d1⟩ := HZ.out.lt (k := q) (by rw [HN.out]; omega)
      obtain ⟨v, hv⟩ : ∃ v, cmpV s.at_ u.at_ = v := ⟨_, rfl⟩
      have HC := Lib.hid fun (W : World) => tcmp_any s u W
      rw [hv] at HC
      have hqn : q < n := by omega
      have hmn : m < n := by omega
      have hkm := atK_of hs; have hkq := atK_of hu
      have HQZ := Lib.hid hqz
      by_cases hlv : v < 0
      · have HB : Hid (atK X m < atK X q) := by show _ < _; rw [hkq, hkm]; exact cmpV_neg.1 (by rw [hv]; exact hlv)
        clear hs hu hv hkq hkm hq hqz
        go_wp2_with fail
        rw [HQZ.out]
        have s0 : wr.drew.cell? ⟨g, m * 2, none⟩ = some (.int .i64 s.at_) ∧ wr.drew.cell? ⟨g, m * 2 + 1, none⟩ = some (.int .i64 s.fr) ∧ wr.drew.cell? ⟨g, q * 2, none⟩ = some (.int .i64 u.at_) ∧ wr.drew.cell? ⟨g, q * 2 + 1, none⟩ = some (.int .i64 u.fr) := ⟨kp (dr wr) c0, kp (dr wr) c1, kp (dr wr) d0, kp (dr wr) d1⟩
        clear c0 c1 d0 d1
        have HX0 := Lib.hid (HZ.out.below (dr wr)); have HY0 := Lib.hid (grown_trans HW.out (Below.grow (dr wr) (some g)))
        go_region_held3 (fun (W : World) => W.cell? ⟨g, m * 2, none⟩ = some (.int .i64 s.at_) ∧ W.cell? ⟨g, m * 2 + 1, none⟩ = some (.int .i64 s.fr) ∧ W.cell? ⟨g, q * 2, none⟩ = some (.int .i64 u.at_) ∧ W.cell? ⟨g, q * 2 + 1, none⟩ = some (.int .i64 u.fr)) (first | exact s1 | exact s0) (first
          | (go_at_call 57; refine (HC.out _).mono ?_; rintro e x1 ⟨rfl, hb1⟩; have s1 : x1.cell? ⟨g, m * 2, none⟩ = some (.int .i64 s.at_) ∧ x1.cell? ⟨g, m * 2 + 1, none⟩ = some (.int .i64 s.fr) ∧ x1.cell? ⟨g, q * 2, none⟩ = some (.int .i64 u.at_) ∧ x1.cell? ⟨g, q * 2 + 1, none⟩ = some (.int .i64 u.fr) := ⟨kp hb1 s0.1, kp hb1 s0.2.1, kp hb1 s0.2.2.1, kp hb1 s0.2.2.2⟩; have HX1 : Hid (RowS x1 g c X) := Lib.hid (HX0.out.below hb1); have HY1 : Hid (w.grownBy x1 (some g)) := Lib.hid (grown_trans HY0.out (Below.grow hb1 (some g))); clear hb1))
        go_wp2
        go_roundw
        case rel => exact ⟨i, q, by omega, by omega, by omega, rfl, rfl, Lib.hid HX1.out, Lib.hid HY1.out, Lib.hid ⟨HI.out.1, Or.inr HB.out⟩⟩
        case measure => simp [intOf]; omega
      · have HB : Hid (atK X (q + 1 - 1) ≤ atK X m) := by
          show _ ≤ _
          rw [Nat.add_sub_cancel, hkq, hkm]
          have hns : ¬ s.at_ < u.at_ := fun h => hlv (by rw [← hv]; exact cmpV_neg.2 h)
          omega
        have hld : (!decide (v < 0)) = true := by simp; omega
        have w2 : IntKind.i64.wrap ((q : Int) + 1) = ((q + 1 : Nat) : Int) := by rw [IntWalk.i64_in _ (by omega)]; omega
        clear hs hu hv hkq hkm hq hqz
        go_wp2_with fail
        rw [HQZ.out]
        have s0 : wr.drew.cell? ⟨g, m * 2, none⟩ = some (.int .i64 s.at_) ∧ wr.drew.cell? ⟨g, m * 2 + 1, none⟩ = some (.int .i64 s.fr) ∧ wr.drew.cell? ⟨g, q * 2, none⟩ = some (.int .i64 u.at_) ∧ wr.drew.cell? ⟨g, q * 2 + 1, none⟩ = some (.int .i64 u.fr) := ⟨kp (dr wr) c0, kp (dr wr) c1, kp (dr wr) d0, kp (dr wr) d1⟩
        clear c0 c1 d0 d1
        have HX0 := Lib.hid (HZ.out.below (dr wr)); have HY0 := Lib.hid (grown_trans HW.out (Below.grow (dr wr) (some g)))
        go_region_held3 (fun (W : World) => W.cell? ⟨g, m * 2, none⟩ = some (.int .i64 s.at_) ∧ W.cell? ⟨g, m * 2 + 1, none⟩ = some (.int .i64 s.fr) ∧ W.cell? ⟨g, q * 2, none⟩ = some (.int .i64 u.at_) ∧ W.cell? ⟨g, q * 2 + 1, none⟩ = some (.int .i64 u.fr)) (first | exact s1 | exact s0) (first
          | (go_at_call 57; refine (HC.out _).mono ?_; rintro e x1 ⟨rfl, hb1⟩; have s1 : x1.cell? ⟨g, m * 2, none⟩ = some (.int .i64 s.at_) ∧ x1.cell? ⟨g, m * 2 + 1, none⟩ = some (.int .i64 s.fr) ∧ x1.cell? ⟨g, q * 2, none⟩ = some (.int .i64 u.at_) ∧ x1.cell? ⟨g, q * 2 + 1, none⟩ = some (.int .i64 u.fr) := ⟨kp hb1 s0.1, kp hb1 s0.2.1, kp hb1 s0.2.2.1, kp hb1 s0.2.2.2⟩; have HX1 : Hid (RowS x1 g c X) := Lib.hid (HX0.out.below hb1); have HY1 : Hid (w.grownBy x1 (some g)) := Lib.hid (grown_trans HY0.out (Below.grow hb1 (some g))); clear hb1))
        go_wp2
        go_roundw
        case rel => exact ⟨q + 1, j, by omega, by omega, hjm, by go_num, rfl, Lib.hid HX1.out, Lib.hid HY1.out, Lib.hid ⟨Or.inr HB.out, HI.out.2⟩⟩
        case measure => simp [intOf]; omega
    · have hie : j = i := by omega
      have HI2 : Hid ((i = a ∨ atK X (i - 1) ≤ atK X m) ∧ (i = m ∨ atK X m < atK X i)) := by rw [hie] at HI; exact HI
      have him : i ≤ m := by omega
      clear hie
      go_wp2
      go_loopw [17] (fun vk wr => ∃ (k : Nat) (Z : List StepD), i ≤ k ∧ k ≤ m ∧ vk = .int .i64 k ∧ Hid (RowS wr g c Z) ∧ Hid (w.grownBy wr (some g)) ∧ Hid (Via (rotI k m (m + 1)) X Z)) (fun vk _ => (intOf vk).toNat)
      case atStart => exact ⟨m, X, him, Nat.le_refl _, rfl, HZ, HW, Lib.hid (rot_id (Or.inl rfl) (Nat.le_refl _) (by omega))⟩
      case round =>
        clear HZ HW
        obtain ⟨k, Z, hk1, hk2, rfl, HZ, HW, HV⟩ := hrel
        by_cases hki : i < k
        · obtain ⟨r, hr⟩ : ∃ r, k = r + 1 := ⟨k - 1, by omega⟩
          have hZl : Z.length = n := by rw [HV.out.1]; exact HN.out
          have hrn : r < n := by omega
          have hkn : k < n := by omega
          have w4 : IntKind.i64.wrap ((k : Int) - 1) = (r : Int) := by rw [IntWalk.i64_in _ (by omega)]; omega
          obtain ⟨s, hs, c0, c1⟩ := HZ.out.lt (k := k) (by rw [hZl]; omega)
          obtain ⟨u, hu, d0, d1⟩ := HZ.out.lt (k := r) (by rw [hZl]; omega)
          have HU := Lib.hid (set_via hs hu)
          have HL1 : Hid (k < Z.length) := by show _ < _; rw [hZl]; omega
          have HL2 : Hid (∀ v, r < (Z.set k v).length) := fun v => by rw [List.length_set, hZl]; omega
          have HV2 : Hid (∀ Y, Via (swI k r 1) Z Y → Via (rotI r m (m + 1)) X Y) := fun Y hY => by
            have hXn := HN.out
            have hV := HV.out
            rw [hr] at hY hV
            exact (hV.trans hY fun q hq => sw_lt (by omega) (by omega) hq).congr fun q _ => dn_next (by omega)
          have HR := Lib.hid hr
          clear hs hu hr hZl
          go_wp2_with fail
          have s0 : wr.drew.cell? ⟨g, k * 2, none⟩ = some (.int .i64 s.at_) ∧ wr.drew.cell? ⟨g, k * 2 + 1, none⟩ = some (.int .i64 s.fr) ∧ wr.drew.cell? ⟨g, r * 2, none⟩ = some (.int .i64 u.at_) ∧ wr.drew.cell? ⟨g, r * 2 + 1, none⟩ = some (.int .i64 u.fr) := ⟨c0, c1, d0, d1⟩
          clear c0 c1 d0 d1
          have HZD := Lib.hid (HZ.out.below (dr wr))
          have HWD := Lib.hid (grown_trans HW.out (Below.grow (dr wr) (some g)))
          refine wp_region_R (fun _ => True) 18 (by kernel_rfl) ?_
          generalize wr.drew = W0 at s0 HZD HWD ⊢
          refine wpAnyR_leadI (by kernel_rfl) ?hQ trivial [0, 1, 2, 3, 4, 5, 6, 7, 8, 10, 11, 12] 6 _ _ (by kernel_rfl) ?_
          case hQ => intro c a d v w h; cases d <;> exact h
          iterate 12 (refine wpLeadI_read (v := ?_) _ rfl rfl (by rfl) ?_ ?_; rotate_left; (intro W hW; (try dsimp only at hW); go_simp; (try simp only [w4]); (try go_simp); (try with_reducible rfl)); try simp only [Act.put, List.setIfInBounds_toArray, List.set_cons_succ, List.set_cons_zero])
          simp only [wpLeadI]
          refine wpAnyR_weak (S := fun W => W = W0) (n := 14) _ _ _ _ ?_
          refine wpAnyR_leadI (S := fun W => W = W0) (by kernel_rfl) ?hQ2 (w := W0) rfl [9, 13] 4 _ _ (by kernel_rfl) ?_
          case hQ2 => intro c a d v w h; cases d <;> exact h
          iterate 2 (refine wpLeadI_read (v := ?_) _ rfl rfl (by rfl) ?_ ?_; rotate_left; (intro W hW; (try dsimp only at hW); rw [hW]; go_simp; (try simp only [w4]); (try go_simp); (try with_reducible rfl)); try simp only [Act.put, List.setIfInBounds_toArray, List.set_cons_succ, List.set_cons_zero])
          simp only [wpLeadI]
          refine wpAnyR_tail (n := 14) rfl (by kernel_rfl) ?_
          go_wp2_with (first
            | (refine wpList_put rfl _ _ rfl g c _ r s (r * 2) (by simp [Act.eval]) rfl (by simp [Act.eval]) H1.out (HL2.out u) ?_; intro W2 h2 g2; have H2 := Lib.hid h2; have G2 := Lib.hid (grown_trans G1.out g2); clear h2 g2)
            | (refine wpList_put rfl _ _ rfl g c Z k u (k * 2) (by simp [Act.eval]) rfl (by simp [Act.eval]) HZD.out HL1.out ?_; intro W1 h1 g1; have H1 := Lib.hid h1; have G1 := Lib.hid (grown_trans HWD.out g1); clear h1 g1))
          go_roundw
          case rel => have hr := HR.out; exact ⟨r, _, by omega, by omega, by go_num, H2, G2, Lib.hid (HV2.out _ HU.out)⟩
          case measure => have hr := HR.out; simp [intOf]; omega
        · have hke : k = i := by omega
          have HE : Hid (Mix a b X Z ∧ SrtOn Z a b) := by
            have hI2 := HI2.out
            have hV := HV.out
            rw [hke] at hV
            rw [← HM.out]
            have hXn := HN.out
            exact one_dn hai him (by omega) HS.out hI2.1 hI2.2 hV
          clear hke
          go_wp2
          refine bodyPost_ret (results_none rfl _ _ _) rfl ?_
          exact ⟨rfl, HW.out, Z, HZ.out, HE.out.1, HE.out.2⟩
end Go.Proofs.Ytapojmniokdjfaa.Stp

