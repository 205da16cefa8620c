/- slices' symMerge, of ints.
   slices' symMerge, of ints.
   slices' symMerge, of ints, in full. -/
import Derived.Test.YtaiolhanbjndcaaDoorMSri
namespace Go.Proofs.YtaiolhanbjndcaaDoor.Sri
open Go.RowKit Go.Shelf Go.Proofs.YtaiolhanbjndcaaDoor.Srt Go.Proofs.YtaiolhanbjndcaaDoor.Ft
set_option linter.unusedVariables false
set_option maxRecDepth 100000
set_option maxHeartbeats 3200000 in
theorem sym1_any (g c n a m b : Nat) (X : List StepD) (hn : X.length = n) (hb : n ≤ 1000) (ham : a + 1 = m) (hmb : m < b) (hbn : b ≤ n) (sb : SrtOn X m b) (ok : StepD → Prop) (ub : Nat) (w0 : World) (hcc : CmpC ok ub w0 g) (w : World) (h : RowI ok w g c X) (hgw : w0.grownBy w (some g)) :
    Calls Tryd.prog 54 #[.slice (some ⟨g, 0, none⟩) n c, .int .i64 a, .int .i64 m, .int .i64 b, .func (.func 23) #[] #[.pointer (some ⟨ub, 0, none⟩)]] w fun e w' => e = .returned (.tuple #[]) ∧ w.grownBy w' (some g) ∧ ∃ Y, RowI ok w' g c Y ∧ Mix a b X Y ∧ SrtOn Y a b := by
  have HCC := Lib.hid hcc; have HGW := Lib.hid hgw
  have H := Lib.hid h; have HN := Lib.hid hn; have HS := Lib.hid sb; have HM := Lib.hid ham
  have e1 : IntKind.i64.wrap ((m : Int) - (a : Int)) = 1 := by rw [IntWalk.i64_in _ (by omega)]; omega
  clear hcc hgw h hn sb
  have ham2 : a < m := by omega
  clear ham
  go_enter Tryd.func54, Tryd.ntmps54
  go_wp2_with fail
  go_loopw [10, 11] (fun vi vj wr => ∃ i j : Nat, m ≤ i ∧ i ≤ j ∧ j ≤ b ∧ vi = .int .i64 i ∧ vj = .int .i64 j ∧ Hid (RowI ok wr g c X) ∧ Hid (w.grownBy wr (some g)) ∧ Hid ((i = m ∨ atK X (i - 1) < atK X a) ∧ (j = b ∨ atK X a ≤ atK X j))) (fun vi vj _ => (intOf vj).toNat - (intOf vi).toNat)
  case atStart => exact ⟨m, b, Nat.le_refl _, by omega, Nat.le_refl _, rfl, rfl, H, Lib.hid (grown_refl _ _), Lib.hid ⟨Or.inl rfl, Or.inl rfl⟩⟩
  case round =>
    obtain ⟨i, j, hmi, hij, hjb, rfl, rfl, HZ, HW, HI⟩ := hrel
    by_cases hlt : i < j
    · obtain ⟨q, hq⟩ : ∃ q : Nat, q = (i + j) / 2 := ⟨_, rfl⟩
      have hq1 : i ≤ q := by omega
      have hq2 : q < j := by omega
      have w1 : IntKind.i64.wrap ((i : Int) + (j : Int)) = ((i + j : Nat) : Int) := by rw [IntWalk.i64_in _ (by omega)]; omega
      have hqz : ((i : Int) + (j : Int)) / 2 = (q : Int) := by omega
      obtain ⟨s, hs, c0, os⟩ := HZ.out.lt (k := q) (by rw [HN.out]; omega)
      obtain ⟨u, hu, d0, ou⟩ := HZ.out.lt (k := a) (by rw [HN.out]; omega)
      obtain ⟨v, hv⟩ : ∃ v, cmpV s.at_ u.at_ = v := ⟨_, rfl⟩
      have HC := Lib.hid fun (W : World) (hW : w.grownBy W (some g)) => HCC.out W s u (grown_trans HGW.out hW) os ou
      rw [hv] at HC
      have hqn : q < n := by omega
      have han : a < n := by omega
      have hkq := atK_of hs; have hka := atK_of hu
      have HQZ := Lib.hid hqz
      by_cases hlv : v < 0
      · have HB : Hid (atK X (q + 1 - 1) < atK X a) := by show _ < _; rw [Nat.add_sub_cancel, hkq, hka]; exact cmpV_neg.1 (by rw [hv]; exact hlv)
        have w2 : IntKind.i64.wrap ((q : Int) + 1) = ((q + 1 : Nat) : Int) := by rw [IntWalk.i64_in _ (by omega)]; omega
        clear hs hu hv hkq hka hq hqz
        go_wp2_with fail
        rw [HQZ.out]
        have s0 : wr.drew.cell? ⟨g, q, none⟩ = some (.int .i64 s.fr) ∧ wr.drew.cell? ⟨g, a, none⟩ = some (.int .i64 u.fr) ∧ w.grownBy wr.drew (some g) := ⟨kp (dr wr) c0, kp (dr wr) d0, grown_trans HW.out (Below.grow (dr wr) (some g))⟩
        clear c0 d0
        have HX0 := Lib.hid (HZ.out.below (dr wr)); have HY0 := Lib.hid (grown_trans HW.out (Below.grow (dr wr) (some g)))
        go_region_held3 (fun (W : World) => W.cell? ⟨g, q, none⟩ = some (.int .i64 s.fr) ∧ W.cell? ⟨g, a, none⟩ = some (.int .i64 u.fr) ∧ w.grownBy W (some g)) (first | exact s1 | exact s0) (first
          | (go_at_call 23; refine (HC.out _ s0.2.2).mono ?_; rintro e x1 ⟨rfl, hb1⟩; have s1 : x1.cell? ⟨g, q, none⟩ = some (.int .i64 s.fr) ∧ x1.cell? ⟨g, a, none⟩ = some (.int .i64 u.fr) ∧ w.grownBy x1 (some g) := ⟨kp hb1 s0.1, kp hb1 s0.2.1, grown_trans s0.2.2 (Below.grow hb1 (some g))⟩; have HX1 : Hid (RowI ok x1 g c X) := Lib.hid (HX0.out.below hb1); have HY1 : Hid (w.grownBy x1 (some g)) := Lib.hid (grown_trans HY0.out (Below.grow hb1 (some g))); clear hb1))
        go_wp2
        go_roundw
        case rel => exact ⟨q + 1, j, by omega, by omega, hjb, by go_num, rfl, Lib.hid HX1.out, Lib.hid HY1.out, Lib.hid ⟨Or.inr HB.out, HI.out.2⟩⟩
        case measure => simp [intOf]; omega
      · have HB : Hid (atK X a ≤ atK X q) := by
          show _ ≤ _
          rw [hkq, hka]
          have hns : ¬ s.at_ < u.at_ := fun h => hlv (by rw [← hv]; exact cmpV_neg.2 h)
          omega
        clear hs hu hv hkq hka hq hqz
        go_wp2_with fail
        rw [HQZ.out]
        have s0 : wr.drew.cell? ⟨g, q, none⟩ = some (.int .i64 s.fr) ∧ wr.drew.cell? ⟨g, a, none⟩ = some (.int .i64 u.fr) ∧ w.grownBy wr.drew (some g) := ⟨kp (dr wr) c0, kp (dr wr) d0, grown_trans HW.out (Below.grow (dr wr) (some g))⟩
        clear c0 d0
        have HX0 := Lib.hid (HZ.out.below (dr wr)); have HY0 := Lib.hid (grown_trans HW.out (Below.grow (dr wr) (some g)))
        go_region_held3 (fun (W : World) => W.cell? ⟨g, q, none⟩ = some (.int .i64 s.fr) ∧ W.cell? ⟨g, a, none⟩ = some (.int .i64 u.fr) ∧ w.grownBy W (some g)) (first | exact s1 | exact s0) (first
          | (go_at_call 23; refine (HC.out _ s0.2.2).mono ?_; rintro e x1 ⟨rfl, hb1⟩; have s1 : x1.cell? ⟨g, q, none⟩ = some (.int .i64 s.fr) ∧ x1.cell? ⟨g, a, none⟩ = some (.int .i64 u.fr) ∧ w.grownBy x1 (some g) := ⟨kp hb1 s0.1, kp hb1 s0.2.1, grown_trans s0.2.2 (Below.grow hb1 (some g))⟩; have HX1 : Hid (RowI ok x1 g c X) := Lib.hid (HX0.out.below hb1); have HY1 : Hid (w.grownBy x1 (some g)) := Lib.hid (grown_trans HY0.out (Below.grow hb1 (some g))); clear hb1))
        go_wp2
        go_roundw
        case rel => exact ⟨i, q, by omega, by omega, by omega, rfl, rfl, Lib.hid HX1.out, Lib.hid HY1.out, Lib.hid ⟨HI.out.1, Or.inr HB.out⟩⟩
        case measure => simp [intOf]; omega
    · have hie : j = i := by omega
      have HI2 : Hid ((i = m ∨ atK X (i - 1) < atK X a) ∧ (i = b ∨ atK X a ≤ atK X i)) := by rw [hie] at HI; exact HI
      clear hie
      obtain ⟨i1, hi1⟩ : ∃ i1, i = i1 + 1 := ⟨i - 1, by omega⟩
      have w3 : IntKind.i64.wrap ((i : Int) - 1) = (i1 : Int) := by rw [IntWalk.i64_in _ (by omega)]; omega
      have HI1 := Lib.hid hi1
      have hai : a ≤ i1 := by omega
      clear hi1
      go_wp2
      go_loopw [13] (fun vk wr => ∃ (k : Nat) (Z : List StepD), a ≤ k ∧ k ≤ i1 ∧ vk = .int .i64 k ∧ Hid (RowI ok wr g c Z) ∧ Hid (w.grownBy wr (some g)) ∧ Hid (Via (rotI a (a + 1) (k + 1)) X Z)) (fun vk _ => i1 - (intOf vk).toNat)
      case atStart => exact ⟨a, X, Nat.le_refl _, hai, rfl, HZ, HW, Lib.hid (rot_id (Or.inr rfl) (by omega) (Nat.le_refl _))⟩
      case round =>
        clear HZ HW
        obtain ⟨k, Z, hk1, hk2, rfl, HZ, HW, HV⟩ := hrel
        by_cases hki : k < i1
        · obtain ⟨r, hr⟩ : ∃ r, k + 1 = r := ⟨_, rfl⟩
          have hI := HI1.out
          have hZl : Z.length = n := by rw [HV.out.1]; exact HN.out
          have hrn : r < n := by omega
          have hkn : k < n := by omega
          have w4 : IntKind.i64.wrap ((k : Int) + 1) = (r : Int) := by rw [IntWalk.i64_in _ (by omega)]; omega
          obtain ⟨s, hs, c0, os⟩ := HZ.out.lt (k := k) (by rw [hZl]; omega)
          obtain ⟨u, hu, d0, ou⟩ := HZ.out.lt (k := r) (by rw [hZl]; omega)
          have HU := Lib.hid (set_via hs hu); have OS := Lib.hid os; have OU := Lib.hid ou
          have HL1 : Hid (k < Z.length) := by show _ < _; rw [hZl]; omega
          have HL2 : Hid (∀ v, r < (Z.set k v).length) := fun v => by rw [List.length_set, hZl]; omega
          have HV2 : Hid (∀ Y, Via (swI k r 1) Z Y → Via (rotI a (a + 1) (r + 1)) X Y) := fun Y hY => by
            rw [← hr] at hY ⊢
            have hXn := HN.out
            exact (HV.out.trans hY fun q hq => sw_lt (by omega) (by omega) hq).congr fun q _ => up_next hk1
          have HR := Lib.hid hr
          clear hs hu hr hI hZl
          go_wp2_with fail
          have s0 : wr.drew.cell? ⟨g, k, none⟩ = some (.int .i64 s.fr) ∧ wr.drew.cell? ⟨g, r, none⟩ = some (.int .i64 u.fr) := ⟨c0, d0⟩
          clear c0 d0
          have HZD := Lib.hid (HZ.out.below (dr wr))
          have HWD := Lib.hid (grown_trans HW.out (Below.grow (dr wr) (some g)))
          refine Ft.wp_region_R (fun _ => True) 18 (by kernel_rfl) ?_
          generalize wr.drew = W0 at s0 HZD HWD ⊢
          refine Ft.wpAnyR_leadI (by kernel_rfl) ?hQ trivial [0, 1, 2, 3, 4, 5, 6, 7, 8, 10, 11, 12] 6 _ _ (by kernel_rfl) ?_
          case hQ => intro c a d v w h; cases d <;> exact h
          iterate 12 (refine Ft.wpLeadI_read (v := ?_) _ rfl rfl (by rfl) ?_ ?_; rotate_left; (intro W hW; (try dsimp only at hW); go_simp; (try simp only [w4]); (try go_simp); (try with_reducible rfl)); try simp only [Act.put, List.setIfInBounds_toArray, List.set_cons_succ, List.set_cons_zero])
          simp only [Ft.wpLeadI]
          refine wpAnyR_weak (S := fun W => W = W0) (n := 14) _ _ _ _ ?_
          refine Ft.wpAnyR_leadI (S := fun W => W = W0) (by kernel_rfl) ?hQ2 (w := W0) rfl [9, 13] 4 _ _ (by kernel_rfl) ?_
          case hQ2 => intro c a d v w h; cases d <;> exact h
          iterate 2 (refine Ft.wpLeadI_read (v := ?_) _ rfl rfl (by rfl) ?_ ?_; rotate_left; (intro W hW; (try dsimp only at hW); rw [hW]; go_simp; (try simp only [w4]); (try go_simp); (try with_reducible rfl)); try simp only [Act.put, List.setIfInBounds_toArray, List.set_cons_succ, List.set_cons_zero])
          simp only [Ft.wpLeadI]
          refine Ft.wpAnyR_tail (n := 14) rfl (by kernel_rfl) ?_
          go_wp2_with (first
            | (refine wpList_puti rfl _ _ rfl g c _ r s r (by simp [Act.eval]) rfl (by simp [Act.eval]) H1.out OS.out (HL2.out u) ?_; intro W2 h2 g2; have H2 := Lib.hid h2; have G2 := Lib.hid (grown_trans G1.out g2); clear h2 g2)
            | (refine wpList_puti rfl _ _ rfl g c Z k u k (by simp [Act.eval]) rfl (by simp [Act.eval]) HZD.out OU.out HL1.out ?_; intro W1 h1 g1; have H1 := Lib.hid h1; have G1 := Lib.hid (grown_trans HWD.out g1); clear h1 g1))
          go_roundw
          case rel => have hr := HR.out; exact ⟨r, _, by omega, by omega, by go_num, H2, G2, Lib.hid (HV2.out _ HU.out)⟩
          case measure => have hr := HR.out; simp [intOf]; omega
        · have hke : k + 1 = i := by rw [HI1.out]; omega
          have HE : Hid (Mix a b X Z ∧ SrtOn Z a b) := by
            have hI2 := HI2.out
            have hV := HV.out
            rw [hke] at hV
            have hS := HS.out
            rw [← HM.out] at hI2 hS
            have hm := HM.out
            exact one_up (by omega) (by omega) (by rw [HN.out]; omega) hS hI2.1 hI2.2 hV
          clear hke
          go_wp2
          refine bodyPost_ret (results_none rfl _ _ _) rfl ?_
          exact ⟨rfl, HW.out, Z, HZ.out, HE.out.1, HE.out.2⟩
end Go.Proofs.YtaiolhanbjndcaaDoor.Sri
namespace Go.Proofs.YtaiolhanbjndcaaDoor.Sri
open Go.RowKit Go.Shelf Go.Proofs.YtaiolhanbjndcaaDoor.Srt Go.Proofs.YtaiolhanbjndcaaDoor.Ft
set_option linter.unusedVariables false
set_option maxRecDepth 100000
set_option maxHeartbeats 3200000 in
theorem sym2_any (g c n a m b : Nat) (X : List StepD) (hn : X.length = n) (hb : n ≤ 1000) (ham : a + 1 < m) (hmb : m + 1 = b) (hbn : b ≤ n) (sa : SrtOn X a m) (ok : StepD → Prop) (ub : Nat) (w0 : World) (hcc : CmpC ok ub w0 g) (w : World) (h : RowI ok w g c X) (hgw : w0.grownBy w (some g)) :
    Calls Tryd.prog 54 #[.slice (some ⟨g, 0, none⟩) n c, .int .i64 a, .int .i64 m, .int .i64 b, .func (.func 23) #[] #[.pointer (some ⟨ub, 0, none⟩)]] w fun e w' => e = .returned (.tuple #[]) ∧ w.grownBy w' (some g) ∧ ∃ Y, RowI ok w' g c Y ∧ Mix a b X Y ∧ SrtOn Y a b := by
  have HCC := Lib.hid hcc; have HGW := Lib.hid hgw
  have H := Lib.hid h; have HN := Lib.hid hn; have HS := Lib.hid sa; have HM := Lib.hid hmb
  obtain ⟨d, hd⟩ : ∃ d, m - a = d := ⟨_, rfl⟩
  have e1 : IntKind.i64.wrap ((m : Int) - (a : Int)) = (d : Int) := by rw [IntWalk.i64_in _ (by omega)]; omega
  have e1n : ((d : Int) == 1) = false := by rw [beq_eq_false_iff_ne]; omega
  have e2 : IntKind.i64.wrap ((b : Int) - (m : Int)) = 1 := by rw [IntWalk.i64_in _ (by omega)]; omega
  have hmb2 : m < b := by omega
  clear hcc hgw h hn sa hd hmb
  go_enter Tryd.func54, Tryd.ntmps54
  go_wp2_with fail
  go_loopw [14, 15] (fun vi vj wr => ∃ i j : Nat, a ≤ i ∧ i ≤ j ∧ j ≤ m ∧ vi = .int .i64 i ∧ vj = .int .i64 j ∧ Hid (RowI ok wr g c X) ∧ Hid (w.grownBy wr (some g)) ∧ Hid ((i = a ∨ atK X (i - 1) ≤ atK X m) ∧ (j = m ∨ atK X m < atK X j))) (fun vi vj _ => (intOf vj).toNat - (intOf vi).toNat)
  case atStart => exact ⟨a, m, Nat.le_refl _, by omega, Nat.le_refl _, rfl, rfl, H, Lib.hid (grown_refl _ _), Lib.hid ⟨Or.inl rfl, Or.inl rfl⟩⟩
  case round =>
    obtain ⟨i, j, hai, hij, hjm, rfl, rfl, HZ, HW, HI⟩ := hrel
    by_cases hlt : i < j
    · obtain ⟨q, hq⟩ : ∃ q : Nat, q = (i + j) / 2 := ⟨_, rfl⟩
      have hq1 : i ≤ q := by omega
      have hq2 : q < j := by omega
      have w1 : IntKind.i64.wrap ((i : Int) + (j : Int)) = ((i + j : Nat) : Int) := by rw [IntWalk.i64_in _ (by omega)]; omega
      have hqz : ((i : Int) + (j : Int)) / 2 = (q : Int) := by omega
      obtain ⟨s, hs, c0, os⟩ := HZ.out.lt (k := m) (by rw [HN.out]; omega)
      obtain ⟨u, hu, d0, ou⟩ := HZ.out.lt (k := q) (by rw [HN.out]; omega)
      obtain ⟨v, hv⟩ : ∃ v, cmpV s.at_ u.at_ = v := ⟨_, rfl⟩
      have HC := Lib.hid fun (W : World) (hW : w.grownBy W (some g)) => HCC.out W s u (grown_trans HGW.out hW) os ou
      rw [hv] at HC
      have hqn : q < n := by omega
      have hmn : m < n := by omega
      have hkm := atK_of hs; have hkq := atK_of hu
      have HQZ := Lib.hid hqz
      by_cases hlv : v < 0
      · have HB : Hid (atK X m < atK X q) := by show _ < _; rw [hkq, hkm]; exact cmpV_neg.1 (by rw [hv]; exact hlv)
        clear hs hu hv hkq hkm hq hqz
        go_wp2_with fail
        rw [HQZ.out]
        have s0 : wr.drew.cell? ⟨g, m, none⟩ = some (.int .i64 s.fr) ∧ wr.drew.cell? ⟨g, q, none⟩ = some (.int .i64 u.fr) ∧ w.grownBy wr.drew (some g) := ⟨kp (dr wr) c0, kp (dr wr) d0, grown_trans HW.out (Below.grow (dr wr) (some g))⟩
        clear c0 d0
        have HX0 := Lib.hid (HZ.out.below (dr wr)); have HY0 := Lib.hid (grown_trans HW.out (Below.grow (dr wr) (some g)))
        go_region_held3 (fun (W : World) => W.cell? ⟨g, m, none⟩ = some (.int .i64 s.fr) ∧ W.cell? ⟨g, q, none⟩ = some (.int .i64 u.fr) ∧ w.grownBy W (some g)) (first | exact s1 | exact s0) (first
          | (go_at_call 23; refine (HC.out _ s0.2.2).mono ?_; rintro e x1 ⟨rfl, hb1⟩; have s1 : x1.cell? ⟨g, m, none⟩ = some (.int .i64 s.fr) ∧ x1.cell? ⟨g, q, none⟩ = some (.int .i64 u.fr) ∧ w.grownBy x1 (some g) := ⟨kp hb1 s0.1, kp hb1 s0.2.1, grown_trans s0.2.2 (Below.grow hb1 (some g))⟩; have HX1 : Hid (RowI ok x1 g c X) := Lib.hid (HX0.out.below hb1); have HY1 : Hid (w.grownBy x1 (some g)) := Lib.hid (grown_trans HY0.out (Below.grow hb1 (some g))); clear hb1))
        go_wp2
        go_roundw
        case rel => exact ⟨i, q, by omega, by omega, by omega, rfl, rfl, Lib.hid HX1.out, Lib.hid HY1.out, Lib.hid ⟨HI.out.1, Or.inr HB.out⟩⟩
        case measure => simp [intOf]; omega
      · have HB : Hid (atK X (q + 1 - 1) ≤ atK X m) := by
          show _ ≤ _
          rw [Nat.add_sub_cancel, hkq, hkm]
          have hns : ¬ s.at_ < u.at_ := fun h => hlv (by rw [← hv]; exact cmpV_neg.2 h)
          omega
        have hld : (!decide (v < 0)) = true := by simp; omega
        have w2 : IntKind.i64.wrap ((q : Int) + 1) = ((q + 1 : Nat) : Int) := by rw [IntWalk.i64_in _ (by omega)]; omega
        clear hs hu hv hkq hkm hq hqz
        go_wp2_with fail
        rw [HQZ.out]
        have s0 : wr.drew.cell? ⟨g, m, none⟩ = some (.int .i64 s.fr) ∧ wr.drew.cell? ⟨g, q, none⟩ = some (.int .i64 u.fr) ∧ w.grownBy wr.drew (some g) := ⟨kp (dr wr) c0, kp (dr wr) d0, grown_trans HW.out (Below.grow (dr wr) (some g))⟩
        clear c0 d0
        have HX0 := Lib.hid (HZ.out.below (dr wr)); have HY0 := Lib.hid (grown_trans HW.out (Below.grow (dr wr) (some g)))
        go_region_held3 (fun (W : World) => W.cell? ⟨g, m, none⟩ = some (.int .i64 s.fr) ∧ W.cell? ⟨g, q, none⟩ = some (.int .i64 u.fr) ∧ w.grownBy W (some g)) (first | exact s1 | exact s0) (first
          | (go_at_call 23; refine (HC.out _ s0.2.2).mono ?_; rintro e x1 ⟨rfl, hb1⟩; have s1 : x1.cell? ⟨g, m, none⟩ = some (.int .i64 s.fr) ∧ x1.cell? ⟨g, q, none⟩ = some (.int .i64 u.fr) ∧ w.grownBy x1 (some g) := ⟨kp hb1 s0.1, kp hb1 s0.2.1, grown_trans s0.2.2 (Below.grow hb1 (some g))⟩; have HX1 : Hid (RowI ok x1 g c X) := Lib.hid (HX0.out.below hb1); have HY1 : Hid (w.grownBy x1 (some g)) := Lib.hid (grown_trans HY0.out (Below.grow hb1 (some g))); clear hb1))
        go_wp2
        go_roundw
        case rel => exact ⟨q + 1, j, by omega, by omega, hjm, by go_num, rfl, Lib.hid HX1.out, Lib.hid HY1.out, Lib.hid ⟨Or.inr HB.out, HI.out.2⟩⟩
        case measure => simp [intOf]; omega
    · have hie : j = i := by omega
      have HI2 : Hid ((i = a ∨ atK X (i - 1) ≤ atK X m) ∧ (i = m ∨ atK X m < atK X i)) := by rw [hie] at HI; exact HI
      have him : i ≤ m := by omega
      clear hie
      go_wp2
      go_loopw [17] (fun vk wr => ∃ (k : Nat) (Z : List StepD), i ≤ k ∧ k ≤ m ∧ vk = .int .i64 k ∧ Hid (RowI ok wr g c Z) ∧ Hid (w.grownBy wr (some g)) ∧ Hid (Via (rotI k m (m + 1)) X Z)) (fun vk _ => (intOf vk).toNat)
      case atStart => exact ⟨m, X, him, Nat.le_refl _, rfl, HZ, HW, Lib.hid (rot_id (Or.inl rfl) (Nat.le_refl _) (by omega))⟩
      case round =>
        clear HZ HW
        obtain ⟨k, Z, hk1, hk2, rfl, HZ, HW, HV⟩ := hrel
        by_cases hki : i < k
        · obtain ⟨r, hr⟩ : ∃ r, k = r + 1 := ⟨k - 1, by omega⟩
          have hZl : Z.length = n := by rw [HV.out.1]; exact HN.out
          have hrn : r < n := by omega
          have hkn : k < n := by omega
          have w4 : IntKind.i64.wrap ((k : Int) - 1) = (r : Int) := by rw [IntWalk.i64_in _ (by omega)]; omega
          obtain ⟨s, hs, c0, os⟩ := HZ.out.lt (k := k) (by rw [hZl]; omega)
          obtain ⟨u, hu, d0, ou⟩ := HZ.out.lt (k := r) (by rw [hZl]; omega)
          have HU := Lib.hid (set_via hs hu); have OS := Lib.hid os; have OU := Lib.hid ou
          have HL1 : Hid (k < Z.length) := by show _ < _; rw [hZl]; omega
          have HL2 : Hid (∀ v, r < (Z.set k v).length) := fun v => by rw [List.length_set, hZl]; omega
          have HV2 : Hid (∀ Y, Via (swI k r 1) Z Y → Via (rotI r m (m + 1)) X Y) := fun Y hY => by
            have hXn := HN.out
            have hV := HV.out
            rw [hr] at hY hV
            exact (hV.trans hY fun q hq => sw_lt (by omega) (by omega) hq).congr fun q _ => dn_next (by omega)
          have HR := Lib.hid hr
          clear hs hu hr hZl
          go_wp2_with fail
          have s0 : wr.drew.cell? ⟨g, k, none⟩ = some (.int .i64 s.fr) ∧ wr.drew.cell? ⟨g, r, none⟩ = some (.int .i64 u.fr) := ⟨c0, d0⟩
          clear c0 d0
          have HZD := Lib.hid (HZ.out.below (dr wr))
          have HWD := Lib.hid (grown_trans HW.out (Below.grow (dr wr) (some g)))
          refine Ft.wp_region_R (fun _ => True) 18 (by kernel_rfl) ?_
          generalize wr.drew = W0 at s0 HZD HWD ⊢
          refine Ft.wpAnyR_leadI (by kernel_rfl) ?hQ trivial [0, 1, 2, 3, 4, 5, 6, 7, 8, 10, 11, 12] 6 _ _ (by kernel_rfl) ?_
          case hQ => intro c a d v w h; cases d <;> exact h
          iterate 12 (refine Ft.wpLeadI_read (v := ?_) _ rfl rfl (by rfl) ?_ ?_; rotate_left; (intro W hW; (try dsimp only at hW); go_simp; (try simp only [w4]); (try go_simp); (try with_reducible rfl)); try simp only [Act.put, List.setIfInBounds_toArray, List.set_cons_succ, List.set_cons_zero])
          simp only [Ft.wpLeadI]
          refine wpAnyR_weak (S := fun W => W = W0) (n := 14) _ _ _ _ ?_
          refine Ft.wpAnyR_leadI (S := fun W => W = W0) (by kernel_rfl) ?hQ2 (w := W0) rfl [9, 13] 4 _ _ (by kernel_rfl) ?_
          case hQ2 => intro c a d v w h; cases d <;> exact h
          iterate 2 (refine Ft.wpLeadI_read (v := ?_) _ rfl rfl (by rfl) ?_ ?_; rotate_left; (intro W hW; (try dsimp only at hW); rw [hW]; go_simp; (try simp only [w4]); (try go_simp); (try with_reducible rfl)); try simp only [Act.put, List.setIfInBounds_toArray, List.set_cons_succ, List.set_cons_zero])
          simp only [Ft.wpLeadI]
          refine Ft.wpAnyR_tail (n := 14) rfl (by kernel_rfl) ?_
          go_wp2_with (first
            | (refine wpList_puti rfl _ _ rfl g c _ r s r (by simp [Act.eval]) rfl (by simp [Act.eval]) H1.out OS.out (HL2.out u) ?_; intro W2 h2 g2; have H2 := Lib.hid h2; have G2 := Lib.hid (grown_trans G1.out g2); clear h2 g2)
            | (refine wpList_puti rfl _ _ rfl g c Z k u k (by simp [Act.eval]) rfl (by simp [Act.eval]) HZD.out OU.out HL1.out ?_; intro W1 h1 g1; have H1 := Lib.hid h1; have G1 := Lib.hid (grown_trans HWD.out g1); clear h1 g1))
          go_roundw
          case rel => have hr := HR.out; exact ⟨r, _, by omega, by omega, by go_num, H2, G2, Lib.hid (HV2.out _ HU.out)⟩
          case measure => have hr := HR.out; simp [intOf]; omega
        · have hke : k = i := by omega
          have HE : Hid (Mix a b X Z ∧ SrtOn Z a b) := by
            have hI2 := HI2.out
            have hV := HV.out
            rw [hke] at hV
            rw [← HM.out]
            have hXn := HN.out
            exact one_dn hai him (by omega) HS.out hI2.1 hI2.2 hV
          clear hke
          go_wp2
          refine bodyPost_ret (results_none rfl _ _ _) rfl ?_
          exact ⟨rfl, HW.out, Z, HZ.out, HE.out.1, HE.out.2⟩
end Go.Proofs.YtaiolhanbjndcaaDoor.Sri
namespace Go.Proofs.YtaiolhanbjndcaaDoor.Sri
open Go.RowKit Go.Shelf Go.Proofs.YtaiolhanbjndcaaDoor.Srt Go.Proofs.YtaiolhanbjndcaaDoor.Ft
set_option linter.unusedVariables false
set_option maxRecDepth 100000
def SymC (ok : StepD → Prop) (ub : Nat) (w0 : World) (g c n : Nat) (a m b : Nat) (X : List StepD) : Prop := ∀ w : World, RowI ok w g c X → w0.grownBy w (some g) →
    Calls Tryd.prog 54 #[.slice (some ⟨g, 0, none⟩) n c, .int .i64 a, .int .i64 m, .int .i64 b, .func (.func 23) #[] #[.pointer (some ⟨ub, 0, none⟩)]] w fun e w' => e = .returned (.tuple #[]) ∧ w.grownBy w' (some g) ∧ ∃ Y, RowI ok w' g c Y ∧ Mix a b X Y ∧ SrtOn Y a b
set_option maxHeartbeats 6400000 in
theorem symG_any (g c n a m b mid : Nat) (X : List StepD) (ok : StepD → Prop) (ub : Nat) (w0 : World) (hcc : CmpC ok ub w0 g) (hn : X.length = n) (hb : n ≤ 1000) (ham : a + 1 < m) (hmb : m + 1 < b) (hbn : b ≤ n) (hmid : mid = (a + b) / 2) (sa : SrtOn X a m) (sb : SrtOn X m b)
    (ih1 : ∀ (m' : Nat) (Y : List StepD), Y.length = n → a < m' → m' < mid → SrtOn Y a m' → SrtOn Y m' mid → SymC ok ub w0 g c n a m' mid Y)
    (ih2 : ∀ (m' : Nat) (Y : List StepD), Y.length = n → mid < m' → m' < b → SrtOn Y mid m' → SrtOn Y m' b → SymC ok ub w0 g c n mid m' b Y) : SymC ok ub w0 g c n a m b X := by
  intro w h hgw
  have HCC := Lib.hid hcc; have HGW := Lib.hid hgw
  have H := Lib.hid h; have HN := Lib.hid hn
  have HS : Hid (SrtOn X a m ∧ SrtOn X m b) := Lib.hid ⟨sa, sb⟩
  have HR := Lib.hid fun (st en : Nat) (h1 : st < m) (h2 : m < en) (h3 : en ≤ n) (W : World) (hz : RowI ok W g c X) => rot_any g c n st m en X ok hn hb h1 h2 h3 W hz (.func (.func 23) #[] #[.pointer (some ⟨ub, 0, none⟩)])
  have I1 := Lib.hid ih1; have I2 := Lib.hid ih2
  obtain ⟨d, hd⟩ : ∃ d, m - a = d := ⟨_, rfl⟩
  have e1 : IntKind.i64.wrap ((m : Int) - (a : Int)) = (d : Int) := by rw [IntWalk.i64_in _ (by omega)]; omega
  have e1n : ((d : Int) == 1) = false := by rw [beq_eq_false_iff_ne]; omega
  obtain ⟨d2, hd2⟩ : ∃ d, b - m = d := ⟨_, rfl⟩
  have e2 : IntKind.i64.wrap ((b : Int) - (m : Int)) = (d2 : Int) := by rw [IntWalk.i64_in _ (by omega)]; omega
  have e2n : ((d2 : Int) == 1) = false := by rw [beq_eq_false_iff_ne]; omega
  have w1 : IntKind.i64.wrap ((a : Int) + (b : Int)) = ((a + b : Nat) : Int) := by rw [IntWalk.i64_in _ (by omega)]; omega
  have hmz : ((a : Int) + (b : Int)) / 2 = (mid : Int) := by omega
  obtain ⟨N, hN⟩ : ∃ N, N = mid + m := ⟨_, rfl⟩
  obtain ⟨p, hp⟩ : ∃ p, p = mid + m - 1 := ⟨_, rfl⟩
  have w5 : IntKind.i64.wrap ((mid : Int) + (m : Int)) = (N : Int) := by rw [IntWalk.i64_in _ (by omega)]; omega
  have w7 : IntKind.i64.wrap ((N : Int) - 1) = (p : Int) := by rw [IntWalk.i64_in _ (by omega)]; omega
  have HE : Hid (N = mid + m ∧ p = mid + m - 1 ∧ mid = (a + b) / 2 ∧ a + 1 < m ∧ m + 1 < b ∧ b ≤ n ∧ n ≤ 1000) := Lib.hid ⟨hN, hp, hmid, ham, hmb, hbn, hb⟩
  obtain ⟨s0, hs0⟩ : ∃ s0, s0 = N - b := ⟨_, rfl⟩
  by_cases hgt : mid < m
  · have w6 : IntKind.i64.wrap ((N : Int) - (b : Int)) = (s0 : Int) := by rw [IntWalk.i64_in _ (by omega)]; omega
    have hgz : (mid : Int) < (m : Int) := by omega
    have HE2 : Hid (s0 = N - b ∧ mid < m) := Lib.hid ⟨hs0, hgt⟩
    clear hcc hgw h hn sa sb ih1 ih2 hd hd2 hmid hN hp hs0 hgt
    go_enter Tryd.func54, Tryd.ntmps54
    go_wp2_with fail
    go_loopw [20, 21] (fun vi vj wr => ∃ i j : Nat, s0 ≤ i ∧ i ≤ j ∧ j ≤ mid ∧ vi = .int .i64 i ∧ vj = .int .i64 j ∧ Hid (RowI ok wr g c X) ∧ Hid (w.grownBy wr (some g)) ∧ Hid ((i = s0 ∨ (s0 < i ∧ atK X (i - 1) ≤ atK X (p - (i - 1)))) ∧ (j = mid ∨ atK X (p - j) < atK X j))) (fun vi vj _ => (intOf vj).toNat - (intOf vi).toNat)
    case atStart =>
      have hE := HE.out; have hE2 := HE2.out
      exact ⟨s0, mid, Nat.le_refl _, by omega, Nat.le_refl _, rfl, rfl, H, Lib.hid (grown_refl _ _), Lib.hid ⟨Or.inl rfl, Or.inl rfl⟩⟩
    case round =>
      obtain ⟨i, j, hli, hij, hjh, rfl, rfl, HZ, HW, HI⟩ := hrel
      by_cases hlt : i < j
      · obtain ⟨q, hq⟩ : ∃ q : Nat, q = (i + j) / 2 := ⟨_, rfl⟩
        have hE := HE.out; have hE2 := HE2.out
        have hq1 : i ≤ q := by omega
        have hq2 : q < j := by omega
        obtain ⟨pc, hpc⟩ : ∃ pc, p - q = pc := ⟨_, rfl⟩
        have w11 : IntKind.i64.wrap ((i : Int) + (j : Int)) = ((i + j : Nat) : Int) := by rw [IntWalk.i64_in _ (by omega)]; omega
        have w12 : IntKind.i64.wrap ((p : Int) - (q : Int)) = (pc : Int) := by rw [IntWalk.i64_in _ (by omega)]; omega
        have hqz : ((i : Int) + (j : Int)) / 2 = (q : Int) := by omega
        obtain ⟨s, hs, c0, os⟩ := HZ.out.lt (k := pc) (by rw [HN.out]; omega)
        obtain ⟨u, hu, d0, ou⟩ := HZ.out.lt (k := q) (by rw [HN.out]; omega)
        obtain ⟨v, hv⟩ : ∃ v, cmpV s.at_ u.at_ = v := ⟨_, rfl⟩
        have HC := Lib.hid fun (W : World) (hW : w.grownBy W (some g)) => HCC.out W s u (grown_trans HGW.out hW) os ou
        rw [hv] at HC
        have hqn : q < n := by omega
        have hpn : pc < n := by omega
        have hjn : j ≤ n := by omega
        have hkp := atK_of hs; have hkq := atK_of hu
        have HQZ := Lib.hid hqz
        by_cases hlv : v < 0
        · have HB : Hid (atK X (p - q) < atK X q) := by show _ < _; rw [hpc, hkq, hkp]; exact cmpV_neg.1 (by rw [hv]; exact hlv)
          clear hs hu hv hkq hkp hq hpc hE hE2
          go_wp2_with fail
          have s0 : wr.drew.cell? ⟨g, pc, none⟩ = some (.int .i64 s.fr) ∧ wr.drew.cell? ⟨g, q, none⟩ = some (.int .i64 u.fr) ∧ w.grownBy wr.drew (some g) := ⟨kp (dr wr) c0, kp (dr wr) d0, grown_trans HW.out (Below.grow (dr wr) (some g))⟩
          clear c0 d0
          have HX0 := Lib.hid (HZ.out.below (dr wr)); have HY0 := Lib.hid (grown_trans HW.out (Below.grow (dr wr) (some g)))
          go_region_held3 (fun (W : World) => W.cell? ⟨g, pc, none⟩ = some (.int .i64 s.fr) ∧ W.cell? ⟨g, q, none⟩ = some (.int .i64 u.fr) ∧ w.grownBy W (some g)) (first | exact s1 | exact s0) (first
            | (go_at_call 23; refine (HC.out _ s0.2.2).mono ?_; rintro e x1 ⟨rfl, hb1⟩; have s1 : x1.cell? ⟨g, pc, none⟩ = some (.int .i64 s.fr) ∧ x1.cell? ⟨g, q, none⟩ = some (.int .i64 u.fr) ∧ w.grownBy x1 (some g) := ⟨kp hb1 s0.1, kp hb1 s0.2.1, grown_trans s0.2.2 (Below.grow hb1 (some g))⟩; have HX1 : Hid (RowI ok x1 g c X) := Lib.hid (HX0.out.below hb1); have HY1 : Hid (w.grownBy x1 (some g)) := Lib.hid (grown_trans HY0.out (Below.grow hb1 (some g))); clear hb1))
          go_wp2
          go_roundw
          case rel => exact ⟨i, q, by omega, by omega, by omega, rfl, rfl, Lib.hid HX1.out, Lib.hid HY1.out, Lib.hid ⟨HI.out.1, Or.inr HB.out⟩⟩
          case measure => simp [intOf]; omega
        · have HB : Hid (atK X (q + 1 - 1) ≤ atK X (p - (q + 1 - 1))) := by
            show _ ≤ _
            rw [Nat.add_sub_cancel, hpc, hkq, hkp]
            have hns : ¬ s.at_ < u.at_ := fun h => hlv (by rw [← hv]; exact cmpV_neg.2 h)
            omega
          have hld : (!decide (v < 0)) = true := by simp; omega
          have w13 : IntKind.i64.wrap ((q : Int) + 1) = ((q + 1 : Nat) : Int) := by rw [IntWalk.i64_in _ (by omega)]; omega
          clear hs hu hv hkq hkp hq hpc hE hE2
          go_wp2_with fail
          have s0 : wr.drew.cell? ⟨g, pc, none⟩ = some (.int .i64 s.fr) ∧ wr.drew.cell? ⟨g, q, none⟩ = some (.int .i64 u.fr) ∧ w.grownBy wr.drew (some g) := ⟨kp (dr wr) c0, kp (dr wr) d0, grown_trans HW.out (Below.grow (dr wr) (some g))⟩
          clear c0 d0
          have HX0 := Lib.hid (HZ.out.below (dr wr)); have HY0 := Lib.hid (grown_trans HW.out (Below.grow (dr wr) (some g)))
          go_region_held3 (fun (W : World) => W.cell? ⟨g, pc, none⟩ = some (.int .i64 s.fr) ∧ W.cell? ⟨g, q, none⟩ = some (.int .i64 u.fr) ∧ w.grownBy W (some g)) (first | exact s1 | exact s0) (first
            | (go_at_call 23; refine (HC.out _ s0.2.2).mono ?_; rintro e x1 ⟨rfl, hb1⟩; have s1 : x1.cell? ⟨g, pc, none⟩ = some (.int .i64 s.fr) ∧ x1.cell? ⟨g, q, none⟩ = some (.int .i64 u.fr) ∧ w.grownBy x1 (some g) := ⟨kp hb1 s0.1, kp hb1 s0.2.1, grown_trans s0.2.2 (Below.grow hb1 (some g))⟩; have HX1 : Hid (RowI ok x1 g c X) := Lib.hid (HX0.out.below hb1); have HY1 : Hid (w.grownBy x1 (some g)) := Lib.hid (grown_trans HY0.out (Below.grow hb1 (some g))); clear hb1))
          go_wp2
          go_roundw
          case rel => exact ⟨q + 1, j, by omega, by omega, hjh, by go_num, rfl, Lib.hid HX1.out, Lib.hid HY1.out, Lib.hid ⟨Or.inr ⟨by omega, HB.out⟩, HI.out.2⟩⟩
          case measure => simp [intOf]; omega
      · have hie : j = i := by omega
        have hih : i ≤ mid := by omega
        obtain ⟨en, hen⟩ : ∃ en, N - i = en := ⟨_, rfl⟩
        have hE := HE.out; have hE2 := HE2.out
        have CU : Hid (Cut X a m b i en mid) := by
          have hI := HI.out
          rw [hie] at hI
          refine ⟨by omega, by omega, by omega, by omega, by omega, by omega, by omega, ?_, ?_⟩
          · rcases hI.1 with e | ⟨e0, e⟩
            · right; left; omega
            · right; right; rw [show p - (i - 1) = en from by omega] at e; exact e
          · rcases hI.2 with e | e
            · right; left; omega
            · right; right; rw [show p - i = en - 1 from by omega] at e; exact e
        have w8 : IntKind.i64.wrap ((N : Int) - (i : Int)) = (en : Int) := by rw [IntWalk.i64_in _ (by omega)]; omega
        have hie1 : i ≤ m := CU.out.le2
        have hen1 : m ≤ en := CU.out.le3
        have hen2 : en ≤ b := CU.out.le4
        have hli2 : a ≤ i := CU.out.le1
        have him2 : i ≤ mid := CU.out.le5
        have hme2 : mid ≤ en := CU.out.le6
        have hmb2 : mid < b := by omega
        have ham2 : a < mid := by omega
        have HSUM := Lib.hid CU.out.sum
        clear hie hen hE hE2
        by_cases r1 : i < m ∧ m < en
        · obtain ⟨r1a, r1b⟩ := r1
          go_wp2_with fail
          all_goals first
            | (exfalso; omega)
            | skip
          all_goals
            refine (HR.out i en (by omega) (by omega) (by omega) _ HZ.out).mono ?_
            rintro e w1 ⟨rfl, g1, Y, hY, vY⟩
            have HY := Lib.hid hY; have G1 := Lib.hid (grown_trans HW.out g1)
            have C2 := Lib.hid (CU.out.rot (by rw [HN.out]; omega) HS.out.1 HS.out.2 vY)
            clear hY g1 vY
            by_cases l1 : a < i ∧ i < mid
            · obtain ⟨l1a, l1b⟩ := l1
              go_wp2_with fail
              all_goals first
                | (exfalso; omega)
                | skip
              all_goals
                refine (I1.out i _ (by rw [C2.out.mix.len]; exact HN.out) (by omega) (by omega) C2.out.s1 C2.out.s2 _ HY.out (grown_trans HGW.out G1.out)).mono ?_
                rintro e w2 ⟨rfl, g2, U, hU, m2, s2⟩
                have HU := Lib.hid hU; have G2 := Lib.hid (grown_trans G1.out g2); have M1 := Lib.hid m2; have S1 := Lib.hid s2
                clear hU g2 m2 s2
                by_cases q1 : mid < en ∧ en < b
                · obtain ⟨q1a, q1b⟩ := q1
                  go_wp2_with fail
                  all_goals first
                    | (exfalso; omega)
                    | skip
                  all_goals
                    refine (I2.out en _ (by rw [M1.out.len, C2.out.mix.len]; exact HN.out) (by omega) (by omega) (M1.out.srtOut C2.out.s3 (Or.inr (Nat.le_refl _))) (M1.out.srtOut C2.out.s4 (Or.inr (by omega))) _ HU.out (grown_trans HGW.out G2.out)).mono ?_
                    rintro e w3 ⟨rfl, g3, Z3, hZ3, m3, s3⟩
                    have HZ3 := Lib.hid hZ3; have G3 := Lib.hid (grown_trans G2.out g3)
                    have HF := Lib.hid (C2.out.done (by omega) (by omega) M1.out m3 S1.out s3)
                    clear hZ3 g3 m3 s3
                    go_wp2
                    all_goals first
                      | (exfalso; omega)
                      | (go_end0; exact ⟨rfl, G3.out, _, HZ3.out, HF.out.1, HF.out.2⟩)
                · have HF := Lib.hid (C2.out.done (by omega) (by omega) M1.out (Mix.refl mid b _) S1.out (C2.out.right M1.out (by omega)))
                  go_wp2
                  all_goals first
                    | (exfalso; omega)
                    | (go_end0; exact ⟨rfl, G2.out, _, HU.out, HF.out.1, HF.out.2⟩)
            · have HU := HY; have G2 := G1
              have M1 := Lib.hid (Mix.refl a mid Y)
              have S1 := Lib.hid (C2.out.left (by omega))
              by_cases q1 : mid < en ∧ en < b
              · obtain ⟨q1a, q1b⟩ := q1
                go_wp2_with fail
                all_goals first
                  | (exfalso; omega)
                  | skip
                all_goals
                  refine (I2.out en _ (by rw [M1.out.len, C2.out.mix.len]; exact HN.out) (by omega) (by omega) (M1.out.srtOut C2.out.s3 (Or.inr (Nat.le_refl _))) (M1.out.srtOut C2.out.s4 (Or.inr (by omega))) _ HU.out (grown_trans HGW.out G2.out)).mono ?_
                  rintro e w3 ⟨rfl, g3, Z3, hZ3, m3, s3⟩
                  have HZ3 := Lib.hid hZ3; have G3 := Lib.hid (grown_trans G2.out g3)
                  have HF := Lib.hid (C2.out.done (by omega) (by omega) M1.out m3 S1.out s3)
                  clear hZ3 g3 m3 s3
                  go_wp2
                  all_goals first
                    | (exfalso; omega)
                    | (go_end0; exact ⟨rfl, G3.out, _, HZ3.out, HF.out.1, HF.out.2⟩)
              · have HF := Lib.hid (C2.out.done (by omega) (by omega) M1.out (Mix.refl mid b _) S1.out (C2.out.right M1.out (by omega)))
                go_wp2
                all_goals first
                  | (exfalso; omega)
                  | (go_end0; exact ⟨rfl, G2.out, _, HU.out, HF.out.1, HF.out.2⟩)
        · have HY := HZ; have G1 := HW
          have C2 := Lib.hid (CU.out.rot (by rw [HN.out]; omega) HS.out.1 HS.out.2 (rot_id (by omega) (by omega) (by omega)))
          by_cases l1 : a < i ∧ i < mid
          · obtain ⟨l1a, l1b⟩ := l1
            go_wp2_with fail
            all_goals first
              | (exfalso; omega)
              | skip
            all_goals
              refine (I1.out i _ (by rw [C2.out.mix.len]; exact HN.out) (by omega) (by omega) C2.out.s1 C2.out.s2 _ HY.out (grown_trans HGW.out G1.out)).mono ?_
              rintro e w2 ⟨rfl, g2, U, hU, m2, s2⟩
              have HU := Lib.hid hU; have G2 := Lib.hid (grown_trans G1.out g2); have M1 := Lib.hid m2; have S1 := Lib.hid s2
              clear hU g2 m2 s2
              by_cases q1 : mid < en ∧ en < b
              · obtain ⟨q1a, q1b⟩ := q1
                go_wp2_with fail
                all_goals first
                  | (exfalso; omega)
                  | skip
                all_goals
                  refine (I2.out en _ (by rw [M1.out.len, C2.out.mix.len]; exact HN.out) (by omega) (by omega) (M1.out.srtOut C2.out.s3 (Or.inr (Nat.le_refl _))) (M1.out.srtOut C2.out.s4 (Or.inr (by omega))) _ HU.out (grown_trans HGW.out G2.out)).mono ?_
                  rintro e w3 ⟨rfl, g3, Z3, hZ3, m3, s3⟩
                  have HZ3 := Lib.hid hZ3; have G3 := Lib.hid (grown_trans G2.out g3)
                  have HF := Lib.hid (C2.out.done (by omega) (by omega) M1.out m3 S1.out s3)
                  clear hZ3 g3 m3 s3
                  go_wp2
                  all_goals first
                    | (exfalso; omega)
                    | (go_end0; exact ⟨rfl, G3.out, _, HZ3.out, HF.out.1, HF.out.2⟩)
              · have HF := Lib.hid (C2.out.done (by omega) (by omega) M1.out (Mix.refl mid b _) S1.out (C2.out.right M1.out (by omega)))
                go_wp2
                all_goals first
                  | (exfalso; omega)
                  | (go_end0; exact ⟨rfl, G2.out, _, HU.out, HF.out.1, HF.out.2⟩)
          · have HU := HY; have G2 := G1
            have M1 := Lib.hid (Mix.refl a mid X)
            have S1 := Lib.hid (C2.out.left (by omega))
            by_cases q1 : mid < en ∧ en < b
            · obtain ⟨q1a, q1b⟩ := q1
              go_wp2_with fail
              all_goals first
                | (exfalso; omega)
                | skip
              all_goals
                refine (I2.out en _ (by rw [M1.out.len, C2.out.mix.len]; exact HN.out) (by omega) (by omega) (M1.out.srtOut C2.out.s3 (Or.inr (Nat.le_refl _))) (M1.out.srtOut C2.out.s4 (Or.inr (by omega))) _ HU.out (grown_trans HGW.out G2.out)).mono ?_
                rintro e w3 ⟨rfl, g3, Z3, hZ3, m3, s3⟩
                have HZ3 := Lib.hid hZ3; have G3 := Lib.hid (grown_trans G2.out g3)
                have HF := Lib.hid (C2.out.done (by omega) (by omega) M1.out m3 S1.out s3)
                clear hZ3 g3 m3 s3
                go_wp2
                all_goals first
                  | (exfalso; omega)
                  | (go_end0; exact ⟨rfl, G3.out, _, HZ3.out, HF.out.1, HF.out.2⟩)
            · have HF := Lib.hid (C2.out.done (by omega) (by omega) M1.out (Mix.refl mid b _) S1.out (C2.out.right M1.out (by omega)))
              go_wp2
              all_goals first
                | (exfalso; omega)
                | (go_end0; exact ⟨rfl, G2.out, _, HU.out, HF.out.1, HF.out.2⟩)
  · have hgz : ¬ (mid : Int) < (m : Int) := by omega
    have HE2 : Hid (m ≤ mid) := Lib.hid (by omega)
    clear hcc hgw h hn sa sb ih1 ih2 hd hd2 hmid hN hp hs0 hgt
    go_enter Tryd.func54, Tryd.ntmps54
    go_wp2_with fail
    go_loopw [20, 21] (fun vi vj wr => ∃ i j : Nat, a ≤ i ∧ i ≤ j ∧ j ≤ m ∧ vi = .int .i64 i ∧ vj = .int .i64 j ∧ Hid (RowI ok wr g c X) ∧ Hid (w.grownBy wr (some g)) ∧ Hid ((i = a ∨ (a < i ∧ atK X (i - 1) ≤ atK X (p - (i - 1)))) ∧ (j = m ∨ atK X (p - j) < atK X j))) (fun vi vj _ => (intOf vj).toNat - (intOf vi).toNat)
    case atStart =>
      have hE := HE.out; have hE2 := HE2.out
      exact ⟨a, m, Nat.le_refl _, by omega, Nat.le_refl _, rfl, rfl, H, Lib.hid (grown_refl _ _), Lib.hid ⟨Or.inl rfl, Or.inl rfl⟩⟩
    case round =>
      obtain ⟨i, j, hli, hij, hjh, rfl, rfl, HZ, HW, HI⟩ := hrel
      by_cases hlt : i < j
      · obtain ⟨q, hq⟩ : ∃ q : Nat, q = (i + j) / 2 := ⟨_, rfl⟩
        have hE := HE.out; have hE2 := HE2.out
        have hq1 : i ≤ q := by omega
        have hq2 : q < j := by omega
        obtain ⟨pc, hpc⟩ : ∃ pc, p - q = pc := ⟨_, rfl⟩
        have w11 : IntKind.i64.wrap ((i : Int) + (j : Int)) = ((i + j : Nat) : Int) := by rw [IntWalk.i64_in _ (by omega)]; omega
        have w12 : IntKind.i64.wrap ((p : Int) - (q : Int)) = (pc : Int) := by rw [IntWalk.i64_in _ (by omega)]; omega
        have hqz : ((i : Int) + (j : Int)) / 2 = (q : Int) := by omega
        obtain ⟨s, hs, c0, os⟩ := HZ.out.lt (k := pc) (by rw [HN.out]; omega)
        obtain ⟨u, hu, d0, ou⟩ := HZ.out.lt (k := q) (by rw [HN.out]; omega)
        obtain ⟨v, hv⟩ : ∃ v, cmpV s.at_ u.at_ = v := ⟨_, rfl⟩
        have HC := Lib.hid fun (W : World) (hW : w.grownBy W (some g)) => HCC.out W s u (grown_trans HGW.out hW) os ou
        rw [hv] at HC
        have hqn : q < n := by omega
        have hpn : pc < n := by omega
        have hjn : j ≤ n := by omega
        have hkp := atK_of hs; have hkq := atK_of hu
        have HQZ := Lib.hid hqz
        by_cases hlv : v < 0
        · have HB : Hid (atK X (p - q) < atK X q) := by show _ < _; rw [hpc, hkq, hkp]; exact cmpV_neg.1 (by rw [hv]; exact hlv)
          clear hs hu hv hkq hkp hq hpc hE hE2
          go_wp2_with fail
          have s0 : wr.drew.cell? ⟨g, pc, none⟩ = some (.int .i64 s.fr) ∧ wr.drew.cell? ⟨g, q, none⟩ = some (.int .i64 u.fr) ∧ w.grownBy wr.drew (some g) := ⟨kp (dr wr) c0, kp (dr wr) d0, grown_trans HW.out (Below.grow (dr wr) (some g))⟩
          clear c0 d0
          have HX0 := Lib.hid (HZ.out.below (dr wr)); have HY0 := Lib.hid (grown_trans HW.out (Below.grow (dr wr) (some g)))
          go_region_held3 (fun (W : World) => W.cell? ⟨g, pc, none⟩ = some (.int .i64 s.fr) ∧ W.cell? ⟨g, q, none⟩ = some (.int .i64 u.fr) ∧ w.grownBy W (some g)) (first | exact s1 | exact s0) (first
            | (go_at_call 23; refine (HC.out _ s0.2.2).mono ?_; rintro e x1 ⟨rfl, hb1⟩; have s1 : x1.cell? ⟨g, pc, none⟩ = some (.int .i64 s.fr) ∧ x1.cell? ⟨g, q, none⟩ = some (.int .i64 u.fr) ∧ w.grownBy x1 (some g) := ⟨kp hb1 s0.1, kp hb1 s0.2.1, grown_trans s0.2.2 (Below.grow hb1 (some g))⟩; have HX1 : Hid (RowI ok x1 g c X) := Lib.hid (HX0.out.below hb1); have HY1 : Hid (w.grownBy x1 (some g)) := Lib.hid (grown_trans HY0.out (Below.grow hb1 (some g))); clear hb1))
          go_wp2
          go_roundw
          case rel => exact ⟨i, q, by omega, by omega, by omega, rfl, rfl, Lib.hid HX1.out, Lib.hid HY1.out, Lib.hid ⟨HI.out.1, Or.inr HB.out⟩⟩
          case measure => simp [intOf]; omega
        · have HB : Hid (atK X (q + 1 - 1) ≤ atK X (p - (q + 1 - 1))) := by
            show _ ≤ _
            rw [Nat.add_sub_cancel, hpc, hkq, hkp]
            have hns : ¬ s.at_ < u.at_ := fun h => hlv (by rw [← hv]; exact cmpV_neg.2 h)
            omega
          have hld : (!decide (v < 0)) = true := by simp; omega
          have w13 : IntKind.i64.wrap ((q : Int) + 1) = ((q + 1 : Nat) : Int) := by rw [IntWalk.i64_in _ (by omega)]; omega
          clear hs hu hv hkq hkp hq hpc hE hE2
          go_wp2_with fail
          have s0 : wr.drew.cell? ⟨g, pc, none⟩ = some (.int .i64 s.fr) ∧ wr.drew.cell? ⟨g, q, none⟩ = some (.int .i64 u.fr) ∧ w.grownBy wr.drew (some g) := ⟨kp (dr wr) c0, kp (dr wr) d0, grown_trans HW.out (Below.grow (dr wr) (some g))⟩
          clear c0 d0
          have HX0 := Lib.hid (HZ.out.below (dr wr)); have HY0 := Lib.hid (grown_trans HW.out (Below.grow (dr wr) (some g)))
          go_region_held3 (fun (W : World) => W.cell? ⟨g, pc, none⟩ = some (.int .i64 s.fr) ∧ W.cell? ⟨g, q, none⟩ = some (.int .i64 u.fr) ∧ w.grownBy W (some g)) (first | exact s1 | exact s0) (first
            | (go_at_call 23; refine (HC.out _ s0.2.2).mono ?_; rintro e x1 ⟨rfl, hb1⟩; have s1 : x1.cell? ⟨g, pc, none⟩ = some (.int .i64 s.fr) ∧ x1.cell? ⟨g, q, none⟩ = some (.int .i64 u.fr) ∧ w.grownBy x1 (some g) := ⟨kp hb1 s0.1, kp hb1 s0.2.1, grown_trans s0.2.2 (Below.grow hb1 (some g))⟩; have HX1 : Hid (RowI ok x1 g c X) := Lib.hid (HX0.out.below hb1); have HY1 : Hid (w.grownBy x1 (some g)) := Lib.hid (grown_trans HY0.out (Below.grow hb1 (some g))); clear hb1))
          go_wp2
          go_roundw
          case rel => exact ⟨q + 1, j, by omega, by omega, hjh, by go_num, rfl, Lib.hid HX1.out, Lib.hid HY1.out, Lib.hid ⟨Or.inr ⟨by omega, HB.out⟩, HI.out.2⟩⟩
          case measure => simp [intOf]; omega
      · have hie : j = i := by omega
        have hih : i ≤ m := by omega
        obtain ⟨en, hen⟩ : ∃ en, N - i = en := ⟨_, rfl⟩
        have hE := HE.out; have hE2 := HE2.out
        have CU : Hid (Cut X a m b i en mid) := by
          have hI := HI.out
          rw [hie] at hI
          refine ⟨by omega, by omega, by omega, by omega, by omega, by omega, by omega, ?_, ?_⟩
          · rcases hI.1 with e | ⟨e0, e⟩
            · left; exact e
            · right; right; rw [show p - (i - 1) = en from by omega] at e; exact e
          · rcases hI.2 with e | e
            · left; exact e
            · right; right; rw [show p - i = en - 1 from by omega] at e; exact e
        have w8 : IntKind.i64.wrap ((N : Int) - (i : Int)) = (en : Int) := by rw [IntWalk.i64_in _ (by omega)]; omega
        have hie1 : i ≤ m := CU.out.le2
        have hen1 : m ≤ en := CU.out.le3
        have hen2 : en ≤ b := CU.out.le4
        have hli2 : a ≤ i := CU.out.le1
        have him2 : i ≤ mid := CU.out.le5
        have hme2 : mid ≤ en := CU.out.le6
        have hmb2 : mid < b := by omega
        have ham2 : a < mid := by omega
        have HSUM := Lib.hid CU.out.sum
        clear hie hen hE hE2
        by_cases r1 : i < m ∧ m < en
        · obtain ⟨r1a, r1b⟩ := r1
          go_wp2_with fail
          all_goals first
            | (exfalso; omega)
            | skip
          all_goals
            refine (HR.out i en (by omega) (by omega) (by omega) _ HZ.out).mono ?_
            rintro e w1 ⟨rfl, g1, Y, hY, vY⟩
            have HY := Lib.hid hY; have G1 := Lib.hid (grown_trans HW.out g1)
            have C2 := Lib.hid (CU.out.rot (by rw [HN.out]; omega) HS.out.1 HS.out.2 vY)
            clear hY g1 vY
            by_cases l1 : a < i ∧ i < mid
            · obtain ⟨l1a, l1b⟩ := l1
              go_wp2_with fail
              all_goals first
                | (exfalso; omega)
                | skip
              all_goals
                refine (I1.out i _ (by rw [C2.out.mix.len]; exact HN.out) (by omega) (by omega) C2.out.s1 C2.out.s2 _ HY.out (grown_trans HGW.out G1.out)).mono ?_
                rintro e w2 ⟨rfl, g2, U, hU, m2, s2⟩
                have HU := Lib.hid hU; have G2 := Lib.hid (grown_trans G1.out g2); have M1 := Lib.hid m2; have S1 := Lib.hid s2
                clear hU g2 m2 s2
                by_cases q1 : mid < en ∧ en < b
                · obtain ⟨q1a, q1b⟩ := q1
                  go_wp2_with fail
                  all_goals first
                    | (exfalso; omega)
                    | skip
                  all_goals
                    refine (I2.out en _ (by rw [M1.out.len, C2.out.mix.len]; exact HN.out) (by omega) (by omega) (M1.out.srtOut C2.out.s3 (Or.inr (Nat.le_refl _))) (M1.out.srtOut C2.out.s4 (Or.inr (by omega))) _ HU.out (grown_trans HGW.out G2.out)).mono ?_
                    rintro e w3 ⟨rfl, g3, Z3, hZ3, m3, s3⟩
                    have HZ3 := Lib.hid hZ3; have G3 := Lib.hid (grown_trans G2.out g3)
                    have HF := Lib.hid (C2.out.done (by omega) (by omega) M1.out m3 S1.out s3)
                    clear hZ3 g3 m3 s3
                    go_wp2
                    all_goals first
                      | (exfalso; omega)
                      | (go_end0; exact ⟨rfl, G3.out, _, HZ3.out, HF.out.1, HF.out.2⟩)
                · have HF := Lib.hid (C2.out.done (by omega) (by omega) M1.out (Mix.refl mid b _) S1.out (C2.out.right M1.out (by omega)))
                  go_wp2
                  all_goals first
                    | (exfalso; omega)
                    | (go_end0; exact ⟨rfl, G2.out, _, HU.out, HF.out.1, HF.out.2⟩)
            · have HU := HY; have G2 := G1
              have M1 := Lib.hid (Mix.refl a mid Y)
              have S1 := Lib.hid (C2.out.left (by omega))
              by_cases q1 : mid < en ∧ en < b
              · obtain ⟨q1a, q1b⟩ := q1
                go_wp2_with fail
                all_goals first
                  | (exfalso; omega)
                  | skip
                all_goals
                  refine (I2.out en _ (by rw [M1.out.len, C2.out.mix.len]; exact HN.out) (by omega) (by omega) (M1.out.srtOut C2.out.s3 (Or.inr (Nat.le_refl _))) (M1.out.srtOut C2.out.s4 (Or.inr (by omega))) _ HU.out (grown_trans HGW.out G2.out)).mono ?_
                  rintro e w3 ⟨rfl, g3, Z3, hZ3, m3, s3⟩
                  have HZ3 := Lib.hid hZ3; have G3 := Lib.hid (grown_trans G2.out g3)
                  have HF := Lib.hid (C2.out.done (by omega) (by omega) M1.out m3 S1.out s3)
                  clear hZ3 g3 m3 s3
                  go_wp2
                  all_goals first
                    | (exfalso; omega)
                    | (go_end0; exact ⟨rfl, G3.out, _, HZ3.out, HF.out.1, HF.out.2⟩)
              · have HF := Lib.hid (C2.out.done (by omega) (by omega) M1.out (Mix.refl mid b _) S1.out (C2.out.right M1.out (by omega)))
                go_wp2
                all_goals first
                  | (exfalso; omega)
                  | (go_end0; exact ⟨rfl, G2.out, _, HU.out, HF.out.1, HF.out.2⟩)
        · have HY := HZ; have G1 := HW
          have C2 := Lib.hid (CU.out.rot (by rw [HN.out]; omega) HS.out.1 HS.out.2 (rot_id (by omega) (by omega) (by omega)))
          by_cases l1 : a < i ∧ i < mid
          · obtain ⟨l1a, l1b⟩ := l1
            go_wp2_with fail
            all_goals first
              | (exfalso; omega)
              | skip
            all_goals
              refine (I1.out i _ (by rw [C2.out.mix.len]; exact HN.out) (by omega) (by omega) C2.out.s1 C2.out.s2 _ HY.out (grown_trans HGW.out G1.out)).mono ?_
              rintro e w2 ⟨rfl, g2, U, hU, m2, s2⟩
              have HU := Lib.hid hU; have G2 := Lib.hid (grown_trans G1.out g2); have M1 := Lib.hid m2; have S1 := Lib.hid s2
              clear hU g2 m2 s2
              by_cases q1 : mid < en ∧ en < b
              · obtain ⟨q1a, q1b⟩ := q1
                go_wp2_with fail
                all_goals first
                  | (exfalso; omega)
                  | skip
                all_goals
                  refine (I2.out en _ (by rw [M1.out.len, C2.out.mix.len]; exact HN.out) (by omega) (by omega) (M1.out.srtOut C2.out.s3 (Or.inr (Nat.le_refl _))) (M1.out.srtOut C2.out.s4 (Or.inr (by omega))) _ HU.out (grown_trans HGW.out G2.out)).mono ?_
                  rintro e w3 ⟨rfl, g3, Z3, hZ3, m3, s3⟩
                  have HZ3 := Lib.hid hZ3; have G3 := Lib.hid (grown_trans G2.out g3)
                  have HF := Lib.hid (C2.out.done (by omega) (by omega) M1.out m3 S1.out s3)
                  clear hZ3 g3 m3 s3
                  go_wp2
                  all_goals first
                    | (exfalso; omega)
                    | (go_end0; exact ⟨rfl, G3.out, _, HZ3.out, HF.out.1, HF.out.2⟩)
              · have HF := Lib.hid (C2.out.done (by omega) (by omega) M1.out (Mix.refl mid b _) S1.out (C2.out.right M1.out (by omega)))
                go_wp2
                all_goals first
                  | (exfalso; omega)
                  | (go_end0; exact ⟨rfl, G2.out, _, HU.out, HF.out.1, HF.out.2⟩)
          · have HU := HY; have G2 := G1
            have M1 := Lib.hid (Mix.refl a mid X)
            have S1 := Lib.hid (C2.out.left (by omega))
            by_cases q1 : mid < en ∧ en < b
            · obtain ⟨q1a, q1b⟩ := q1
              go_wp2_with fail
              all_goals first
                | (exfalso; omega)
                | skip
              all_goals
                refine (I2.out en _ (by rw [M1.out.len, C2.out.mix.len]; exact HN.out) (by omega) (by omega) (M1.out.srtOut C2.out.s3 (Or.inr (Nat.le_refl _))) (M1.out.srtOut C2.out.s4 (Or.inr (by omega))) _ HU.out (grown_trans HGW.out G2.out)).mono ?_
                rintro e w3 ⟨rfl, g3, Z3, hZ3, m3, s3⟩
                have HZ3 := Lib.hid hZ3; have G3 := Lib.hid (grown_trans G2.out g3)
                have HF := Lib.hid (C2.out.done (by omega) (by omega) M1.out m3 S1.out s3)
                clear hZ3 g3 m3 s3
                go_wp2
                all_goals first
                  | (exfalso; omega)
                  | (go_end0; exact ⟨rfl, G3.out, _, HZ3.out, HF.out.1, HF.out.2⟩)
            · have HF := Lib.hid (C2.out.done (by omega) (by omega) M1.out (Mix.refl mid b _) S1.out (C2.out.right M1.out (by omega)))
              go_wp2
              all_goals first
                | (exfalso; omega)
                | (go_end0; exact ⟨rfl, G2.out, _, HU.out, HF.out.1, HF.out.2⟩)
end Go.Proofs.YtaiolhanbjndcaaDoor.Sri

