/- slices' symMerge, of steps, in full. -/
import Derived.Test.YtapojmniokdjfaaTidSymA
import Derived.Test.YtapojmniokdjfaaTidSymB
namespace Go.Proofs.Ytapojmniokdjfaa.Stp
open Go.RowKit Go.Shelf Go.Proofs.Ytapojmniokdjfaa.Srt Go.Proofs.Ytapojmniokdjfaa.Ft
set_option linter.unusedVariables false
set_option maxRecDepth 100000
def SymC (g c n : Nat) (a m b : Nat) (X : List StepD) : Prop := ∀ w : World, RowS w g c X →
    Calls Try.prog 91 #[.slice (some ⟨g, 0, none⟩) n c, .int .i64 a, .int .i64 m, .int .i64 b, .func (.func 57) #[] #[]] w fun e w' => e = .returned (.tuple #[]) ∧ w.grownBy w' (some g) ∧ ∃ Y, RowS w' g c Y ∧ Mix a b X Y ∧ SrtOn Y a b
set_option maxHeartbeats 6400000 in
theorem symG_any (g c n a m b mid : Nat) (X : List StepD) (hn : X.length = n) (hb : n ≤ 1000) (ham : a + 1 < m) (hmb : m + 1 < b) (hbn : b ≤ n) (hmid : mid = (a + b) / 2) (sa : SrtOn X a m) (sb : SrtOn X m b)
    (ih1 : ∀ (m' : Nat) (Y : List StepD), Y.length = n → a < m' → m' < mid → SrtOn Y a m' → SrtOn Y m' mid → SymC g c n a m' mid Y)
    (ih2 : ∀ (m' : Nat) (Y : List StepD), Y.length = n → mid < m' → m' < b → SrtOn Y mid m' → SrtOn Y m' b → SymC g c n mid m' b Y) : SymC g c n a m b X := by
  intro w h
  have H := Lib.hid h; have HN := Lib.hid hn
  have HS : Hid (SrtOn X a m ∧ SrtOn X m b) := Lib.hid ⟨sa, sb⟩
  have HR := Lib.hid fun (st en : Nat) (h1 : st < m) (h2 : m < en) (h3 : en ≤ n) (W : World) (hz : RowS W g c X) => rot_any g c n st m en X hn hb h1 h2 h3 W hz (.func (.func 57) #[] #[])
  have I1 := Lib.hid ih1; have I2 := Lib.hid ih2
  obtain ⟨d, hd⟩ : ∃ d, m - a = d := ⟨_, rfl⟩
  have e1 : IntKind.i64.wrap ((m : Int) - (a : Int)) = (d : Int) := by rw [IntWalk.i64_in _ (by omega)]; omega
  have e1n : ((d : Int) == 1) = false := by rw [beq_eq_false_iff_ne]; omega
  obtain ⟨d2, hd2⟩ : ∃ d, b - m = d := ⟨_, rfl⟩
  have e2 : IntKind.i64.wrap ((b : Int) - (m : Int)) = (d2 : Int) := by rw [IntWalk.i64_in _ (by omega)]; omega
  have e2n : ((d2 : Int) == 1) = false := by rw [beq_eq_false_iff_ne]; omega
  have w1 : IntKind.i64.wrap ((a : Int) + (b : Int)) = ((a + b : Nat) : Int) := by rw [IntWalk.i64_in _ (by omega)]; omega
  have hmz : ((a : Int) + (b : Int)) / 2 = (mid : Int) := by omega
  obtain ⟨N, hN⟩ : ∃ N, N = mid + m := ⟨_, rfl⟩
  obtain ⟨p, hp⟩ : ∃ p, p = mid + m - 1 := ⟨_, rfl⟩
  have w5 : IntKind.i64.wrap ((mid : Int) + (m : Int)) = (N : Int) := by rw [IntWalk.i64_in _ (by omega)]; omega
  have w7 : IntKind.i64.wrap ((N : Int) - 1) = (p : Int) := by rw [IntWalk.i64_in _ (by omega)]; omega
  have HE : Hid (N = mid + m ∧ p = mid + m - 1 ∧ mid = (a + b) / 2 ∧ a + 1 < m ∧ m + 1 < b ∧ b ≤ n ∧ n ≤ 1000) := Lib.hid ⟨hN, hp, hmid, ham, hmb, hbn, hb⟩
  obtain ⟨s0, hs0⟩ : ∃ s0, s0 = N - b := ⟨_, rfl⟩
  by_cases hgt : mid < m
  · have w6 : IntKind.i64.wrap ((N : Int) - (b : Int)) = (s0 : Int) := by rw [IntWalk.i64_in _ (by omega)]; omega
    have hgz : (mid : Int) < (m : Int) := by omega
    have HE2 : Hid (s0 = N - b ∧ mid < m) := Lib.hid ⟨hs0, hgt⟩
    clear h hn sa sb ih1 ih2 hd hd2 hmid hN hp hs0 hgt
    go_enter Try.func91, Try.ntmps91
    go_wp2_with fail
    go_loopw [20, 21] (fun vi vj wr => ∃ i j : Nat, s0 ≤ i ∧ i ≤ j ∧ j ≤ mid ∧ vi = .int .i64 i ∧ vj = .int .i64 j ∧ Hid (RowS wr g c X) ∧ Hid (w.grownBy wr (some g)) ∧ Hid ((i = s0 ∨ (s0 < i ∧ atK X (i - 1) ≤ atK X (p - (i - 1)))) ∧ (j = mid ∨ atK X (p - j) < atK X j))) (fun vi vj _ => (intOf vj).toNat - (intOf vi).toNat)
    case atStart =>
      have hE := HE.out; have hE2 := HE2.out
      exact ⟨s0, mid, Nat.le_refl _, by omega, Nat.le_refl _, rfl, rfl, H, Lib.hid (grown_refl _ _), Lib.hid ⟨Or.inl rfl, Or.inl rfl⟩⟩
    case round =>
      obtain ⟨i, j, hli, hij, hjh, rfl, rfl, HZ, HW, HI⟩ := hrel
      by_cases hlt : i < j
      · obtain ⟨q, hq⟩ : ∃ q : Nat, q = (i + j) / 2 := ⟨_, rfl⟩
        have hE := HE.out; have hE2 := HE2.out
        have hq1 : i ≤ q := by omega
        have hq2 : q < j := by omega
        obtain ⟨pc, hpc⟩ : ∃ pc, p - q = pc := ⟨_, rfl⟩
        have w11 : IntKind.i64.wrap ((i : Int) + (j : Int)) = ((i + j : Nat) : Int) := by rw [IntWalk.i64_in _ (by omega)]; omega
        have w12 : IntKind.i64.wrap ((p : Int) - (q : Int)) = (pc : Int) := by rw [IntWalk.i64_in _ (by omega)]; omega
        have hqz : ((i : Int) + (j : Int)) / 2 = (q : Int) := by omega
        obtain ⟨s, hs, c0, c1⟩ := HZ.out.lt (k := pc) (by rw [HN.out]; omega)
        obtain ⟨u, hu, d0, d1⟩ := HZ.out.lt (k := q) (by rw [HN.out]; omega)
        obtain ⟨v, hv⟩ : ∃ v, cmpV s.at_ u.at_ = v := ⟨_, rfl⟩
        have HC := Lib.hid fun (W : World) => tcmp_any s u W
        rw [hv] at HC
        have hqn : q < n := by omega
        have hpn : pc < n := by omega
        have hjn : j ≤ n := by omega
        have hkp := atK_of hs; have hkq := atK_of hu
        have HQZ := Lib.hid hqz
        by_cases hlv : v < 0
        · have HB : Hid (atK X (p - q) < atK X q) := by show _ < _; rw [hpc, hkq, hkp]; exact cmpV_neg.1 (by rw [hv]; exact hlv)
          clear hs hu hv hkq hkp hq hpc hE hE2
          go_wp2_with fail
          have s0 : wr.drew.cell? ⟨g, pc * 2, none⟩ = some (.int .i64 s.at_) ∧ wr.drew.cell? ⟨g, pc * 2 + 1, none⟩ = some (.int .i64 s.fr) ∧ wr.drew.cell? ⟨g, q * 2, none⟩ = some (.int .i64 u.at_) ∧ wr.drew.cell? ⟨g, q * 2 + 1, none⟩ = some (.int .i64 u.fr) := ⟨kp (dr wr) c0, kp (dr wr) c1, kp (dr wr) d0, kp (dr wr) d1⟩
          clear c0 c1 d0 d1
          have HX0 := Lib.hid (HZ.out.below (dr wr)); have HY0 := Lib.hid (grown_trans HW.out (Below.grow (dr wr) (some g)))
          go_region_held3 (fun (W : World) => W.cell? ⟨g, pc * 2, none⟩ = some (.int .i64 s.at_) ∧ W.cell? ⟨g, pc * 2 + 1, none⟩ = some (.int .i64 s.fr) ∧ W.cell? ⟨g, q * 2, none⟩ = some (.int .i64 u.at_) ∧ W.cell? ⟨g, q * 2 + 1, none⟩ = some (.int .i64 u.fr)) (first | exact s1 | exact s0) (first
            | (go_at_call 57; refine (HC.out _).mono ?_; rintro e x1 ⟨rfl, hb1⟩; have s1 : x1.cell? ⟨g, pc * 2, none⟩ = some (.int .i64 s.at_) ∧ x1.cell? ⟨g, pc * 2 + 1, none⟩ = some (.int .i64 s.fr) ∧ x1.cell? ⟨g, q * 2, none⟩ = some (.int .i64 u.at_) ∧ x1.cell? ⟨g, q * 2 + 1, none⟩ = some (.int .i64 u.fr) := ⟨kp hb1 s0.1, kp hb1 s0.2.1, kp hb1 s0.2.2.1, kp hb1 s0.2.2.2⟩; have HX1 : Hid (RowS x1 g c X) := Lib.hid (HX0.out.below hb1); have HY1 : Hid (w.grownBy x1 (some g)) := Lib.hid (grown_trans HY0.out (Below.grow hb1 (some g))); clear hb1))
          go_wp2
          go_roundw
          case rel => exact ⟨i, q, by omega, by omega, by omega, rfl, rfl, Lib.hid HX1.out, Lib.hid HY1.out, Lib.hid ⟨HI.out.1, Or.inr HB.out⟩⟩
          case measure => simp [intOf]; omega
        · have HB : Hid (atK X (q + 1 - 1) ≤ atK X (p - (q + 1 - 1))) := by
            show _ ≤ _
            rw [Nat.add_sub_cancel, hpc, hkq, hkp]
            have hns : ¬ s.at_ < u.at_ := fun h => hlv (by rw [← hv]; exact cmpV_neg.2 h)
            omega
          have hld : (!decide (v < 0)) = true := by simp; omega
          have w13 : IntKind.i64.wrap ((q : Int) + 1) = ((q + 1 : Nat) : Int) := by rw [IntWalk.i64_in _ (by omega)]; omega
          clear hs hu hv hkq hkp hq hpc hE hE2
          go_wp2_with fail
          have s0 : wr.drew.cell? ⟨g, pc * 2, none⟩ = some (.int .i64 s.at_) ∧ wr.drew.cell? ⟨g, pc * 2 + 1, none⟩ = some (.int .i64 s.fr) ∧ wr.drew.cell? ⟨g, q * 2, none⟩ = some (.int .i64 u.at_) ∧ wr.drew.cell? ⟨g, q * 2 + 1, none⟩ = some (.int .i64 u.fr) := ⟨kp (dr wr) c0, kp (dr wr) c1, kp (dr wr) d0, kp (dr wr) d1⟩
          clear c0 c1 d0 d1
          have HX0 := Lib.hid (HZ.out.below (dr wr)); have HY0 := Lib.hid (grown_trans HW.out (Below.grow (dr wr) (some g)))
          go_region_held3 (fun (W : World) => W.cell? ⟨g, pc * 2, none⟩ = some (.int .i64 s.at_) ∧ W.cell? ⟨g, pc * 2 + 1, none⟩ = some (.int .i64 s.fr) ∧ W.cell? ⟨g, q * 2, none⟩ = some (.int .i64 u.at_) ∧ W.cell? ⟨g, q * 2 + 1, none⟩ = some (.int .i64 u.fr)) (first | exact s1 | exact s0) (first
            | (go_at_call 57; refine (HC.out _).mono ?_; rintro e x1 ⟨rfl, hb1⟩; have s1 : x1.cell? ⟨g, pc * 2, none⟩ = some (.int .i64 s.at_) ∧ x1.cell? ⟨g, pc * 2 + 1, none⟩ = some (.int .i64 s.fr) ∧ x1.cell? ⟨g, q * 2, none⟩ = some (.int .i64 u.at_) ∧ x1.cell? ⟨g, q * 2 + 1, none⟩ = some (.int .i64 u.fr) := ⟨kp hb1 s0.1, kp hb1 s0.2.1, kp hb1 s0.2.2.1, kp hb1 s0.2.2.2⟩; have HX1 : Hid (RowS x1 g c X) := Lib.hid (HX0.out.below hb1); have HY1 : Hid (w.grownBy x1 (some g)) := Lib.hid (grown_trans HY0.out (Below.grow hb1 (some g))); clear hb1))
          go_wp2
          go_roundw
          case rel => exact ⟨q + 1, j, by omega, by omega, hjh, by go_num, rfl, Lib.hid HX1.out, Lib.hid HY1.out, Lib.hid ⟨Or.inr ⟨by omega, HB.out⟩, HI.out.2⟩⟩
          case measure => simp [intOf]; omega
      · have hie : j = i := by omega
        have hih : i ≤ mid := by omega
        obtain ⟨en, hen⟩ : ∃ en, N - i = en := ⟨_, rfl⟩
        have hE := HE.out; have hE2 := HE2.out
        have CU : Hid (Cut X a m b i en mid) := by
          have hI := HI.out
          rw [hie] at hI
          refine ⟨by omega, by omega, by omega, by omega, by omega, by omega, by omega, ?_, ?_⟩
          · rcases hI.1 with e | ⟨e0, e⟩
            · right; left; omega
            · right; right; rw [show p - (i - 1) = en from by omega] at e; exact e
          · rcases hI.2 with e | e
            · right; left; omega
            · right; right; rw [show p - i = en - 1 from by omega] at e; exact e
        have w8 : IntKind.i64.wrap ((N : Int) - (i : Int)) = (en : Int) := by rw [IntWalk.i64_in _ (by omega)]; omega
        have hie1 : i ≤ m := CU.out.le2
        have hen1 : m ≤ en := CU.out.le3
        have hen2 : en ≤ b := CU.out.le4
        have hli2 : a ≤ i := CU.out.le1
        have him2 : i ≤ mid := CU.out.le5
        have hme2 : mid ≤ en := CU.out.le6
        have hmb2 : mid < b := by omega
        have ham2 : a < mid := by omega
        have HSUM := Lib.hid CU.out.sum
        clear hie hen hE hE2
        by_cases r1 : i < m ∧ m < en
        · obtain ⟨r1a, r1b⟩ := r1
          go_wp2_with fail
          all_goals first
            | (exfalso; omega)
            | skip
          all_goals
            refine (HR.out i en (by omega) (by omega) (by omega) _ HZ.out).mono ?_
            rintro e w1 ⟨rfl, g1, Y, hY, vY⟩
            have HY := Lib.hid hY; have G1 := Lib.hid (grown_trans HW.out g1)
            have C2 := Lib.hid (CU.out.rot (by rw [HN.out]; omega) HS.out.1 HS.out.2 vY)
            clear hY g1 vY
            by_cases l1 : a < i ∧ i < mid
            · obtain ⟨l1a, l1b⟩ := l1
              go_wp2_with fail
              all_goals first
                | (exfalso; omega)
                | skip
              all_goals
                refine (I1.out i _ (by rw [C2.out.mix.len]; exact HN.out) (by omega) (by omega) C2.out.s1 C2.out.s2 _ HY.out).mono ?_
                rintro e w2 ⟨rfl, g2, U, hU, m2, s2⟩
                have HU := Lib.hid hU; have G2 := Lib.hid (grown_trans G1.out g2); have M1 := Lib.hid m2; have S1 := Lib.hid s2
                clear hU g2 m2 s2
                by_cases q1 : mid < en ∧ en < b
                · obtain ⟨q1a, q1b⟩ := q1
                  go_wp2_with fail
                  all_goals first
                    | (exfalso; omega)
                    | skip
                  all_goals
                    refine (I2.out en _ (by rw [M1.out.len, C2.out.mix.len]; exact HN.out) (by omega) (by omega) (M1.out.srtOut C2.out.s3 (Or.inr (Nat.le_refl _))) (M1.out.srtOut C2.out.s4 (Or.inr (by omega))) _ HU.out).mono ?_
                    rintro e w3 ⟨rfl, g3, Z3, hZ3, m3, s3⟩
                    have HZ3 := Lib.hid hZ3; have G3 := Lib.hid (grown_trans G2.out g3)
                    have HF := Lib.hid (C2.out.done (by omega) (by omega) M1.out m3 S1.out s3)
                    clear hZ3 g3 m3 s3
                    go_wp2
                    all_goals first
                      | (exfalso; omega)
                      | (go_end0; exact ⟨rfl, G3.out, _, HZ3.out, HF.out.1, HF.out.2⟩)
                · have HF := Lib.hid (C2.out.done (by omega) (by omega) M1.out (Mix.refl mid b _) S1.out (C2.out.right M1.out (by omega)))
                  go_wp2
                  all_goals first
                    | (exfalso; omega)
                    | (go_end0; exact ⟨rfl, G2.out, _, HU.out, HF.out.1, HF.out.2⟩)
            · have HU := HY; have G2 := G1
              have M1 := Lib.hid (Mix.refl a mid Y)
              have S1 := Lib.hid (C2.out.left (by omega))
              by_cases q1 : mid < en ∧ en < b
              · obtain ⟨q1a, q1b⟩ := q1
                go_wp2_with fail
                all_goals first
                  | (exfalso; omega)
                  | skip
                all_goals
                  refine (I2.out en _ (by rw [M1.out.len, C2.out.mix.len]; exact HN.out) (by omega) (by omega) (M1.out.srtOut C2.out.s3 (Or.inr (Nat.le_refl _))) (M1.out.srtOut C2.out.s4 (Or.inr (by omega))) _ HU.out).mono ?_
                  rintro e w3 ⟨rfl, g3, Z3, hZ3, m3, s3⟩
                  have HZ3 := Lib.hid hZ3; have G3 := Lib.hid (grown_trans G2.out g3)
                  have HF := Lib.hid (C2.out.done (by omega) (by omega) M1.out m3 S1.out s3)
                  clear hZ3 g3 m3 s3
                  go_wp2
                  all_goals first
                    | (exfalso; omega)
                    | (go_end0; exact ⟨rfl, G3.out, _, HZ3.out, HF.out.1, HF.out.2⟩)
              · have HF := Lib.hid (C2.out.done (by omega) (by omega) M1.out (Mix.refl mid b _) S1.out (C2.out.right M1.out (by omega)))
                go_wp2
                all_goals first
                  | (exfalso; omega)
                  | (go_end0; exact ⟨rfl, G2.out, _, HU.out, HF.out.1, HF.out.2⟩)
        · have HY := HZ; have G1 := HW
          have C2 := Lib.hid (CU.out.rot (by rw [HN.out]; omega) HS.out.1 HS.out.2 (rot_id (by omega) (by omega) (by omega)))
          by_cases l1 : a < i ∧ i < mid
          · obtain ⟨l1a, l1b⟩ := l1
            go_wp2_with fail
            all_goals first
              | (exfalso; omega)
              | skip
            all_goals
              refine (I1.out i _ (by rw [C2.out.mix.len]; exact HN.out) (by omega) (by omega) C2.out.s1 C2.out.s2 _ HY.out).mono ?_
              rintro e w2 ⟨rfl, g2, U, hU, m2, s2⟩
              have HU := Lib.hid hU; have G2 := Lib.hid (grown_trans G1.out g2); have M1 := Lib.hid m2; have S1 := Lib.hid s2
              clear hU g2 m2 s2
              by_cases q1 : mid < en ∧ en < b
              · obtain ⟨q1a, q1b⟩ := q1
                go_wp2_with fail
                all_goals first
                  | (exfalso; omega)
                  | skip
                all_goals
                  refine (I2.out en _ (by rw [M1.out.len, C2.out.mix.len]; exact HN.out) (by omega) (by omega) (M1.out.srtOut C2.out.s3 (Or.inr (Nat.le_refl _))) (M1.out.srtOut C2.out.s4 (Or.inr (by omega))) _ HU.out).mono ?_
                  rintro e w3 ⟨rfl, g3, Z3, hZ3, m3, s3⟩
                  have HZ3 := Lib.hid hZ3; have G3 := Lib.hid (grown_trans G2.out g3)
                  have HF := Lib.hid (C2.out.done (by omega) (by omega) M1.out m3 S1.out s3)
                  clear hZ3 g3 m3 s3
                  go_wp2
                  all_goals first
                    | (exfalso; omega)
                    | (go_end0; exact ⟨rfl, G3.out, _, HZ3.out, HF.out.1, HF.out.2⟩)
              · have HF := Lib.hid (C2.out.done (by omega) (by omega) M1.out (Mix.refl mid b _) S1.out (C2.out.right M1.out (by omega)))
                go_wp2
                all_goals first
                  | (exfalso; omega)
                  | (go_end0; exact ⟨rfl, G2.out, _, HU.out, HF.out.1, HF.out.2⟩)
          · have HU := HY; have G2 := G1
            have M1 := Lib.hid (Mix.refl a mid X)
            have S1 := Lib.hid (C2.out.left (by omega))
            by_cases q1 : mid < en ∧ en < b
            · obtain ⟨q1a, q1b⟩ := q1
              go_wp2_with fail
              all_goals first
                | (exfalso; omega)
                | skip
              all_goals
                refine (I2.out en _ (by rw [M1.out.len, C2.out.mix.len]; exact HN.out) (by omega) (by omega) (M1.out.srtOut C2.out.s3 (Or.inr (Nat.le_refl _))) (M1.out.srtOut C2.out.s4 (Or.inr (by omega))) _ HU.out).mono ?_
                rintro e w3 ⟨rfl, g3, Z3, hZ3, m3, s3⟩
                have HZ3 := Lib.hid hZ3; have G3 := Lib.hid (grown_trans G2.out g3)
                have HF := Lib.hid (C2.out.done (by omega) (by omega) M1.out m3 S1.out s3)
                clear hZ3 g3 m3 s3
                go_wp2
                all_goals first
                  | (exfalso; omega)
                  | (go_end0; exact ⟨rfl, G3.out, _, HZ3.out, HF.out.1, HF.out.2⟩)
            · have HF := Lib.hid (C2.out.done (by omega) (by omega) M1.out (Mix.refl mid b _) S1.out (C2.out.right M1.out (by omega)))
              go_wp2
              all_goals first
                | (exfalso; omega)
                | (go_end0; exact ⟨rfl, G2.out, _, HU.out, HF.out.1, HF.out.2⟩)
  · have hgz : ¬ (mid : Int) < (m : Int) := by omega
    have HE2 : Hid (m ≤ mid) := Lib.hid (by omega)
    clear h hn sa sb ih1 ih2 hd hd2 hmid hN hp hs0 hgt
    go_enter Try.func91, Try.ntmps91
    go_wp2_with fail
    go_loopw [20, 21] (fun vi vj wr => ∃ i j : Nat, a ≤ i ∧ i ≤ j ∧ j ≤ m ∧ vi = .int .i64 i ∧ vj = .int .i64 j ∧ Hid (RowS wr g c X) ∧ Hid (w.grownBy wr (some g)) ∧ Hid ((i = a ∨ (a < i ∧ atK X (i - 1) ≤ atK X (p - (i - 1)))) ∧ (j = m ∨ atK X (p - j) < atK X j))) (fun vi vj _ => (intOf vj).toNat - (intOf vi).toNat)
    case atStart =>
      have hE := HE.out; have hE2 := HE2.out
      exact ⟨a, m, Nat.le_refl _, by omega, Nat.le_refl _, rfl, rfl, H, Lib.hid (grown_refl _ _), Lib.hid ⟨Or.inl rfl, Or.inl rfl⟩⟩
    case round =>
      obtain ⟨i, j, hli, hij, hjh, rfl, rfl, HZ, HW, HI⟩ := hrel
      by_cases hlt : i < j
      · obtain ⟨q, hq⟩ : ∃ q : Nat, q = (i + j) / 2 := ⟨_, rfl⟩
        have hE := HE.out; have hE2 := HE2.out
        have hq1 : i ≤ q := by omega
        have hq2 : q < j := by omega
        obtain ⟨pc, hpc⟩ : ∃ pc, p - q = pc := ⟨_, rfl⟩
        have w11 : IntKind.i64.wrap ((i : Int) + (j : Int)) = ((i + j : Nat) : Int) := by rw [IntWalk.i64_in _ (by omega)]; omega
        have w12 : IntKind.i64.wrap ((p : Int) - (q : Int)) = (pc : Int) := by rw [IntWalk.i64_in _ (by omega)]; omega
        have hqz : ((i : Int) + (j : Int)) / 2 = (q : Int) := by omega
        obtain ⟨s, hs, c0, c1⟩ := HZ.out.lt (k := pc) (by rw [HN.out]; omega)
        obtain ⟨u, hu, d0, d1⟩ := HZ.out.lt (k := q) (by rw [HN.out]; omega)
        obtain ⟨v, hv⟩ : ∃ v, cmpV s.at_ u.at_ = v := ⟨_, rfl⟩
        have HC := Lib.hid fun (W : World) => tcmp_any s u W
        rw [hv] at HC
        have hqn : q < n := by omega
        have hpn : pc < n := by omega
        have hjn : j ≤ n := by omega
        have hkp := atK_of hs; have hkq := atK_of hu
        have HQZ := Lib.hid hqz
        by_cases hlv : v < 0
        · have HB : Hid (atK X (p - q) < atK X q) := by show _ < _; rw [hpc, hkq, hkp]; exact cmpV_neg.1 (by rw [hv]; exact hlv)
          clear hs hu hv hkq hkp hq hpc hE hE2
          go_wp2_with fail
          have s0 : wr.drew.cell? ⟨g, pc * 2, none⟩ = some (.int .i64 s.at_) ∧ wr.drew.cell? ⟨g, pc * 2 + 1, none⟩ = some (.int .i64 s.fr) ∧ wr.drew.cell? ⟨g, q * 2, none⟩ = some (.int .i64 u.at_) ∧ wr.drew.cell? ⟨g, q * 2 + 1, none⟩ = some (.int .i64 u.fr) := ⟨kp (dr wr) c0, kp (dr wr) c1, kp (dr wr) d0, kp (dr wr) d1⟩
          clear c0 c1 d0 d1
          have HX0 := Lib.hid (HZ.out.below (dr wr)); have HY0 := Lib.hid (grown_trans HW.out (Below.grow (dr wr) (some g)))
          go_region_held3 (fun (W : World) => W.cell? ⟨g, pc * 2, none⟩ = some (.int .i64 s.at_) ∧ W.cell? ⟨g, pc * 2 + 1, none⟩ = some (.int .i64 s.fr) ∧ W.cell? ⟨g, q * 2, none⟩ = some (.int .i64 u.at_) ∧ W.cell? ⟨g, q * 2 + 1, none⟩ = some (.int .i64 u.fr)) (first | exact s1 | exact s0) (first
            | (go_at_call 57; refine (HC.out _).mono ?_; rintro e x1 ⟨rfl, hb1⟩; have s1 : x1.cell? ⟨g, pc * 2, none⟩ = some (.int .i64 s.at_) ∧ x1.cell? ⟨g, pc * 2 + 1, none⟩ = some (.int .i64 s.fr) ∧ x1.cell? ⟨g, q * 2, none⟩ = some (.int .i64 u.at_) ∧ x1.cell? ⟨g, q * 2 + 1, none⟩ = some (.int .i64 u.fr) := ⟨kp hb1 s0.1, kp hb1 s0.2.1, kp hb1 s0.2.2.1, kp hb1 s0.2.2.2⟩; have HX1 : Hid (RowS x1 g c X) := Lib.hid (HX0.out.below hb1); have HY1 : Hid (w.grownBy x1 (some g)) := Lib.hid (grown_trans HY0.out (Below.grow hb1 (some g))); clear hb1))
          go_wp2
          go_roundw
          case rel => exact ⟨i, q, by omega, by omega, by omega, rfl, rfl, Lib.hid HX1.out, Lib.hid HY1.out, Lib.hid ⟨HI.out.1, Or.inr HB.out⟩⟩
          case measure => simp [intOf]; omega
        · have HB : Hid (atK X (q + 1 - 1) ≤ atK X (p - (q + 1 - 1))) := by
            show _ ≤ _
            rw [Nat.add_sub_cancel, hpc, hkq, hkp]
            have hns : ¬ s.at_ < u.at_ := fun h => hlv (by rw [← hv]; exact cmpV_neg.2 h)
            omega
          have hld : (!decide (v < 0)) = true := by simp; omega
          have w13 : IntKind.i64.wrap ((q : Int) + 1) = ((q + 1 : Nat) : Int) := by rw [IntWalk.i64_in _ (by omega)]; omega
          clear hs hu hv hkq hkp hq hpc hE hE2
          go_wp2_with fail
          have s0 : wr.drew.cell? ⟨g, pc * 2, none⟩ = some (.int .i64 s.at_) ∧ wr.drew.cell? ⟨g, pc * 2 + 1, none⟩ = some (.int .i64 s.fr) ∧ wr.drew.cell? ⟨g, q * 2, none⟩ = some (.int .i64 u.at_) ∧ wr.drew.cell? ⟨g, q * 2 + 1, none⟩ = some (.int .i64 u.fr) := ⟨kp (dr wr) c0, kp (dr wr) c1, kp (dr wr) d0, kp (dr wr) d1⟩
          clear c0 c1 d0 d1
          have HX0 := Lib.hid (HZ.out.below (dr wr)); have HY0 := Lib.hid (grown_trans HW.out (Below.grow (dr wr) (some g)))
          go_region_held3 (fun (W : World) => W.cell? ⟨g, pc * 2, none⟩ = some (.int .i64 s.at_) ∧ W.cell? ⟨g, pc * 2 + 1, none⟩ = some (.int .i64 s.fr) ∧ W.cell? ⟨g, q * 2, none⟩ = some (.int .i64 u.at_) ∧ W.cell? ⟨g, q * 2 + 1, none⟩ = some (.int .i64 u.fr)) (first | exact s1 | exact s0) (first
            | (go_at_call 57; refine (HC.out _).mono ?_; rintro e x1 ⟨rfl, hb1⟩; have s1 : x1.cell? ⟨g, pc * 2, none⟩ = some (.int .i64 s.at_) ∧ x1.cell? ⟨g, pc * 2 + 1, none⟩ = some (.int .i64 s.fr) ∧ x1.cell? ⟨g, q * 2, none⟩ = some (.int .i64 u.at_) ∧ x1.cell? ⟨g, q * 2 + 1, none⟩ = some (.int .i64 u.fr) := ⟨kp hb1 s0.1, kp hb1 s0.2.1, kp hb1 s0.2.2.1, kp hb1 s0.2.2.2⟩; have HX1 : Hid (RowS x1 g c X) := Lib.hid (HX0.out.below hb1); have HY1 : Hid (w.grownBy x1 (some g)) := Lib.hid (grown_trans HY0.out (Below.grow hb1 (some g))); clear hb1))
          go_wp2
          go_roundw
          case rel => exact ⟨q + 1, j, by omega, by omega, hjh, by go_num, rfl, Lib.hid HX1.out, Lib.hid HY1.out, Lib.hid ⟨Or.inr ⟨by omega, HB.out⟩, HI.out.2⟩⟩
          case measure => simp [intOf]; omega
      · have hie : j = i := by omega
        have hih : i ≤ m := by omega
        obtain ⟨en, hen⟩ : ∃ en, N - i = en := ⟨_, rfl⟩
        have hE := HE.out; have hE2 := HE2.out
        have CU : Hid (Cut X a m b i en mid) := by
          have hI := HI.out
          rw [hie] at hI
          refine ⟨by omega, by omega, by omega, by omega, by omega, by omega, by omega, ?_, ?_⟩
          · rcases hI.1 with e | ⟨e0, e⟩
            · left; exact e
            · right; right; rw [show p - (i - 1) = en from by omega] at e; exact e
          · rcases hI.2 with e | e
            · left; exact e
            · right; right; rw [show p - i = en - 1 from by omega] at e; exact e
        have w8 : IntKind.i64.wrap ((N : Int) - (i : Int)) = (en : Int) := by rw [IntWalk.i64_in _ (by omega)]; omega
        have hie1 : i ≤ m := CU.out.le2
        have hen1 : m ≤ en := CU.out.le3
        have hen2 : en ≤ b := CU.out.le4
        have hli2 : a ≤ i := CU.out.le1
        have him2 : i ≤ mid := CU.out.le5
        have hme2 : mid ≤ en := CU.out.le6
        have hmb2 : mid < b := by omega
        have ham2 : a < mid := by omega
        have HSUM := Lib.hid CU.out.sum
        clear hie hen hE hE2
        by_cases r1 : i < m ∧ m < en
        · obtain ⟨r1a, r1b⟩ := r1
          go_wp2_with fail
          all_goals first
            | (exfalso; omega)
            | skip
          all_goals
            refine (HR.out i en (by omega) (by omega) (by omega) _ HZ.out).mono ?_
            rintro e w1 ⟨rfl, g1, Y, hY, vY⟩
            have HY := Lib.hid hY; have G1 := Lib.hid (grown_trans HW.out g1)
            have C2 := Lib.hid (CU.out.rot (by rw [HN.out]; omega) HS.out.1 HS.out.2 vY)
            clear hY g1 vY
            by_cases l1 : a < i ∧ i < mid
            · obtain ⟨l1a, l1b⟩ := l1
              go_wp2_with fail
              all_goals first
                | (exfalso; omega)
                | skip
              all_goals
                refine (I1.out i _ (by rw [C2.out.mix.len]; exact HN.out) (by omega) (by omega) C2.out.s1 C2.out.s2 _ HY.out).mono ?_
                rintro e w2 ⟨rfl, g2, U, hU, m2, s2⟩
                have HU := Lib.hid hU; have G2 := Lib.hid (grown_trans G1.out g2); have M1 := Lib.hid m2; have S1 := Lib.hid s2
                clear hU g2 m2 s2
                by_cases q1 : mid < en ∧ en < b
                · obtain ⟨q1a, q1b⟩ := q1
                  go_wp2_with fail
                  all_goals first
                    | (exfalso; omega)
                    | skip
                  all_goals
                    refine (I2.out en _ (by rw [M1.out.len, C2.out.mix.len]; exact HN.out) (by omega) (by omega) (M1.out.srtOut C2.out.s3 (Or.inr (Nat.le_refl _))) (M1.out.srtOut C2.out.s4 (Or.inr (by omega))) _ HU.out).mono ?_
                    rintro e w3 ⟨rfl, g3, Z3, hZ3, m3, s3⟩
                    have HZ3 := Lib.hid hZ3; have G3 := Lib.hid (grown_trans G2.out g3)
                    have HF := Lib.hid (C2.out.done (by omega) (by omega) M1.out m3 S1.out s3)
                    clear hZ3 g3 m3 s3
                    go_wp2
                    all_goals first
                      | (exfalso; omega)
                      | (go_end0; exact ⟨rfl, G3.out, _, HZ3.out, HF.out.1, HF.out.2⟩)
                · have HF := Lib.hid (C2.out.done (by omega) (by omega) M1.out (Mix.refl mid b _) S1.out (C2.out.right M1.out (by omega)))
                  go_wp2
                  all_goals first
                    | (exfalso; omega)
                    | (go_end0; exact ⟨rfl, G2.out, _, HU.out, HF.out.1, HF.out.2⟩)
            · have HU := HY; have G2 := G1
              have M1 := Lib.hid (Mix.refl a mid Y)
              have S1 := Lib.hid (C2.out.left (by omega))
              by_cases q1 : mid < en ∧ en < b
              · obtain ⟨q1a, q1b⟩ := q1
                go_wp2_with fail
                all_goals first
                  | (exfalso; omega)
                  | skip
                all_goals
                  refine (I2.out en _ (by rw [M1.out.len, C2.out.mix.len]; exact HN.out) (by omega) (by omega) (M1.out.srtOut C2.out.s3 (Or.inr (Nat.le_refl _))) (M1.out.srtOut C2.out.s4 (Or.inr (by omega))) _ HU.out).mono ?_
                  rintro e w3 ⟨rfl, g3, Z3, hZ3, m3, s3⟩
                  have HZ3 := Lib.hid hZ3; have G3 := Lib.hid (grown_trans G2.out g3)
                  have HF := Lib.hid (C2.out.done (by omega) (by omega) M1.out m3 S1.out s3)
                  clear hZ3 g3 m3 s3
                  go_wp2
                  all_goals first
                    | (exfalso; omega)
                    | (go_end0; exact ⟨rfl, G3.out, _, HZ3.out, HF.out.1, HF.out.2⟩)
              · have HF := Lib.hid (C2.out.done (by omega) (by omega) M1.out (Mix.refl mid b _) S1.out (C2.out.right M1.out (by omega)))
                go_wp2
                all_goals first
                  | (exfalso; omega)
                  | (go_end0; exact ⟨rfl, G2.out, _, HU.out, HF.out.1, HF.out.2⟩)
        · have HY := HZ; have G1 := HW
          have C2 := Lib.hid (CU.out.rot (by rw [HN.out]; omega) HS.out.1 HS.out.2 (rot_id (by omega) (by omega) (by omega)))
          by_cases l1 : a < i ∧ i < mid
          · obtain ⟨l1a, l1b⟩ := l1
            go_wp2_with fail
            all_goals first
              | (exfalso; omega)
              | skip
            all_goals
              refine (I1.out i _ (by rw [C2.out.mix.len]; exact HN.out) (by omega) (by omega) C2.out.s1 C2.out.s2 _ HY.out).mono ?_
              rintro e w2 ⟨rfl, g2, U, hU, m2, s2⟩
              have HU := Lib.hid hU; have G2 := Lib.hid (grown_trans G1.out g2); have M1 := Lib.hid m2; have S1 := Lib.hid s2
              clear hU g2 m2 s2
              by_cases q1 : mid < en ∧ en < b
              · obtain ⟨q1a, q1b⟩ := q1
                go_wp2_with fail
                all_goals first
                  | (exfalso; omega)
                  | skip
                all_goals
                  refine (I2.out en _ (by rw [M1.out.len, C2.out.mix.len]; exact HN.out) (by omega) (by omega) (M1.out.srtOut C2.out.s3 (Or.inr (Nat.le_refl _))) (M1.out.srtOut C2.out.s4 (Or.inr (by omega))) _ HU.out).mono ?_
                  rintro e w3 ⟨rfl, g3, Z3, hZ3, m3, s3⟩
                  have HZ3 := Lib.hid hZ3; have G3 := Lib.hid (grown_trans G2.out g3)
                  have HF := Lib.hid (C2.out.done (by omega) (by omega) M1.out m3 S1.out s3)
                  clear hZ3 g3 m3 s3
                  go_wp2
                  all_goals first
                    | (exfalso; omega)
                    | (go_end0; exact ⟨rfl, G3.out, _, HZ3.out, HF.out.1, HF.out.2⟩)
              · have HF := Lib.hid (C2.out.done (by omega) (by omega) M1.out (Mix.refl mid b _) S1.out (C2.out.right M1.out (by omega)))
                go_wp2
                all_goals first
                  | (exfalso; omega)
                  | (go_end0; exact ⟨rfl, G2.out, _, HU.out, HF.out.1, HF.out.2⟩)
          · have HU := HY; have G2 := G1
            have M1 := Lib.hid (Mix.refl a mid X)
            have S1 := Lib.hid (C2.out.left (by omega))
            by_cases q1 : mid < en ∧ en < b
            · obtain ⟨q1a, q1b⟩ := q1
              go_wp2_with fail
              all_goals first
                | (exfalso; omega)
                | skip
              all_goals
                refine (I2.out en _ (by rw [M1.out.len, C2.out.mix.len]; exact HN.out) (by omega) (by omega) (M1.out.srtOut C2.out.s3 (Or.inr (Nat.le_refl _))) (M1.out.srtOut C2.out.s4 (Or.inr (by omega))) _ HU.out).mono ?_
                rintro e w3 ⟨rfl, g3, Z3, hZ3, m3, s3⟩
                have HZ3 := Lib.hid hZ3; have G3 := Lib.hid (grown_trans G2.out g3)
                have HF := Lib.hid (C2.out.done (by omega) (by omega) M1.out m3 S1.out s3)
                clear hZ3 g3 m3 s3
                go_wp2
                all_goals first
                  | (exfalso; omega)
                  | (go_end0; exact ⟨rfl, G3.out, _, HZ3.out, HF.out.1, HF.out.2⟩)
            · have HF := Lib.hid (C2.out.done (by omega) (by omega) M1.out (Mix.refl mid b _) S1.out (C2.out.right M1.out (by omega)))
              go_wp2
              all_goals first
                | (exfalso; omega)
                | (go_end0; exact ⟨rfl, G2.out, _, HU.out, HF.out.1, HF.out.2⟩)
end Go.Proofs.Ytapojmniokdjfaa.Stp

