/- slices.SortStableFunc, of ints, in full. -/
import Derived.Test.YtaiolhanbjndcaaDoorMSym
namespace Go.Proofs.YtaiolhanbjndcaaDoor.Sri
open Go.RowKit Go.Shelf Go.Proofs.YtaiolhanbjndcaaDoor.Srt Go.Proofs.YtaiolhanbjndcaaDoor.Ft
set_option linter.unusedVariables false
set_option maxRecDepth 100000
theorem sym_any (g c n : Nat) (ok : StepD → Prop) (ub : Nat) (w0 : World) (hcc : CmpC ok ub w0 g) (hb : n ≤ 1000) : ∀ (D a m b : Nat) (X : List StepD), b - a ≤ D → X.length = n → a < m → m < b → b ≤ n → SrtOn X a m → SrtOn X m b → SymC ok ub w0 g c n a m b X
  | 0, a, m, b, X, hD, _, h1, h2, _, _, _ => by omega
  | D + 1, a, m, b, X, hD, hn, h1, h2, h3, sa, sb => by
    by_cases c1 : a + 1 = m
    · exact fun w h hw => sym1_any g c n a m b X hn hb c1 h2 h3 sb ok ub w0 hcc w h hw
    · by_cases c2 : m + 1 = b
      · exact fun w h hw => sym2_any g c n a m b X hn hb (by omega) c2 h3 sa ok ub w0 hcc w h hw
      · exact symG_any g c n a m b ((a + b) / 2) X ok ub w0 hcc hn hb (by omega) (by omega) h3 rfl sa sb
          (fun m' Y hY k1 k2 s1 s2 => sym_any g c n ok ub w0 hcc hb D a m' _ Y (by omega) hY k1 k2 (by omega) s1 s2)
          (fun m' Y hY k1 k2 s1 s2 => sym_any g c n ok ub w0 hcc hb D _ m' b Y (by omega) hY k1 k2 h3 s1 s2)
set_option maxHeartbeats 3200000 in
theorem staF_any (g c n : Nat) (X : List StepD) (hn : X.length = n) (hb : n ≤ 1000) (ok : StepD → Prop) (ub : Nat) (w0 : World) (hcc : CmpC ok ub w0 g) (w : World) (h : RowI ok w g c X) (hgw : w0.grownBy w (some g)) :
    Calls Tryd.prog 39 #[.slice (some ⟨g, 0, none⟩) n c, .int .i64 n, .func (.func 23) #[] #[.pointer (some ⟨ub, 0, none⟩)]] w fun e w' => e = .returned (.tuple #[]) ∧ w.grownBy w' (some g) ∧ ∃ Y, RowI ok w' g c Y ∧ Mix 0 n X Y ∧ SrtOn Y 0 n := by
  have HCC := Lib.hid hcc; have HGW := Lib.hid hgw
  have H := Lib.hid h; have HN := Lib.hid hn
  have HIns := Lib.hid fun (a b : Nat) (Z : List StepD) (hl : Z.length = n) (hab : a ≤ b) (hbn : b ≤ n) (W : World) (hz : RowI ok W g c Z) (hW : w.grownBy W (some g)) => insF_any g c n a b Z hl hb hab hbn ok ub w0 hcc W hz (grown_trans hgw hW)
  have HSym := Lib.hid fun (a m b : Nat) (Z : List StepD) (hl : Z.length = n) (h1 : a < m) (h2 : m < b) (h3 : b ≤ n) (s1 : SrtOn Z a m) (s2 : SrtOn Z m b) (W : World) (hz : RowI ok W g c Z) (hW : w.grownBy W (some g)) => sym_any g c n ok ub w0 hcc hb (b - a) a m b Z (Nat.le_refl _) hl h1 h2 h3 s1 s2 W hz (grown_trans hgw hW)
  clear hcc hgw h hn
  go_enter Tryd.func39, Tryd.ntmps39
  go_wp2
  go_loopw [7, 8] (fun va vb wr => ∃ (q A B : Nat) (Z : List StepD), Hid (A = 20 * q ∧ B = A + 20) ∧ A ≤ n ∧ B ≤ n + 20 ∧ va = .int .i64 A ∧ vb = .int .i64 B ∧ Hid (RowI ok wr g c Z) ∧ Hid (w.grownBy wr (some g)) ∧ Hid (Z.length = n ∧ Mix 0 n X Z ∧ ChA Z 20 n q)) (fun _ vb _ => n + 20 - (intOf vb).toNat)
  case atStart => exact ⟨0, 0, 20, X, Lib.hid ⟨rfl, rfl⟩, Nat.zero_le _, by omega, rfl, rfl, H, Lib.hid (grown_refl _ _), Lib.hid ⟨HN.out, Mix.refl _ _ _, fun t ht => by omega⟩⟩
  case round =>
    obtain ⟨q, A, B, Z, HA, hAn, hBn, rfl, rfl, HZ, HW, HV⟩ := hrel
    have hAB := HA.out.2
    by_cases hlt : B ≤ n
    · have HC := Lib.hid (HIns.out A B Z HV.out.1 (by omega) hlt)
      have w1 : IntKind.i64.wrap ((B : Int) + 20) = ((B + 20 : Nat) : Int) := by rw [IntWalk.i64_in _ (by omega)]; omega
      clear hAB
      go_wp2_with fail
      refine (HC.out _ HZ.out HW.out).mono ?_
      rintro e w1 ⟨rfl, g1, Y, hY, m1, s1⟩
      have HY := Lib.hid hY; have G1 := Lib.hid (grown_trans HW.out g1)
      have hA := HA.out
      have HV2 : Hid (Y.length = n ∧ Mix 0 n X Y ∧ ChA Y 20 n (q + 1)) := Lib.hid ⟨by rw [m1.len]; exact HV.out.1, HV.out.2.1.trans (m1.wide (Nat.zero_le _) hlt), HV.out.2.2.next hA.1 m1 s1 (Or.inl hA.2)⟩
      have HA2 : Hid (B = 20 * (q + 1)) := by show _ = _; omega
      clear hY g1 m1 s1 hA
      go_wp2
      go_roundw
      case rel => exact ⟨q + 1, B, B + 20, Y, Lib.hid ⟨HA2.out, rfl⟩, hlt, by omega, rfl, by go_num, HY, G1, HV2⟩
      case measure => simp [intOf]; omega
    · have HC := Lib.hid (HIns.out A n Z HV.out.1 hAn (Nat.le_refl _))
      clear hAB
      go_wp2_with fail
      refine (HC.out _ HZ.out HW.out).mono ?_
      rintro e w1 ⟨rfl, g1, Y, hY, m1, s1⟩
      have hA := HA.out
      have HV2 : Hid (Y.length = n ∧ Mix 0 n X Y ∧ ChB Y 20 n 0) := Lib.hid ⟨by rw [m1.len]; exact HV.out.1, HV.out.2.1.trans (m1.wide (Nat.zero_le _) (Nat.le_refl _)), (HV.out.2.2.next hA.1 m1 s1 (Or.inr ⟨by omega, rfl⟩)).all (by omega)⟩
      have HY := Lib.hid hY; have G1 := Lib.hid (grown_trans HW.out g1)
      clear hY g1 m1 s1 hA HV HW HZ HA
      go_wp2
      go_loopw [6] (fun vb wr => ∃ (bs : Nat) (Z : List StepD), 0 < bs ∧ bs ≤ 2 * n + 20 ∧ vb = .int .i64 bs ∧ Hid (RowI ok wr g c Z) ∧ Hid (w.grownBy wr (some g)) ∧ Hid (Z.length = n ∧ Mix 0 n X Z ∧ ChB Z bs n 0)) (fun vb _ => 2 * n + 20 - (intOf vb).toNat)
      case atStart => exact ⟨20, Y, by omega, by omega, rfl, HY, G1, HV2⟩
      case round =>
        clear HY G1 HV2 Y Z HC hlt hAn hBn
        obtain ⟨bs, Z, hbs, hbs2, rfl, HZ, HW, HV⟩ := hrel
        by_cases hlt : bs < n
        · obtain ⟨S, hS⟩ : ∃ S, S = 2 * bs := ⟨_, rfl⟩
          have w2 : IntKind.i64.wrap (2 * (bs : Int)) = (S : Int) := by rw [IntWalk.i64_in _ (by omega)]; omega
          have w3 : IntKind.i64.wrap ((bs : Int) * 2) = (S : Int) := by rw [IntWalk.i64_in _ (by omega)]; omega
          have HSE := Lib.hid hS
          clear hS
          go_wp2
          go_loopw [7, 8] (fun va vb wr => ∃ (q A B : Nat) (Z : List StepD), Hid (A = S * q ∧ B = A + S) ∧ A ≤ n ∧ B ≤ n + S ∧ va = .int .i64 A ∧ vb = .int .i64 B ∧ Hid (RowI ok wr g c Z) ∧ Hid (w.grownBy wr (some g)) ∧ Hid (Z.length = n ∧ Mix 0 n X Z ∧ ChA Z S n q ∧ ChB Z bs n (2 * q))) (fun _ vb _ => n + S - (intOf vb).toNat)
          case atStart => exact ⟨0, 0, S, Z, Lib.hid ⟨by rw [Nat.mul_zero], by rw [Nat.zero_add]⟩, Nat.zero_le _, by omega, rfl, rfl, HZ, HW, Lib.hid ⟨HV.out.1, HV.out.2.1, fun t ht => by omega, HV.out.2.2.start⟩⟩
          case round =>
            clear HZ HW HV Z
            obtain ⟨q, A, B, Z, HA, hAn, hBn, rfl, rfl, HZ, HW, HV⟩ := hrel
            have hA := HA.out
            have hSE := HSE.out
            have w4 : IntKind.i64.wrap ((A : Int) + (bs : Int)) = ((A + bs : Nat) : Int) := by rw [IntWalk.i64_in _ (by omega)]; omega
            obtain ⟨m, hm⟩ : ∃ m, A + bs = m := ⟨_, rfl⟩
            rw [hm] at w4
            by_cases hlt2 : B ≤ n
            · have HC := Lib.hid (HSym.out A m B Z HV.out.1 (by omega) (by omega) hlt2 (HV.out.2.2.2.run1 (by rw [hA.1, hSE]) (by omega) (by omega)) (by rw [← hm]; exact HV.out.2.2.2.run2 (by rw [hA.1, hSE]) (by omega) (by omega)))
              have w5 : IntKind.i64.wrap ((B : Int) + (S : Int)) = ((B + S : Nat) : Int) := by rw [IntWalk.i64_in _ (by omega)]; omega
              have HM := Lib.hid hm
              clear hA hSE hm
              go_wp2_with fail
              refine (HC.out _ HZ.out HW.out).mono ?_
              rintro e w1 ⟨rfl, g1, Y, hY, m1, s1⟩
              have HY := Lib.hid hY; have G1 := Lib.hid (grown_trans HW.out g1)
              have hA := HA.out
              have hSE := HSE.out
              have HV2 : Hid (Y.length = n ∧ Mix 0 n X Y ∧ ChA Y S n (q + 1) ∧ ChB Y bs n (2 * (q + 1))) := Lib.hid ⟨by rw [m1.len]; exact HV.out.1, HV.out.2.1.trans (m1.wide (Nat.zero_le _) hlt2), HV.out.2.2.1.next hA.1 m1 s1 (Or.inl hA.2), HV.out.2.2.2.next (by rw [hA.1, hSE]) m1 (by omega)⟩
              have HA2 : Hid (B = S * (q + 1)) := by show _ = _; rw [Nat.mul_add, Nat.mul_one, hA.2, hA.1]
              clear hY g1 m1 s1 hA hSE
              go_wp2
              go_roundw
              case rel => exact ⟨q + 1, B, B + S, Y, Lib.hid ⟨HA2.out, rfl⟩, hlt2, by omega, rfl, by go_num, HY, G1, HV2⟩
              case measure => have hSE := HSE.out; simp [intOf]; omega
            · by_cases hmn : m < n
              · have HC := Lib.hid (HSym.out A m n Z HV.out.1 (by omega) (by omega) (Nat.le_refl _) (HV.out.2.2.2.run1 (by rw [hA.1, hSE]) (by omega) (by omega)) (by rw [← hm]; exact HV.out.2.2.2.run2 (by rw [hA.1, hSE]) (by omega) (by omega)))
                have HM := Lib.hid hm
                clear hA hSE hm
                go_wp2_with fail
                refine (HC.out _ HZ.out HW.out).mono ?_
                rintro e w1 ⟨rfl, g1, Y, hY, m1, s1⟩
                have HY := Lib.hid hY; have G1 := Lib.hid (grown_trans HW.out g1)
                have hA := HA.out
                have hSE := HSE.out
                have HV2 : Hid (Y.length = n ∧ Mix 0 n X Y ∧ ChB Y S n 0) := Lib.hid ⟨by rw [m1.len]; exact HV.out.1, HV.out.2.1.trans (m1.wide (Nat.zero_le _) (Nat.le_refl _)), (HV.out.2.2.1.next hA.1 m1 s1 (Or.inr ⟨by omega, rfl⟩)).all (by rw [Nat.mul_add, Nat.mul_one, ← hA.1]; omega)⟩
                clear hY g1 m1 s1 hA hSE
                go_wp2
                go_roundw
                case rel => have hSE := HSE.out; exact ⟨S, Y, by omega, by omega, rfl, HY, G1, HV2⟩
                case measure => have hSE := HSE.out; simp [intOf]; omega
              · have HV2 : Hid (Z.length = n ∧ Mix 0 n X Z ∧ ChB Z S n 0) := Lib.hid ⟨HV.out.1, HV.out.2.1, (HV.out.2.2.1.next hA.1 (Mix.refl A n Z) (HV.out.2.2.2.run1 (by rw [hA.1, hSE]) (by omega) (Nat.le_refl _)) (Or.inr ⟨by omega, rfl⟩)).all (by rw [Nat.mul_add, Nat.mul_one, ← hA.1]; omega)⟩
                have HM := Lib.hid hm
                clear hA hSE hm
                go_wp2
                go_roundw
                case rel => have hSE := HSE.out; exact ⟨S, Z, by omega, by omega, rfl, HZ, HW, HV2⟩
                case measure => have hSE := HSE.out; simp [intOf]; omega
        · have HE := Lib.hid (HV.out.2.2.srt (by omega))
          go_wp2
          go_end0
          exact ⟨rfl, HW.out, Z, HZ.out, HV.out.2.1, HE.out⟩
theorem sortF_any (g c n : Nat) (X : List StepD) (hn : X.length = n) (hb : n ≤ 1000) (ok : StepD → Prop) (ub : Nat) (w0 : World) (hcc : CmpC ok ub w0 g) (w : World) (h : RowI ok w g c X) (hgw : w0.grownBy w (some g)) :
    Calls Tryd.prog 22 #[.slice (some ⟨g, 0, none⟩) n c, .func (.func 23) #[] #[.pointer (some ⟨ub, 0, none⟩)]] w fun e w' => e = .returned (.tuple #[]) ∧ w.grownBy w' (some g) ∧ ∃ Y, RowI ok w' g c Y ∧ Mix 0 n X Y ∧ SrtOn Y 0 n := by
  have HI := Lib.hid (staF_any g c n X hn hb ok ub w0 hcc w h hgw)
  clear hcc hgw h hn
  go_enter Tryd.func22, Tryd.ntmps22
  go_wp2_with fail
  refine HI.out.mono ?_
  rintro e w1 ⟨rfl, h1⟩
  go_wp2
  go_end0
  exact ⟨rfl, h1⟩
end Go.Proofs.YtaiolhanbjndcaaDoor.Sri

