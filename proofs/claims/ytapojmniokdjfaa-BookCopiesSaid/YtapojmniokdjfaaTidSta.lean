/- slices.SortStableFunc, of steps, in full. -/
import Derived.Test.YtapojmniokdjfaaTidSym
namespace Go.Proofs.Ytapojmniokdjfaa.Srt
set_option linter.unusedVariables false
/-- runs of s in order: those ahead of number q -/
def ChA (Z : List StepD) (s n q : Nat) : Prop := ∀ t, t < q → ∀ i j, s * t ≤ i → i < j → j < s * t + s → j < n → atK Z i ≤ atK Z j
/-- and those from number q on -/
def ChB (Z : List StepD) (s n q : Nat) : Prop := ∀ t, q ≤ t → ∀ i j, s * t ≤ i → i < j → j < s * t + s → j < n → atK Z i ≤ atK Z j
theorem ChA.next {Z U : List StepD} {s n q e A : Nat} (h : ChA Z s n q) (hA : A = s * q) (m : Mix A e Z U) (hs : SrtOn U A e) (he : e = A + s ∨ (n ≤ A + s ∧ e = n)) : ChA U s n (q + 1) := by
  intro t ht i j h1 h2 h3 h4
  by_cases c : t < q
  · have := Nat.mul_le_mul_left s (show t + 1 ≤ q from c)
    rw [Nat.mul_add, Nat.mul_one] at this
    rw [m.keyO (by omega), m.keyO (by omega)]
    exact h t c i j h1 h2 h3 h4
  · obtain rfl : t = q := by omega
    exact hs i j (by omega) h2 (by omega)
theorem ChB.next {Z U : List StepD} {s n q e A : Nat} (h : ChB Z s n (2 * q)) (hA : A = 2 * s * q) (m : Mix A e Z U) (he : e ≤ A + 2 * s) : ChB U s n (2 * (q + 1)) := by
  intro t ht i j h1 h2 h3 h4
  have h0 : s * (2 * (q + 1)) = 2 * s * q + 2 * s := by rw [Nat.mul_left_comm, Nat.mul_add, Nat.mul_one, Nat.mul_add, ← Nat.mul_assoc]
  have := Nat.mul_le_mul_left s ht
  rw [m.keyO (by omega), m.keyO (by omega)]
  exact h t (by omega) i j h1 h2 h3 h4
theorem ChA.all {Z : List StepD} {s n q : Nat} (h : ChA Z s n q) (hn : n ≤ s * q) : ChB Z s n 0 := by
  intro t ht i j h1 h2 h3 h4
  by_cases c : t < q
  · exact h t c i j h1 h2 h3 h4
  · have := Nat.mul_le_mul_left s (show q ≤ t by omega)
    omega
theorem ChB.run1 {Z : List StepD} {s n q A e : Nat} (h : ChB Z s n (2 * q)) (hA : A = 2 * s * q) (he : e ≤ A + s) (hn : e ≤ n) : SrtOn Z A e := fun i j h1 h2 h3 =>
  h (2 * q) (Nat.le_refl _) i j (by rw [Nat.mul_left_comm, ← Nat.mul_assoc]; omega) h2 (by rw [Nat.mul_left_comm, ← Nat.mul_assoc]; omega) (by omega)
theorem ChB.run2 {Z : List StepD} {s n q A e : Nat} (h : ChB Z s n (2 * q)) (hA : A = 2 * s * q) (he : e ≤ A + s + s) (hn : e ≤ n) : SrtOn Z (A + s) e := fun i j h1 h2 h3 => by
  have h0 : s * (2 * q + 1) = 2 * s * q + s := by rw [Nat.mul_add, Nat.mul_one, Nat.mul_left_comm, ← Nat.mul_assoc]
  exact h (2 * q + 1) (by omega) i j (by omega) h2 (by omega) (by omega)
theorem ChB.start {Z : List StepD} {s n : Nat} (h : ChB Z s n 0) : ChB Z s n (2 * 0) := h
theorem ChB.srt {Z : List StepD} {s n : Nat} (h : ChB Z s n 0) (hn : n ≤ s) : SrtOn Z 0 n := fun i j h1 h2 h3 =>
  h 0 (Nat.le_refl _) i j (by omega) h2 (by omega) h3
end Go.Proofs.Ytapojmniokdjfaa.Srt
namespace Go.Proofs.Ytapojmniokdjfaa.Stp
open Go.RowKit Go.Shelf Go.Proofs.Ytapojmniokdjfaa.Srt Go.Proofs.Ytapojmniokdjfaa.Ft
set_option linter.unusedVariables false
set_option maxRecDepth 100000
theorem sym_any (g c n : Nat) (hb : n ≤ 1000) : ∀ (D a m b : Nat) (X : List StepD), b - a ≤ D → X.length = n → a < m → m < b → b ≤ n → SrtOn X a m → SrtOn X m b → SymC g c n a m b X
  | 0, a, m, b, X, hD, _, h1, h2, _, _, _ => by omega
  | D + 1, a, m, b, X, hD, hn, h1, h2, h3, sa, sb => by
    by_cases c1 : a + 1 = m
    · exact fun w h => sym1_any g c n a m b X hn hb c1 h2 h3 sb w h
    · by_cases c2 : m + 1 = b
      · exact fun w h => sym2_any g c n a m b X hn hb (by omega) c2 h3 sa w h
      · exact symG_any g c n a m b ((a + b) / 2) X hn hb (by omega) (by omega) h3 rfl sa sb
          (fun m' Y hY k1 k2 s1 s2 => sym_any g c n hb D a m' _ Y (by omega) hY k1 k2 (by omega) s1 s2)
          (fun m' Y hY k1 k2 s1 s2 => sym_any g c n hb D _ m' b Y (by omega) hY k1 k2 h3 s1 s2)
set_option maxHeartbeats 3200000 in
theorem staF_any (g c n : Nat) (X : List StepD) (hn : X.length = n) (hb : n ≤ 1000) (w : World) (h : RowS w g c X) :
    Calls Try.prog 79 #[.slice (some ⟨g, 0, none⟩) n c, .int .i64 n, .func (.func 57) #[] #[]] w fun e w' => e = .returned (.tuple #[]) ∧ w.grownBy w' (some g) ∧ ∃ Y, RowS w' g c Y ∧ Mix 0 n X Y ∧ SrtOn Y 0 n := by
  have H := Lib.hid h; have HN := Lib.hid hn
  have HIns := Lib.hid fun (a b : Nat) (Z : List StepD) (hl : Z.length = n) (hab : a ≤ b) (hbn : b ≤ n) (W : World) (hz : RowS W g c Z) => insF_any g c n a b Z hl hb hab hbn W hz
  have HSym := Lib.hid fun (a m b : Nat) (Z : List StepD) (hl : Z.length = n) (h1 : a < m) (h2 : m < b) (h3 : b ≤ n) (s1 : SrtOn Z a m) (s2 : SrtOn Z m b) (W : World) (hz : RowS W g c Z) => sym_any g c n hb (b - a) a m b Z (Nat.le_refl _) hl h1 h2 h3 s1 s2 W hz
  clear h hn
  go_enter Try.func79, Try.ntmps79
  go_wp2
  go_loopw [7, 8] (fun va vb wr => ∃ (q A B : Nat) (Z : List StepD), Hid (A = 20 * q ∧ B = A + 20) ∧ A ≤ n ∧ B ≤ n + 20 ∧ va = .int .i64 A ∧ vb = .int .i64 B ∧ Hid (RowS wr g c Z) ∧ Hid (w.grownBy wr (some g)) ∧ Hid (Z.length = n ∧ Mix 0 n X Z ∧ ChA Z 20 n q)) (fun _ vb _ => n + 20 - (intOf vb).toNat)
  case atStart => exact ⟨0, 0, 20, X, Lib.hid ⟨rfl, rfl⟩, Nat.zero_le _, by omega, rfl, rfl, H, Lib.hid (grown_refl _ _), Lib.hid ⟨HN.out, Mix.refl _ _ _, fun t ht => by omega⟩⟩
  case round =>
    obtain ⟨q, A, B, Z, HA, hAn, hBn, rfl, rfl, HZ, HW, HV⟩ := hrel
    have hAB := HA.out.2
    by_cases hlt : B ≤ n
    · have HC := Lib.hid (HIns.out A B Z HV.out.1 (by omega) hlt)
      have w1 : IntKind.i64.wrap ((B : Int) + 20) = ((B + 20 : Nat) : Int) := by rw [IntWalk.i64_in _ (by omega)]; omega
      clear hAB
      go_wp2_with fail
      refine (HC.out _ HZ.out).mono ?_
      rintro e w1 ⟨rfl, g1, Y, hY, m1, s1⟩
      have HY := Lib.hid hY; have G1 := Lib.hid (grown_trans HW.out g1)
      have hA := HA.out
      have HV2 : Hid (Y.length = n ∧ Mix 0 n X Y ∧ ChA Y 20 n (q + 1)) := Lib.hid ⟨by rw [m1.len]; exact HV.out.1, HV.out.2.1.trans (m1.wide (Nat.zero_le _) hlt), HV.out.2.2.next hA.1 m1 s1 (Or.inl hA.2)⟩
      have HA2 : Hid (B = 20 * (q + 1)) := by show _ = _; omega
      clear hY g1 m1 s1 hA
      go_wp2
      go_roundw
      case rel => exact ⟨q + 1, B, B + 20, Y, Lib.hid ⟨HA2.out, rfl⟩, hlt, by omega, rfl, by go_num, HY, G1, HV2⟩
      case measure => simp [intOf]; omega
    · have HC := Lib.hid (HIns.out A n Z HV.out.1 hAn (Nat.le_refl _))
      clear hAB
      go_wp2_with fail
      refine (HC.out _ HZ.out).mono ?_
      rintro e w1 ⟨rfl, g1, Y, hY, m1, s1⟩
      have hA := HA.out
      have HV2 : Hid (Y.length = n ∧ Mix 0 n X Y ∧ ChB Y 20 n 0) := Lib.hid ⟨by rw [m1.len]; exact HV.out.1, HV.out.2.1.trans (m1.wide (Nat.zero_le _) (Nat.le_refl _)), (HV.out.2.2.next hA.1 m1 s1 (Or.inr ⟨by omega, rfl⟩)).all (by omega)⟩
      have HY := Lib.hid hY; have G1 := Lib.hid (grown_trans HW.out g1)
      clear hY g1 m1 s1 hA HV HW HZ HA
      go_wp2
      go_loopw [6] (fun vb wr => ∃ (bs : Nat) (Z : List StepD), 0 < bs ∧ bs ≤ 2 * n + 20 ∧ vb = .int .i64 bs ∧ Hid (RowS wr g c Z) ∧ Hid (w.grownBy wr (some g)) ∧ Hid (Z.length = n ∧ Mix 0 n X Z ∧ ChB Z bs n 0)) (fun vb _ => 2 * n + 20 - (intOf vb).toNat)
      case atStart => exact ⟨20, Y, by omega, by omega, rfl, HY, G1, HV2⟩
      case round =>
        clear HY G1 HV2 Y Z HC hlt hAn hBn
        obtain ⟨bs, Z, hbs, hbs2, rfl, HZ, HW, HV⟩ := hrel
        by_cases hlt : bs < n
        · obtain ⟨S, hS⟩ : ∃ S, S = 2 * bs := ⟨_, rfl⟩
          have w2 : IntKind.i64.wrap (2 * (bs : Int)) = (S : Int) := by rw [IntWalk.i64_in _ (by omega)]; omega
          have w3 : IntKind.i64.wrap ((bs : Int) * 2) = (S : Int) := by rw [IntWalk.i64_in _ (by omega)]; omega
          have HSE := Lib.hid hS
          clear hS
          go_wp2
          go_loopw [7, 8] (fun va vb wr => ∃ (q A B : Nat) (Z : List StepD), Hid (A = S * q ∧ B = A + S) ∧ A ≤ n ∧ B ≤ n + S ∧ va = .int .i64 A ∧ vb = .int .i64 B ∧ Hid (RowS wr g c Z) ∧ Hid (w.grownBy wr (some g)) ∧ Hid (Z.length = n ∧ Mix 0 n X Z ∧ ChA Z S n q ∧ ChB Z bs n (2 * q))) (fun _ vb _ => n + S - (intOf vb).toNat)
          case atStart => exact ⟨0, 0, S, Z, Lib.hid ⟨by rw [Nat.mul_zero], by rw [Nat.zero_add]⟩, Nat.zero_le _, by omega, rfl, rfl, HZ, HW, Lib.hid ⟨HV.out.1, HV.out.2.1, fun t ht => by omega, HV.out.2.2.start⟩⟩
          case round =>
            clear HZ HW HV Z
            obtain ⟨q, A, B, Z, HA, hAn, hBn, rfl, rfl, HZ, HW, HV⟩ := hrel
            have hA := HA.out
            have hSE := HSE.out
            have w4 : IntKind.i64.wrap ((A : Int) + (bs : Int)) = ((A + bs : Nat) : Int) := by rw [IntWalk.i64_in _ (by omega)]; omega
            obtain ⟨m, hm⟩ : ∃ m, A + bs = m := ⟨_, rfl⟩
            rw [hm] at w4
            by_cases hlt2 : B ≤ n
            · have HC := Lib.hid (HSym.out A m B Z HV.out.1 (by omega) (by omega) hlt2 (HV.out.2.2.2.run1 (by rw [hA.1, hSE]) (by omega) (by omega)) (by rw [← hm]; exact HV.out.2.2.2.run2 (by rw [hA.1, hSE]) (by omega) (by omega)))
              have w5 : IntKind.i64.wrap ((B : Int) + (S : Int)) = ((B + S : Nat) : Int) := by rw [IntWalk.i64_in _ (by omega)]; omega
              have HM := Lib.hid hm
              clear hA hSE hm
              go_wp2_with fail
              refine (HC.out _ HZ.out).mono ?_
              rintro e w1 ⟨rfl, g1, Y, hY, m1, s1⟩
              have HY := Lib.hid hY; have G1 := Lib.hid (grown_trans HW.out g1)
              have hA := HA.out
              have hSE := HSE.out
              have HV2 : Hid (Y.length = n ∧ Mix 0 n X Y ∧ ChA Y S n (q + 1) ∧ ChB Y bs n (2 * (q + 1))) := Lib.hid ⟨by rw [m1.len]; exact HV.out.1, HV.out.2.1.trans (m1.wide (Nat.zero_le _) hlt2), HV.out.2.2.1.next hA.1 m1 s1 (Or.inl hA.2), HV.out.2.2.2.next (by rw [hA.1, hSE]) m1 (by omega)⟩
              have HA2 : Hid (B = S * (q + 1)) := by show _ = _; rw [Nat.mul_add, Nat.mul_one, hA.2, hA.1]
              clear hY g1 m1 s1 hA hSE
              go_wp2
              go_roundw
              case rel => exact ⟨q + 1, B, B + S, Y, Lib.hid ⟨HA2.out, rfl⟩, hlt2, by omega, rfl, by go_num, HY, G1, HV2⟩
              case measure => have hSE := HSE.out; simp [intOf]; omega
            · by_cases hmn : m < n
              · have HC := Lib.hid (HSym.out A m n Z HV.out.1 (by omega) (by omega) (Nat.le_refl _) (HV.out.2.2.2.run1 (by rw [hA.1, hSE]) (by omega) (by omega)) (by rw [← hm]; exact HV.out.2.2.2.run2 (by rw [hA.1, hSE]) (by omega) (by omega)))
                have HM := Lib.hid hm
                clear hA hSE hm
                go_wp2_with fail
                refine (HC.out _ HZ.out).mono ?_
                rintro e w1 ⟨rfl, g1, Y, hY, m1, s1⟩
                have HY := Lib.hid hY; have G1 := Lib.hid (grown_trans HW.out g1)
                have hA := HA.out
                have hSE := HSE.out
                have HV2 : Hid (Y.length = n ∧ Mix 0 n X Y ∧ ChB Y S n 0) := Lib.hid ⟨by rw [m1.len]; exact HV.out.1, HV.out.2.1.trans (m1.wide (Nat.zero_le _) (Nat.le_refl _)), (HV.out.2.2.1.next hA.1 m1 s1 (Or.inr ⟨by omega, rfl⟩)).all (by rw [Nat.mul_add, Nat.mul_one, ← hA.1]; omega)⟩
                clear hY g1 m1 s1 hA hSE
                go_wp2
                go_roundw
                case rel => have hSE := HSE.out; exact ⟨S, Y, by omega, by omega, rfl, HY, G1, HV2⟩
                case measure => have hSE := HSE.out; simp [intOf]; omega
              · have HV2 : Hid (Z.length = n ∧ Mix 0 n X Z ∧ ChB Z S n 0) := Lib.hid ⟨HV.out.1, HV.out.2.1, (HV.out.2.2.1.next hA.1 (Mix.refl A n Z) (HV.out.2.2.2.run1 (by rw [hA.1, hSE]) (by omega) (Nat.le_refl _)) (Or.inr ⟨by omega, rfl⟩)).all (by rw [Nat.mul_add, Nat.mul_one, ← hA.1]; omega)⟩
                have HM := Lib.hid hm
                clear hA hSE hm
                go_wp2
                go_roundw
                case rel => have hSE := HSE.out; exact ⟨S, Z, by omega, by omega, rfl, HZ, HW, HV2⟩
                case measure => have hSE := HSE.out; simp [intOf]; omega
        · have HE := Lib.hid (HV.out.2.2.srt (by omega))
          go_wp2
          go_end0
          exact ⟨rfl, HW.out, Z, HZ.out, HV.out.2.1, HE.out⟩
theorem sortF_any (g c n : Nat) (X : List StepD) (hn : X.length = n) (hb : n ≤ 1000) (w : World) (h : RowS w g c X) :
    Calls Try.prog 56 #[.slice (some ⟨g, 0, none⟩) n c, .func (.func 57) #[] #[]] w fun e w' => e = .returned (.tuple #[]) ∧ w.grownBy w' (some g) ∧ ∃ Y, RowS w' g c Y ∧ Mix 0 n X Y ∧ SrtOn Y 0 n := by
  have HI := Lib.hid (staF_any g c n X hn hb w h)
  clear h hn
  go_enter Try.func56, Try.ntmps56
  go_wp2_with fail
  refine HI.out.mono ?_
  rintro e w1 ⟨rfl, h1⟩
  go_wp2
  go_end0
  exact ⟨rfl, h1⟩
end Go.Proofs.Ytapojmniokdjfaa.Stp

