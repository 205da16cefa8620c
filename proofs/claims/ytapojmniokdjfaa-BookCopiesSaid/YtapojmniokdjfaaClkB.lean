/- Layer Clk over, for a seat that needs several layers: lists of times, Add, Mul. -/
import Derived.Test.YtapojmniokdjfaaClkA
import Derived.WalkKit
import Derived.ProofKit
import Derived.Lib.Hide
namespace Go.Proofs.Ytapojmniokdjfaa.Clk
open Go.RowKit
set_option linter.unusedVariables false

theorem allT_snoc (l : List Int) (x : Int) : allT (l ++ [x]) = (allT l && isT x) := by simp [allT]
theorem allT_no {l : List Int} {k : Nat} {x : Int} (h : l[k]? = some x) (hx : isT x = false) : allT l = false := by
  cases e : allT l
  · rfl
  · simp only [allT, List.all_eq_true] at e
    have := e x (List.mem_of_getElem? h)
    rw [this] at hx; cases hx

set_option maxHeartbeats 400000 in
theorem areTimes_any (A : Option Addr) (c : Nat) (zs : List Int) (w : World) (h : Ints w A zs) (hl : zs.length ≤ maxLen) :
    Calls Try.prog 55 #[.slice A zs.length c] w fun e w' => e = .returned (.bool (allT zs)) ∧ w = w' := by
  unfold maxLen at hl
  have H := Lib.hid h; clear h
  go_enter Try.func55, Try.ntmps55
  go_wp2
  go_loop [7] (fun i => ∃ k : Nat, k ≤ zs.length ∧ i = .int .i64 k ∧ Hid (allT (zs.take k) = true)) (fun i => zs.length - (intOf i).toNat)
  case atStart => exact ⟨0, Nat.zero_le _, rfl, Lib.hid rfl⟩
  case round =>
    obtain ⟨k, hk, rfl, ha⟩ := hrel
    by_cases hlt : k < zs.length
    · obtain ⟨b, off, x, rfl, hx, hc⟩ := H.out.at_ hlt
      have HX := Lib.hid hx; clear hx
      cases hT : isT x
      · go_wp2_with (go_at_call 31; refine (is_any _ _).mono ?_; rintro e w' ⟨rfl, rfl⟩)
        go_ret
        exact ⟨by rw [allT_no HX.out hT]; rfl, rfl⟩
      · go_wp2_with (go_at_call 31; refine (is_any _ _).mono ?_; rintro e w' ⟨rfl, rfl⟩)
        go_round
        case rel => exact ⟨k + 1, by omega, by go_num, Lib.hid (by rw [take_snoc_some HX.out, allT_snoc, ha.out, hT]; rfl)⟩
        case measure => simp [intOf]; omega
    · go_wp2
      go_ret
      have hz : allT zs = true := by rw [← ha.out, List.take_of_length_le (by omega)]
      exact ⟨by rw [hz]; rfl, rfl⟩

theorem add_arg {l : List Int} (h : allT l = false) : addV l = 0 ∧ addE l = 2 := by simp [addV, addE, h]
theorem add_over {l : List Int} (h : allT l = true) (ho : 1099511627775 < sumL l) : addV l = 0 ∧ addE l = 6 := by
  have : ¬ sumL l ≤ 1099511627775 := by omega
  simp [addV, addE, h, this]
theorem add_yes {l : List Int} (h : allT l = true) (ho : sumL l ≤ 1099511627775) : addV l = sumL l ∧ addE l = 0 := by simp [addV, addE, h, ho]
theorem allT_at {l : List Int} {k : Nat} {x : Int} (h : allT l = true) (hx : l[k]? = some x) : isT x = true := by
  simp only [allT, List.all_eq_true] at h
  exact h x (List.mem_of_getElem? hx)

set_option maxHeartbeats 800000 in
theorem add_any (t : Int) (A : Option Addr) (c : Nat) (zs : List Int) (w : World) (h : Ints w A zs) (hl : zs.length ≤ maxLen) :
    Calls Try.prog 37 #[.int .i64 t, .slice A zs.length c] w fun e w' => e = .returned (.tuple #[.int .i64 (addV (t :: zs)), .int .i64 (addE (t :: zs))]) ∧ w = w' := by
  have H := Lib.hid h; clear h
  have HL := Lib.hid hl
  unfold maxLen at hl
  cases h1 : isT t
  · have hz : allT (t :: zs) = false := by simp [allT, h1]
    rw [(add_arg hz).1, (add_arg hz).2]; clear hz
    go_enter Try.func37, Try.ntmps37
    go_wp2_with (go_at_call 31; refine (is_any _ _).mono ?_; rintro e w' ⟨rfl, rfl⟩)
    go_ret2
    exact ⟨rfl, rfl⟩
  · cases h2 : allT zs
    · have hz : allT (t :: zs) = false := by simp only [allT, List.all_cons] at h2 ⊢; rw [h2]; simp
      rw [(add_arg hz).1, (add_arg hz).2]; clear hz
      go_enter Try.func37, Try.ntmps37
      go_wp2_with (first | (go_at_call 31; refine (is_any _ _).mono ?_; rintro e w' ⟨rfl, rfl⟩) | (go_at_call 55; refine (areTimes_any _ _ _ _ H.out HL.out).mono ?_; rintro e w' ⟨rfl, rfl⟩))
      go_ret2
      exact ⟨rfl, rfl⟩
    · have hz : allT (t :: zs) = true := by simp only [allT, List.all_cons] at h2 ⊢; rw [h2, h1]; rfl
      have HZ := Lib.hid hz; clear hz
      have bt := isT_bd h1
      go_enter Try.func37, Try.ntmps37
      go_wp2_with (first | (go_at_call 31; refine (is_any _ _).mono ?_; rintro e w' ⟨rfl, rfl⟩) | (go_at_call 55; refine (areTimes_any _ _ _ _ H.out HL.out).mono ?_; rintro e w' ⟨rfl, rfl⟩))
      have H2 := Lib.hid h2; clear h2
      go_loop [6, 20] (fun s i => ∃ (k : Nat) (x : Int), k ≤ zs.length ∧ i = .int .i64 k ∧ s = .int .i64 x ∧ 0 ≤ x ∧ x ≤ 1099511627775 ∧ Hid (x = t + sumL (zs.take k))) (fun _ i => zs.length - (intOf i).toNat)
      case atStart => exact ⟨0, t, Nat.zero_le _, rfl, rfl, bt.1, bt.2, Lib.hid (by simp [sumL])⟩
      case round =>
        obtain ⟨k, s, hk, rfl, rfl, hs0, hs1, hs⟩ := hrel
        by_cases hlt : k < zs.length
        · obtain ⟨b, off, x, rfl, hx, hc⟩ := H.out.at_ hlt
          have hT := isT_bd (allT_at H2.out hx)
          have HX := Lib.hid hx; clear hx
          have hsum : Hid (t + sumL (zs.take (k + 1)) = s + x) := Lib.hid (by rw [take_snoc_some HX.out, sumL_snoc, hs.out]; omega)
          by_cases ho : 1099511627775 - s < x
          · go_wp2
            go_ret2
            have hov : 1099511627775 < sumL (t :: zs) := by
              have := sumL_take_le zs (k + 1) H2.out
              have e := hsum.out
              simp only [sumL]; omega
            exact ⟨by rw [(add_over HZ.out hov).1, (add_over HZ.out hov).2]; rfl, rfl⟩
          · go_wp2
            go_round
            case rel => exact ⟨k + 1, s + x, by omega, by go_num, rfl, by omega, by omega, Lib.hid hsum.out.symm⟩
            case measure => simp [intOf]; omega
        · have hfin : sumL (t :: zs) = s := by
            have e := hs.out
            rw [List.take_of_length_le (by omega)] at e
            simp only [sumL]; omega
          have HF := Lib.hid hfin; clear hfin
          go_wp2
          go_ret2
          have hov : sumL (t :: zs) ≤ 1099511627775 := by rw [HF.out]; omega
          exact ⟨by rw [(add_yes HZ.out hov).1, (add_yes HZ.out hov).2, HF.out]; rfl, rfl⟩


end Go.Proofs.Ytapojmniokdjfaa.Clk

