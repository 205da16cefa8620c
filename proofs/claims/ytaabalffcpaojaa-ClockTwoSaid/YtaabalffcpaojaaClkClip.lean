/- clock.Clip and the document's own Clip and Add. -/
import Derived.Test.YtaabalffcpaojaaClkAdd
import Derived.WalkLawsBesides
import Derived.Outline
namespace Go.Proofs.Ytaabalffcpaojaa
open Go.RowKit
set_option linter.unusedVariables false

set_option maxHeartbeats 1600000 in
theorem clip_any (t : Int) (A : Option Addr) (c : Nat) (zs : List Int) (w : World) (h : Ints w A zs) (hl : zs.length ≤ maxLen) :
    Calls Try.prog 14 #[.int .i64 t, .slice A zs.length c] w fun e w' => e = .returned (.int .i64 (clipA (t :: zs))) ∧ w = w' := by
  have H := Lib.hid h; clear h
  unfold maxLen at hl
  by_cases h0 : t < 0
  · have HT := Lib.hid (show one t = 0 from by simp [one, h0])
    go_enter Try.func14, Try.ntmps14
    go_wp2
    go_step3
    go_wp2
    go_step3
    go_wp2
    go_loop [5, 14] (fun s i => ∃ (k : Nat) (x : Int), k ≤ zs.length ∧ i = .int .i64 k ∧ s = .int .i64 x ∧ 0 ≤ x ∧ x ≤ 1099511627775 ∧ Hid (x = clipL (one t) (zs.take k))) (fun _ i => zs.length - (intOf i).toNat)
    case atStart => exact ⟨0, _, Nat.zero_le _, rfl, rfl, by omega, by omega, Lib.hid HT.out.symm⟩
    case round =>
      obtain ⟨k, s, hk, rfl, rfl, hs0, hs1, hs⟩ := hrel
      by_cases hlt : k < zs.length
      · obtain ⟨b, off, x, rfl, hx, hc⟩ := H.out.at_ hlt
        have hnext : clipL (one t) (zs.take (k + 1)) = one (s + one x) := by rw [take_snoc_some hx, clipL_snoc, ← hs.out]
        clear hx
        by_cases hx0 : x ≤ 0
        · rw [one_low hs0 hs1 hx0] at hnext
          have HN := Lib.hid hnext; clear hnext
          go_wp2
          go_round
          case rel => exact ⟨k + 1, s, by omega, by go_num, rfl, by omega, by omega, Lib.hid HN.out.symm⟩
          case measure => simp [intOf]; omega
        · by_cases hxf : 1099511627775 - s ≤ x
          · rw [one_full hs0 hxf hs1] at hnext
            have HF := Lib.hid (clipL_break hnext); clear hnext
            go_wp2
            try rw [Exit.noGoto_ret]
            go_ret
            exact ⟨by rw [clipA_cons, HF.out]; rfl, rfl⟩
          · rw [one_mid hs0 (by omega) (by omega)] at hnext
            have HN := Lib.hid hnext; clear hnext
            go_wp2
            go_round
            case rel => exact ⟨k + 1, s + x, by omega, by go_num, rfl, by omega, by omega, Lib.hid HN.out.symm⟩
            case measure => simp [intOf]; omega
      · have hfin : clipL (one t) zs = s := by rw [hs.out, List.take_of_length_le (by omega)]
        have HF := Lib.hid hfin; clear hfin
        go_wp2
        try rw [Exit.noGoto_ret]
        go_ret
        exact ⟨by rw [clipA_cons, HF.out]; rfl, rfl⟩
  by_cases h1 : 1099511627775 < t
  · have HT := Lib.hid (show one t = 1099511627775 from by simp [one, h0, h1])
    go_enter Try.func14, Try.ntmps14
    go_wp2
    go_step3
    go_wp2
    go_step3
    go_wp2
    go_loop [5, 14] (fun s i => ∃ (k : Nat) (x : Int), k ≤ zs.length ∧ i = .int .i64 k ∧ s = .int .i64 x ∧ 0 ≤ x ∧ x ≤ 1099511627775 ∧ Hid (x = clipL (one t) (zs.take k))) (fun _ i => zs.length - (intOf i).toNat)
    case atStart => exact ⟨0, _, Nat.zero_le _, rfl, rfl, by omega, by omega, Lib.hid HT.out.symm⟩
    case round =>
      obtain ⟨k, s, hk, rfl, rfl, hs0, hs1, hs⟩ := hrel
      by_cases hlt : k < zs.length
      · obtain ⟨b, off, x, rfl, hx, hc⟩ := H.out.at_ hlt
        have hnext : clipL (one t) (zs.take (k + 1)) = one (s + one x) := by rw [take_snoc_some hx, clipL_snoc, ← hs.out]
        clear hx
        by_cases hx0 : x ≤ 0
        · rw [one_low hs0 hs1 hx0] at hnext
          have HN := Lib.hid hnext; clear hnext
          go_wp2
          go_round
          case rel => exact ⟨k + 1, s, by omega, by go_num, rfl, by omega, by omega, Lib.hid HN.out.symm⟩
          case measure => simp [intOf]; omega
        · by_cases hxf : 1099511627775 - s ≤ x
          · rw [one_full hs0 hxf hs1] at hnext
            have HF := Lib.hid (clipL_break hnext); clear hnext
            go_wp2
            try rw [Exit.noGoto_ret]
            go_ret
            exact ⟨by rw [clipA_cons, HF.out]; rfl, rfl⟩
          · rw [one_mid hs0 (by omega) (by omega)] at hnext
            have HN := Lib.hid hnext; clear hnext
            go_wp2
            go_round
            case rel => exact ⟨k + 1, s + x, by omega, by go_num, rfl, by omega, by omega, Lib.hid HN.out.symm⟩
            case measure => simp [intOf]; omega
      · have hfin : clipL (one t) zs = s := by rw [hs.out, List.take_of_length_le (by omega)]
        have HF := Lib.hid hfin; clear hfin
        go_wp2
        try rw [Exit.noGoto_ret]
        go_ret
        exact ⟨by rw [clipA_cons, HF.out]; rfl, rfl⟩
  · have HT := Lib.hid (show one t = t from by simp [one, h0, h1])
    go_enter Try.func14, Try.ntmps14
    go_wp2
    go_step3
    go_wp2
    go_step3
    go_wp2
    go_loop [5, 14] (fun s i => ∃ (k : Nat) (x : Int), k ≤ zs.length ∧ i = .int .i64 k ∧ s = .int .i64 x ∧ 0 ≤ x ∧ x ≤ 1099511627775 ∧ Hid (x = clipL (one t) (zs.take k))) (fun _ i => zs.length - (intOf i).toNat)
    case atStart => exact ⟨0, _, Nat.zero_le _, rfl, rfl, by omega, by omega, Lib.hid HT.out.symm⟩
    case round =>
      obtain ⟨k, s, hk, rfl, rfl, hs0, hs1, hs⟩ := hrel
      by_cases hlt : k < zs.length
      · obtain ⟨b, off, x, rfl, hx, hc⟩ := H.out.at_ hlt
        have hnext : clipL (one t) (zs.take (k + 1)) = one (s + one x) := by rw [take_snoc_some hx, clipL_snoc, ← hs.out]
        clear hx
        by_cases hx0 : x ≤ 0
        · rw [one_low hs0 hs1 hx0] at hnext
          have HN := Lib.hid hnext; clear hnext
          go_wp2
          go_round
          case rel => exact ⟨k + 1, s, by omega, by go_num, rfl, by omega, by omega, Lib.hid HN.out.symm⟩
          case measure => simp [intOf]; omega
        · by_cases hxf : 1099511627775 - s ≤ x
          · rw [one_full hs0 hxf hs1] at hnext
            have HF := Lib.hid (clipL_break hnext); clear hnext
            go_wp2
            try rw [Exit.noGoto_ret]
            go_ret
            exact ⟨by rw [clipA_cons, HF.out]; rfl, rfl⟩
          · rw [one_mid hs0 (by omega) (by omega)] at hnext
            have HN := Lib.hid hnext; clear hnext
            go_wp2
            go_round
            case rel => exact ⟨k + 1, s + x, by omega, by go_num, rfl, by omega, by omega, Lib.hid HN.out.symm⟩
            case measure => simp [intOf]; omega
      · have hfin : clipL (one t) zs = s := by rw [hs.out, List.take_of_length_le (by omega)]
        have HF := Lib.hid hfin; clear hfin
        go_wp2
        try rw [Exit.noGoto_ret]
        go_ret
        exact ⟨by rw [clipA_cons, HF.out]; rfl, rfl⟩

set_option maxHeartbeats 800000 in
theorem rclip_any (A : Option Addr) (c : Nat) (zs : List Int) (w : World) (h : Ints w A zs) (hl : zs.length ≤ maxLen) :
    Calls Try.prog 15 #[.slice A zs.length c] w fun e w' => e = .returned (.int .i64 (clipA zs)) ∧ w = w' := by
  have H := Lib.hid h; clear h
  unfold maxLen at hl
  go_enter Try.func15, Try.ntmps15
  go_wp2
  go_loop [3, 4] (fun s i => ∃ (k : Nat) (x : Int), k ≤ zs.length ∧ i = .int .i64 k ∧ s = .int .i64 x ∧ 0 ≤ x ∧ x ≤ 1099511627775 ∧ Hid (x = clipA (zs.take k))) (fun _ i => zs.length - (intOf i).toNat)
  case atStart => exact ⟨0, 0, Nat.zero_le _, rfl, rfl, by omega, by omega, Lib.hid rfl⟩
  case round =>
    obtain ⟨k, s, hk, rfl, rfl, hs0, hs1, hs⟩ := hrel
    by_cases hlt : k < zs.length
    · obtain ⟨b, off, x, rfl, hx, hc⟩ := H.out.at_ hlt
      have HN := Lib.hid (show clipA (zs.take (k + 1)) = one (s + one x) from by rw [take_snoc_some hx, clipA, clipL_snoc, hs.out]; rfl)
      clear hx
      have ox := one_bd x
      have oy := one_bd (s + one x)
      go_wp2_with (go_at_call 27; refine (one_any _ _).mono ?_; rintro e w' ⟨rfl, rfl⟩)
      go_round
      case rel => exact ⟨k + 1, one (s + one x), by omega, by go_num, rfl, oy.1, oy.2, Lib.hid HN.out.symm⟩
      case measure => simp [intOf]; omega
    · have HF := Lib.hid (show clipA zs = s from by rw [hs.out, List.take_of_length_le (by omega)])
      go_wp2
      go_ret
      exact ⟨by rw [HF.out]; rfl, rfl⟩

set_option maxHeartbeats 800000 in
theorem radd_any (A : Option Addr) (c : Nat) (zs : List Int) (w : World) (h : Ints w A zs) (hl : zs.length ≤ maxLen) :
    Calls Try.prog 13 #[.slice A zs.length c] w fun e w' => e = .returned (.tuple #[.int .i64 (addV zs), .int .i64 (addE zs)]) ∧ w = w' := by
  have H := Lib.hid h; clear h
  unfold maxLen at hl
  go_enter Try.func13, Try.ntmps13
  go_wp2
  go_loop [4] (fun i => ∃ k : Nat, k ≤ zs.length ∧ i = .int .i64 k ∧ Hid (allT (zs.take k) = true)) (fun i => zs.length - (intOf i).toNat)
  case atStart => exact ⟨0, Nat.zero_le _, rfl, Lib.hid rfl⟩
  case round =>
    obtain ⟨k, hk, rfl, ha⟩ := hrel
    by_cases hlt : k < zs.length
    · obtain ⟨b, off, x, rfl, hx, hc⟩ := H.out.at_ hlt
      have HX := Lib.hid hx; clear hx
      cases hT : isT x
      · go_wp2_with (go_at_call 21; refine (ris_any _ _).mono ?_; rintro e w' ⟨rfl, rfl⟩)
        go_ret2
        have hz := allT_no HX.out hT
        exact ⟨by rw [(add_arg hz).1, (add_arg hz).2]; rfl, rfl⟩
      · go_wp2_with (go_at_call 21; refine (ris_any _ _).mono ?_; rintro e w' ⟨rfl, rfl⟩)
        go_round
        case rel => exact ⟨k + 1, by omega, by go_num, Lib.hid (by rw [take_snoc_some HX.out, allT_snoc, ha.out, hT]; rfl)⟩
        case measure => simp [intOf]; omega
    · have HZ := Lib.hid (show allT zs = true from by rw [← ha.out, List.take_of_length_le (by omega)])
      go_wp2
      go_loop [5, 6] (fun s i => ∃ (k : Nat) (x : Int), k ≤ zs.length ∧ i = .int .i64 k ∧ s = .int .i64 x ∧ 0 ≤ x ∧ x ≤ 1099511627775 ∧ Hid (x = sumL (zs.take k))) (fun _ i => zs.length - (intOf i).toNat)
      case atStart => exact ⟨0, 0, Nat.zero_le _, rfl, rfl, by omega, by omega, Lib.hid rfl⟩
      case round =>
        obtain ⟨j, s, hj, rfl, rfl, hs0, hs1, hs⟩ := hrel
        by_cases hlt2 : j < zs.length
        · obtain ⟨b, off, x, rfl, hx, hc⟩ := H.out.at_ hlt2
          have hT := isT_bd (allT_at HZ.out hx)
          have hsum : Hid (sumL (zs.take (j + 1)) = s + x) := Lib.hid (by rw [take_snoc_some hx, sumL_snoc, hs.out])
          clear hx
          by_cases ho : 1099511627775 < s + x
          · go_wp2
            go_ret2
            have hov : 1099511627775 < sumL zs := by
              have := sumL_take_le zs (j + 1) HZ.out
              have e := hsum.out
              omega
            exact ⟨by rw [(add_over HZ.out hov).1, (add_over HZ.out hov).2]; rfl, rfl⟩
          · go_wp2
            go_round
            case rel => exact ⟨j + 1, s + x, by omega, by go_num, rfl, by omega, by omega, Lib.hid hsum.out.symm⟩
            case measure => simp [intOf]; omega
        · have HF := Lib.hid (show sumL zs = s from by rw [hs.out, List.take_of_length_le (by omega)])
          go_wp2
          go_ret2
          have hov : sumL zs ≤ 1099511627775 := by rw [HF.out]; omega
          exact ⟨by rw [(add_yes HZ.out hov).1, (add_yes HZ.out hov).2, HF.out]; rfl, rfl⟩

end Go.Proofs.Ytaabalffcpaojaa
