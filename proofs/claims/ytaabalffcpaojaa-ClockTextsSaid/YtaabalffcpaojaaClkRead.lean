/- clock.Read, and the document's own Read. -/
import Derived.Test.YtaabalffcpaojaaClkStr
namespace Go.Proofs.Ytaabalffcpaojaa
open Go.RowKit
set_option linter.unusedVariables false

theorem dig_at {s : ByteArray} {k : Nat} (h : s.data.toList.all isDig = true) (hk : k < s.size) : 48 ≤ s[k].toNat ∧ s[k].toNat ≤ 57 := by
  rw [List.all_eq_true] at h
  exact isDig_bd (h _ (List.mem_of_getElem? (byte_at s k hk)))

set_option maxHeartbeats 800000 in
theorem read_any (s : ByteArray) (w : World) (hs : s.size ≤ maxLen) :
    Calls Try.prog 22 #[.string s] w fun e w' => e = .returned (.tuple #[.int .i64 (readV s.data.toList), .int .i64 (readE s.data.toList)]) ∧ Below w.heap.size w w' := by
  have HS := Lib.hid hs
  unfold maxLen at hs
  cases hN : numB s.data.toList
  · rw [(read_form hN).1, (read_form hN).2]
    go_enter Try.func22, Try.ntmps22
    go_wp2_with (go_at_call 28; refine (isNumber_any _ _ HS.out).mono ?_; rintro e w1 ⟨rfl, hb1⟩)
    go_ret2
    exact ⟨rfl, hb1⟩
  · have HN := Lib.hid hN
    go_enter Try.func22, Try.ntmps22
    go_wp2_with (go_at_call 28; refine (isNumber_any _ _ HS.out).mono ?_; rintro e w1 ⟨rfl, hb1⟩)
    clear hN
    go_loopw [4] (fun t w' => ∃ (pos m : Nat), w' = w1.iter s pos ∧ pos ≤ s.size ∧ t = .int .i64 (m : Int) ∧ m ≤ 1099511627775 ∧ Hid (m = val (s.data.toList.take pos))) (fun _ w' => s.size - w'.iterPos w1.heap.size)
    case atStart => exact ⟨0, 0, rfl, by omega, rfl, by omega, Lib.hid rfl⟩
    case round =>
      obtain ⟨pos, m, rfl, hp, rfl, hm, hv⟩ := hrel
      by_cases hlt : pos < s.size
      · have hd := dig_at (numB_digs HN.out) hlt
        have hnx : ∀ ty, (Instr.next (.pointer (some ⟨w1.heap.size, 0, none⟩)) true ty).run Try.prog (w1.iter s pos) = _ := fun ty => run_next_ascii w1 s pos ty hlt (by omega)
        have HV := Lib.hid (show val (s.data.toList.take (pos + 1)) = 10 * m + (s[pos].toNat - 48) from by rw [take_byte s pos hlt, val_snoc, hv.out])
        generalize s[pos].toNat = c at hnx hd HV
        by_cases ho : (1099511627775 - (c - 48)) / 10 < m
        · have hov : 1099511627775 < val s.data.toList := by
            have := val_take_le s.data.toList (pos + 1)
            have e := HV.out
            omega
          have HO := Lib.hid hov; clear hov
          go_wp2
          go_ret2
          exact ⟨by rw [(read_over HN.out HO.out).1, (read_over HN.out HO.out).2]; rfl, hb1.trans ((iter_below _ _ _).mono hb1.size)⟩
        · go_wp2
          go_roundw
          case rel => exact ⟨pos + 1, 10 * m + (c - 48), rfl, by omega, by congr 1; omega, by omega, Lib.hid HV.out.symm⟩
          case measure => simp; omega
      · have hnx : ∀ ty, (Instr.next (.pointer (some ⟨w1.heap.size, 0, none⟩)) true ty).run Try.prog (w1.iter s pos) = _ := fun ty => run_next_end w1 s pos ty hlt
        have hfin : val s.data.toList = m := by
          rw [hv.out, List.take_of_length_le (show s.data.toList.length ≤ pos from Nat.not_lt.1 hlt)]
        have HF := Lib.hid hfin; clear hfin
        go_wp2
        go_ret2
        have hle : val s.data.toList ≤ 1099511627775 := by rw [HF.out]; exact hm
        exact ⟨by rw [(read_yes HN.out hle).1, (read_yes HN.out hle).2, HF.out]; rfl, hb1.trans ((iter_below _ _ _).mono hb1.size)⟩

theorem byte_eq (c : UInt8) (h : c.toNat = 48) : ((c.toNat : Int) == 48) = true := by rw [h]; rfl
theorem byte_ne (c : UInt8) (h : c.toNat ≠ 48) : ((c.toNat : Int) == 48) = false := by rw [beq_eq_false_iff_ne]; omega
theorem list_one {s : ByteArray} (h : s.size = 1) (h0 : s[0].toNat = 48) : s.data.toList = [48] := by
  have hl : s.data.toList.length = 1 := h
  obtain ⟨c, hc⟩ := List.length_eq_one_iff.1 hl
  have := byte_at s 0 (by omega)
  rw [hc] at this
  rw [hc]
  have e : c = s[0] := by simpa using this
  rw [e]
  exact congrArg (fun x => [x]) (UInt8.toNat_inj.1 (by rw [h0]; rfl))

/-- from the head of the first loop on, what stands ahead of it decided: the rest of the call, as the walk meets it -/
theorem num_head {s : ByteArray} (hpos : 0 < s.size) (hall : s.data.toList.all isDig = true) (h : s[0].toNat ≠ 48 ∨ s.size ≤ 1) : numB s.data.toList = true := by
  by_cases h0 : s[0].toNat = 48
  · exact numB_one (list_one (by omega) h0)
  · exact numB_yes hall (list_pos s hpos) (by rw [head_byte s hpos]; intro e; apply h0; injection e with e; rw [e]; rfl)

set_option maxHeartbeats 1600000 in
theorem rread_any (s : ByteArray) (w : World) (hs : s.size ≤ maxLen) :
    Calls Try.prog 23 #[.string s] w fun e w' => e = .returned (.tuple #[.int .i64 (readV s.data.toList), .int .i64 (readE s.data.toList)]) ∧ w = w' := by
  unfold maxLen at hs
  have et := ByteArray.toList_eq s
  by_cases hz : s.size = 0
  · have e0 := list_nil s hz
    have hN : numB s.data.toList = false := by rw [e0]; rfl
    have e1 : s.toList = [] := by rw [et, e0]
    rw [(read_form hN).1, (read_form hN).2]
    clear et e0 hz hN
    go_enter Try.func23, Try.ntmps23
    go_wp2
    go_ret2
    exact ⟨rfl, rfl⟩
  · have hpos : 0 < s.size := by omega
    have e3 : ¬ s.toList = [] := by rw [et]; exact list_pos s hpos
    have e4 : s.toList.isEmpty = false := by
      cases hh : s.toList with
      | nil => exact absurd hh e3
      | cons a t => rfl
    by_cases h0 : s[0].toNat = 48
    · by_cases h1 : 1 < s.size
      · have hN : numB s.data.toList = false := numB_lead (fun e => by have := congrArg List.length e; have h2 : s.data.toList.length = s.size := rfl; simp at this; omega) (by rw [head_byte s hpos]; exact congrArg some (UInt8.toNat_inj.1 (by rw [h0]; rfl)))
        rw [(read_form hN).1, (read_form hN).2]
        have e5 := byte_eq _ h0
        clear et hz hN h0
        go_enter Try.func23, Try.ntmps23
        go_wp2
        go_ret2
        exact ⟨rfl, rfl⟩
      · have e5 := byte_eq _ h0
        have HD := Lib.hid (show s[0].toNat ≠ 48 ∨ s.size ≤ 1 from Or.inr (by omega))
        clear et hz h0
        go_enter Try.func23, Try.ntmps23
        go_wp2
        go_loop [4] (fun i => ∃ k : Nat, k ≤ s.size ∧ i = .int .i64 k ∧ Hid ((s.data.toList.take k).all isDig = true)) (fun i => s.size - (intOf i).toNat)
        case atStart => exact ⟨0, Nat.zero_le _, rfl, Lib.hid rfl⟩
        case round =>
          obtain ⟨k, hk, rfl, ha⟩ := hrel
          by_cases hlt : k < s.size
          · by_cases hlo : s[k].toNat < 48
            · have HB := Lib.hid (numB_bad (byte_at s k hlt) (isDig_low hlo))
              go_wp2
              go_ret2
              exact ⟨by rw [(read_form HB.out).1, (read_form HB.out).2]; rfl, rfl⟩
            · by_cases hhi : 57 < s[k].toNat
              · have HB := Lib.hid (numB_bad (byte_at s k hlt) (isDig_high hhi))
                go_wp2
                go_ret2
                exact ⟨by rw [(read_form HB.out).1, (read_form HB.out).2]; rfl, rfl⟩
              · have HN : Hid ((s.data.toList.take (k + 1)).all isDig = true) := Lib.hid (by rw [take_byte s k hlt]; exact all_snoc_yes ha.out (isDig_mid (by omega) (by omega)))
                go_wp2
                go_round
                case rel => exact ⟨k + 1, by omega, by go_num, HN⟩
                case measure => simp [intOf]; omega
          · have hall : s.data.toList.all isDig = true := by
              have := ha.out
              rwa [List.take_of_length_le (show s.data.toList.length ≤ k from Nat.not_lt.1 hlt)] at this
            have HA := Lib.hid hall
            have HN := Lib.hid (num_head hpos hall HD.out)
            clear hall
            by_cases hlong : 13 < s.size
            · exact absurd hlong (by omega)
            · have HL := Lib.hid (val_lt13 HA.out (show s.data.toList.length ≤ 13 from by have h2 : s.data.toList.length = s.size := rfl; omega))
              go_wp2
              go_loop [5, 6] (fun t i => ∃ (j m : Nat), j ≤ s.size ∧ i = .int .i64 j ∧ t = .int .i64 (m : Int) ∧ m < 10000000000000 ∧ Hid (m = val (s.data.toList.take j))) (fun _ i => s.size - (intOf i).toNat)
              case atStart => exact ⟨0, 0, Nat.zero_le _, rfl, rfl, by omega, Lib.hid rfl⟩
              case round =>
                obtain ⟨j, m, hj, rfl, rfl, hm, hv⟩ := hrel
                by_cases hlt2 : j < s.size
                · have hd := dig_at HA.out hlt2
                  have hv2 : val (s.data.toList.take (j + 1)) = 10 * m + (s[j].toNat - 48) := by rw [take_byte s j hlt2, val_snoc, hv.out]
                  have hv3 := val_take_le s.data.toList (j + 1)
                  have hv4 := HL.out
                  have hv5 : 10 * m + (s[j].toNat - 48) < 10000000000000 := by omega
                  have HV := Lib.hid hv2
                  clear hv2 hv3 hv4
                  go_wp2
                  go_round
                  case rel => exact ⟨j + 1, 10 * m + (s[j].toNat - 48), by omega, by go_num, by congr 1; omega, hv5, Lib.hid HV.out.symm⟩
                  case measure => simp [intOf]; omega
                · have HF := Lib.hid (show val s.data.toList = m from by rw [hv.out, List.take_of_length_le (show s.data.toList.length ≤ j from Nat.not_lt.1 hlt2)])
                  by_cases ho : 1099511627775 < m
                  · go_wp2
                    go_ret2
                    have hov : 1099511627775 < val s.data.toList := by rw [HF.out]; exact ho
                    exact ⟨by rw [(read_over HN.out hov).1, (read_over HN.out hov).2]; rfl, rfl⟩
                  · go_wp2
                    go_ret2
                    have hov : val s.data.toList ≤ 1099511627775 := by rw [HF.out]; omega
                    exact ⟨by rw [(read_yes HN.out hov).1, (read_yes HN.out hov).2, HF.out]; rfl, rfl⟩
    · have e5 := byte_ne _ h0
      have HD := Lib.hid (show s[0].toNat ≠ 48 ∨ s.size ≤ 1 from Or.inl h0)
      clear et hz h0
      go_enter Try.func23, Try.ntmps23
      go_wp2
      go_loop [4] (fun i => ∃ k : Nat, k ≤ s.size ∧ i = .int .i64 k ∧ Hid ((s.data.toList.take k).all isDig = true)) (fun i => s.size - (intOf i).toNat)
      case atStart => exact ⟨0, Nat.zero_le _, rfl, Lib.hid rfl⟩
      case round =>
        obtain ⟨k, hk, rfl, ha⟩ := hrel
        by_cases hlt : k < s.size
        · by_cases hlo : s[k].toNat < 48
          · have HB := Lib.hid (numB_bad (byte_at s k hlt) (isDig_low hlo))
            go_wp2
            go_ret2
            exact ⟨by rw [(read_form HB.out).1, (read_form HB.out).2]; rfl, rfl⟩
          · by_cases hhi : 57 < s[k].toNat
            · have HB := Lib.hid (numB_bad (byte_at s k hlt) (isDig_high hhi))
              go_wp2
              go_ret2
              exact ⟨by rw [(read_form HB.out).1, (read_form HB.out).2]; rfl, rfl⟩
            · have HN : Hid ((s.data.toList.take (k + 1)).all isDig = true) := Lib.hid (by rw [take_byte s k hlt]; exact all_snoc_yes ha.out (isDig_mid (by omega) (by omega)))
              go_wp2
              go_round
              case rel => exact ⟨k + 1, by omega, by go_num, HN⟩
              case measure => simp [intOf]; omega
        · have hall : s.data.toList.all isDig = true := by
            have := ha.out
            rwa [List.take_of_length_le (show s.data.toList.length ≤ k from Nat.not_lt.1 hlt)] at this
          have HA := Lib.hid hall
          have HN := Lib.hid (num_head hpos hall HD.out)
          clear hall
          by_cases hlong : 13 < s.size
          · have HO := Lib.hid (val_long HN.out hlong)
            go_wp2
            go_ret2
            exact ⟨by rw [(read_over HN.out HO.out).1, (read_over HN.out HO.out).2]; rfl, rfl⟩
          · have HL := Lib.hid (val_lt13 HA.out (show s.data.toList.length ≤ 13 from by have h2 : s.data.toList.length = s.size := rfl; omega))
            go_wp2
            go_loop [5, 6] (fun t i => ∃ (j m : Nat), j ≤ s.size ∧ i = .int .i64 j ∧ t = .int .i64 (m : Int) ∧ m < 10000000000000 ∧ Hid (m = val (s.data.toList.take j))) (fun _ i => s.size - (intOf i).toNat)
            case atStart => exact ⟨0, 0, Nat.zero_le _, rfl, rfl, by omega, Lib.hid rfl⟩
            case round =>
              obtain ⟨j, m, hj, rfl, rfl, hm, hv⟩ := hrel
              by_cases hlt2 : j < s.size
              · have hd := dig_at HA.out hlt2
                have hv2 : val (s.data.toList.take (j + 1)) = 10 * m + (s[j].toNat - 48) := by rw [take_byte s j hlt2, val_snoc, hv.out]
                have hv3 := val_take_le s.data.toList (j + 1)
                have hv4 := HL.out
                have hv5 : 10 * m + (s[j].toNat - 48) < 10000000000000 := by omega
                have HV := Lib.hid hv2
                clear hv2 hv3 hv4
                go_wp2
                go_round
                case rel => exact ⟨j + 1, 10 * m + (s[j].toNat - 48), by omega, by go_num, by congr 1; omega, hv5, Lib.hid HV.out.symm⟩
                case measure => simp [intOf]; omega
              · have HF := Lib.hid (show val s.data.toList = m from by rw [hv.out, List.take_of_length_le (show s.data.toList.length ≤ j from Nat.not_lt.1 hlt2)])
                by_cases ho : 1099511627775 < m
                · go_wp2
                  go_ret2
                  have hov : 1099511627775 < val s.data.toList := by rw [HF.out]; exact ho
                  exact ⟨by rw [(read_over HN.out hov).1, (read_over HN.out hov).2]; rfl, rfl⟩
                · go_wp2
                  go_ret2
                  have hov : val s.data.toList ≤ 1099511627775 := by rw [HF.out]; omega
                  exact ⟨by rw [(read_yes HN.out hov).1, (read_yes HN.out hov).2, HF.out]; rfl, rfl⟩

end Go.Proofs.Ytaabalffcpaojaa
