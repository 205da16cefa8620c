/- The calls of clock on texts: width, isNumber, Read, Text. -/
import Derived.Test.YtaabalffcpaojaaClkTwo
import Derived.Test.YtaabalffcpaojaaClkMem
import Derived.Test.YtaabalffcpaojaaClkTxt
import Derived.WalkLawsBesides
import Derived.WalkSpells
import Derived.Laws.RangeAny
import Derived.Outline
namespace Go.Proofs.Ytaabalffcpaojaa
open Go.RowKit
set_option linter.unusedVariables false

theorem width_any (n : Nat) (w : World) (hn : n ≤ 1099511627775) :
    Calls Try.prog 29 #[.int .i64 (n : Int)] w fun e w' => e = .returned (.int .i64 ((txt n).length : Int)) ∧ w = w' := by
  have hb := txt_bound hn
  go_enter Try.func29, Try.ntmps29
  go_wp2
  go_loop [0, 3] (fun t c => ∃ (m k : Nat), m ≤ 1099511627775 ∧ t = .int .i64 (m : Int) ∧ c = .int .i64 (k : Int) ∧ k ≤ 13 ∧ Hid (k + (txt m).length = (txt n).length + 1)) (fun t _ => (intOf t).toNat)
  case atStart => exact ⟨n, 1, hn, rfl, rfl, by omega, Lib.hid (by omega)⟩
  case round =>
    obtain ⟨m, k, hm, rfl, rfl, hk, hr⟩ := hrel
    by_cases hlt : m < 10
    · have he := hr.out
      rw [txt_small hlt] at he
      simp at he
      have HE := Lib.hid he; clear he
      go_wp2
      go_ret
      exact ⟨by rw [← HE.out]; rfl, rfl⟩
    · have he := hr.out
      rw [txt_more hlt] at he
      simp at he
      have hp := rtx_pos (m / 10)
      rw [← txt_len] at hp
      have hk2 : k + 1 ≤ 13 := by omega
      have HE := Lib.hid he; clear he
      go_wp2
      go_round
      case rel => exact ⟨m / 10, k + 1, by omega, by go_num, by go_num, hk2, Lib.hid (by have := HE.out; omega)⟩
      case measure => simp [intOf]; omega

theorem iter_below (w : World) (s : ByteArray) (p : Nat) : Below w.heap.size w (w.iter s p) := (Below.refl _ _).alloc (Nat.le_refl _) _

theorem byte_at (s : ByteArray) (k : Nat) (h : k < s.size) : s.data.toList[k]? = some s[k] := by
  rw [List.getElem?_eq_getElem (by simpa using h)]; rfl
theorem take_byte (s : ByteArray) (k : Nat) (h : k < s.size) : s.data.toList.take (k + 1) = s.data.toList.take k ++ [s[k]] := by
  rw [List.take_add_one, byte_at s k h]; rfl
theorem head_byte (s : ByteArray) (h : 0 < s.size) : s.data.toList.head? = some s[0] := by
  rw [List.head?_eq_getElem?, byte_at s 0 h]
theorem list_nil (s : ByteArray) (h : s.size = 0) : s.data.toList = [] := List.eq_nil_of_length_eq_zero (by simpa using h)
theorem list_pos (s : ByteArray) (h : 0 < s.size) : s.data.toList ≠ [] := fun e => by
  have : s.data.toList.length = 0 := by rw [e]; rfl
  have h2 : s.data.toList.length = s.size := rfl
  omega
theorem byte_int (c : UInt8) (h : c.toNat ≠ 48) : ((c.toNat : Int) != 48) = true := by rw [bne_iff_ne]; omega
theorem byte_int0 (c : UInt8) (h : c.toNat = 48) : ((c.toNat : Int) != 48) = false := by rw [h]; rfl
theorem all_snoc_yes {l : List UInt8} {c : UInt8} (h : l.all isDig = true) (hc : isDig c = true) : (l ++ [c]).all isDig = true := by rw [all_snoc, h, hc]; rfl

set_option maxHeartbeats 800000 in
theorem isNumber_any (s : ByteArray) (w : World) (hs : s.size ≤ maxLen) :
    Calls Try.prog 28 #[.string s] w fun e w' => e = .returned (.bool (numB s.data.toList)) ∧ Below w.heap.size w w' := by
  unfold maxLen at hs
  go_enter Try.func28, Try.ntmps28
  go_wp2
  go_loopw [] (fun w' => ∃ pos : Nat, w' = w.iter s pos ∧ pos ≤ s.size ∧ Hid ((s.data.toList.take pos).all isDig = true)) (fun w' => s.size - w'.iterPos w.heap.size)
  case atStart => exact ⟨0, rfl, by omega, Lib.hid rfl⟩
  case round =>
    obtain ⟨pos, rfl, hp, ha⟩ := hrel
    by_cases hlt : pos < s.size
    · by_cases hasc : s[pos].toNat < 128
      · have hnx : ∀ ty, (Instr.next (.pointer (some ⟨w.heap.size, 0, none⟩)) true ty).run Try.prog (w.iter s pos) = _ := fun ty => run_next_ascii w s pos ty hlt hasc
        by_cases hlo : s[pos].toNat < 48
        · have HB := Lib.hid (numB_bad (byte_at s pos hlt) (isDig_low hlo))
          go_wp2
          go_ret
          exact ⟨by rw [HB.out]; rfl, iter_below _ _ _⟩
        · by_cases hhi : 57 < s[pos].toNat
          · have HB := Lib.hid (numB_bad (byte_at s pos hlt) (isDig_high hhi))
            go_wp2
            go_ret
            exact ⟨by rw [HB.out]; rfl, iter_below _ _ _⟩
          · have HN : Hid ((s.data.toList.take (pos + 1)).all isDig = true) := Lib.hid (by rw [take_byte s pos hlt]; exact all_snoc_yes ha.out (isDig_mid (by omega) (by omega)))
            go_wp2
            go_roundw
            case rel => exact ⟨pos + 1, rfl, by omega, HN⟩
            case measure => simp; omega
      · have hnx : ∀ ty, (Instr.next (.pointer (some ⟨w.heap.size, 0, none⟩)) true ty).run Try.prog (w.iter s pos) = _ := fun ty => run_next_any w s pos ty hlt
        have hd := decode_high s pos hlt (by omega)
        have HB := Lib.hid (numB_bad (byte_at s pos hlt) (isDig_high (by omega)))
        generalize Utf8.decode s pos = dd at hnx hd
        obtain ⟨r, wd⟩ := dd
        simp only at hnx hd
        go_wp2
        go_ret
        exact ⟨by rw [HB.out]; rfl, iter_below _ _ _⟩
    · have hnx : ∀ ty, (Instr.next (.pointer (some ⟨w.heap.size, 0, none⟩)) true ty).run Try.prog (w.iter s pos) = _ := fun ty => run_next_end w s pos ty hlt
      have hall : s.data.toList.all isDig = true := by
        have := ha.out
        rwa [List.take_of_length_le (show s.data.toList.length ≤ pos from Nat.not_lt.1 hlt)] at this
      have HA := Lib.hid hall; clear hall
      have et := ByteArray.toList_eq s
      by_cases h0 : s.size = 0
      · have e0 := list_nil s h0
        have e1 : s.toList = [] := by rw [et, e0]
        have HB := Lib.hid (show numB s.data.toList = false from by rw [e0]; rfl)
        clear et e0 h0
        go_wp2
        go_ret
        exact ⟨by rw [HB.out]; rfl, iter_below _ _ _⟩
      · have hpos : 0 < s.size := by omega
        have hne := list_pos s hpos
        by_cases h1 : s.data.toList = [48]
        · have e1 : (s.toList == [48]) = true := by rw [et, h1]; rfl
          have HB := Lib.hid (numB_one h1)
          clear et h1 hne h0
          go_wp2
          go_ret
          exact ⟨by rw [HB.out]; rfl, iter_below _ _ _⟩
        · have e1 : (s.toList == [48]) = false := by rw [et]; exact beq_eq_false_iff_ne.2 h1
          have e2 : ¬ s.toList = [48] := by rw [et]; exact h1
          have e3 : ¬ s.toList = [] := by rw [et]; exact hne
          have e4 : s.toList.isEmpty = false := by
            cases hh : s.toList with
            | nil => exact absurd hh e3
            | cons a t => rfl
          by_cases h2 : s[0].toNat = 48
          · have HB := Lib.hid (numB_lead h1 (by rw [head_byte s hpos]; exact congrArg some (UInt8.toNat_inj.1 (by rw [h2]; rfl))))
            have e5 := byte_int0 _ h2
            clear et h1 hne h0 h2
            go_wp2
            go_ret
            exact ⟨by rw [HB.out]; rfl, iter_below _ _ _⟩
          · have HB := Lib.hid (numB_yes HA.out hne (by rw [head_byte s hpos]; intro e; apply h2; injection e with e; rw [e]; rfl))
            have e5 := byte_int _ h2
            clear et h1 hne h0 h2
            go_wp2
            go_ret
            exact ⟨by rw [HB.out]; rfl, iter_below _ _ _⟩

end Go.Proofs.Ytaabalffcpaojaa
