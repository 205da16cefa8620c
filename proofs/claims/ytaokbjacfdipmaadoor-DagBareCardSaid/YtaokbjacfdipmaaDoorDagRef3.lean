/- Of the document's: Behind; and long. -/
import Derived.Test.YtaokbjacfdipmaaDoorDagRef2
namespace Go.Proofs.YtaokbjacfdipmaaDoor
open Go.RowKit
set_option linter.unusedVariables false

set_option maxHeartbeats 1600000 in
theorem rbehind_any (E : List (List Int)) (w : World) (A : Option Addr) (c : Nat) (h : IRows w A c E) (hn : E.length ≤ 30) (hE : Valid E) (v : Int) :
    Calls Tryd.prog 16 #[.slice A E.length c, .int .i64 v] w (RetL w (getL (rev E) v)) := by
  have H := Lib.hid h; clear h
  by_cases h0 : 0 ≤ v
  · obtain ⟨u, rfl⟩ : ∃ u : Nat, v = (u : Int) := ⟨v.toNat, by omega⟩
    have HG : Hid (getL (rev E) (u : Int) = num (behL E u)) := Lib.hid (by
      unfold getL
      rw [rev_len]
      by_cases hu : u < E.length
      · rw [if_pos (by omega), Int.toNat_natCast]; exact rev_row u hu
      · rw [if_neg (by omega), beh_out hE (by omega)]; rfl)
    rw [HG.out]
    have HE := Lib.hid hE
    clear hE
    go_enter Tryd.func16, Tryd.ntmps16
    go_wp2
    go_loopw [5, 6] (fun o i wr => ∃ (k : Nat) (Ao : Option Addr) (co : Nat), k ≤ E.length ∧ i = .int .i64 k ∧ o = .slice Ao (num ((List.range k).filter fun w => arc E w u)).length co ∧ Hid (OwnI wr w.heap.size o (num ((List.range k).filter fun w => arc E w u))) ∧ Hid (Below w.heap.size w wr)) (fun _ i _ => E.length - (intOf i).toNat)
    case atStart => exact ⟨0, none, 0, Nat.zero_le _, rfl, rfl, Lib.hid (Own1.nil _ _ _), Lib.hid (Below.refl _ _)⟩
    case round =>
      obtain ⟨k, Ao, co, hk, rfl, rfl, HO, HB⟩ := hrel
      obtain ⟨L, hL⟩ : ∃ L, num ((List.range k).filter fun w => arc E w u) = L := ⟨_, rfl⟩
      have hLl : L.length ≤ 30 := by rw [← hL]; exact Nat.le_trans (filter_len _ k) (by omega)
      have hls := filter_succ (fun w => arc E w u) k
      rw [hL] at hls
      rw [hL] at HO
      have HL := Lib.hid hL
      have HLS := Lib.hid hls
      rw [hL]
      clear hL hls
      by_cases hkl : k < E.length
      · obtain ⟨b, off, A', c', rfl, hc0, hi⟩ := H.out.cells k _ (row_get hkl)
        have hc := (HB.out.cell (p := ⟨b, off + k, none⟩) (World.block_lt_of_cell? w _ hc0)).trans hc0
        have HI := Lib.hid hi
        clear hc0 hi
        cases ha : arc E k u with
        | true =>
          have HA : Hid (decide ((u : Int) ∈ row E k) = true) := Lib.hid (by rw [← ha]; rfl)
          rw [ha] at HLS
          clear ha
          go_wp2_with fail
          refine (hasI_any (row E k) _ rfl (u : Int) _ _ _ (HI.out.below HB.out) true HA.out).mono ?_
          rintro e w1 ⟨rfl, rfl⟩
          go_wp2_with (at_builtin; refine wpList_appg rfl _ _ 30 3 (.int .i64 0) 8 Tryd.underlying30 info_int rfl (by decide) rfl w.heap.size (.slice Ao L.length co) (ints L) rfl (Own1.below HO.out ((Below.refl _ _).alloc (Nat.le_refl _) _)) (some ⟨wr.heap.size, 0, none⟩) 1 1 [.int .i64 (k : Int)] rfl rfl (Sl.one rfl) (by simp [Value.oneCell']) (by rw [ints_len]; simp; omega) (by have := HB.out.size; simp; omega) ?_; intro l A9 c9 w9 el ho9 _ _ hbl9; have HO9 := Lib.hid ho9; have HBL := Lib.hid ((HB.out.alloc HB.out.size _).trans hbl9); have EL := Lib.hid el; clear ho9 hbl9 el)
          go_roundw
          case rel =>
            have el : l = ints (L ++ [(k : Int)]) := by rw [EL.out, ints_app]; rfl
            have hl9 : l.length = (num ((List.range (k + 1)).filter fun w => arc E w u)).length := by rw [HLS.out, el, ints_len]; simp
            refine ⟨k + 1, A9, c9, by omega, by go_num, by rw [hl9], Lib.hid ?_, HBL⟩
            rw [HLS.out]
            simp only [if_true]
            have := HO9.out
            rw [el] at this ⊢
            exact this
          case measure => simp [intOf]; omega
        | false =>
          have HA : Hid (decide ((u : Int) ∈ row E k) = false) := Lib.hid (by rw [← ha]; rfl)
          rw [ha] at HLS
          clear ha
          go_wp2_with fail
          refine (hasI_any (row E k) _ rfl (u : Int) _ _ _ (HI.out.below HB.out) false HA.out).mono ?_
          rintro e w1 ⟨rfl, rfl⟩
          go_wp2
          go_roundw
          case rel =>
            have hl9 : num ((List.range (k + 1)).filter fun w => arc E w u) = L := by rw [HLS.out]; simp
            exact ⟨k + 1, Ao, co, by omega, by go_num, by rw [hl9], Lib.hid (by rw [hl9]; exact HO.out), HB⟩
          case measure => simp [intOf]; omega
      · obtain rfl : k = E.length := by omega
        go_wp2
        go_ret
        refine ⟨Ao, co, ?_, ?_, HB.out⟩
        · show _ = Ending.returned (.slice Ao (num ((List.range E.length).filter fun w => arc E w u)).length co)
          rw [HL.out]; rfl
        · have := (OwnI.ints' HO.out).2
          rw [← HL.out] at this
          exact this
  · have HG : Hid (getL (rev E) v = []) := Lib.hid (by unfold getL; rw [rev_len, if_neg (by omega)])
    rw [HG.out]
    have h1 : v < 0 := by omega
    clear h0 hE
    go_enter Tryd.func16, Tryd.ntmps16
    go_wp2
    go_loop [5, 6] (fun o i => ∃ k : Nat, k ≤ E.length ∧ o = .slice none 0 0 ∧ i = .int .i64 k) (fun _ i => E.length - (intOf i).toNat)
    case atStart => exact ⟨0, Nat.zero_le _, rfl, rfl⟩
    case round =>
      obtain ⟨k, hk, rfl, rfl⟩ := hrel
      by_cases hkl : k < E.length
      · go_wp2
        go_round
        case rel => exact ⟨k + 1, by omega, rfl, by go_num⟩
        case measure => simp [intOf]; omega
      · obtain rfl : k = E.length := by omega
        go_wp2
        go_ret
        exact retL_nil _

/-- how many there are, with all that they wait for -/
def sumL : List (List Int) → Nat
  | [] => 0
  | l :: r => 1 + l.length + sumL r
theorem sumL_app (a b : List (List Int)) : sumL (a ++ b) = sumL a + sumL b := by
  induction a with
  | nil => simp [sumL]
  | cons x a ih => simp only [List.cons_append, sumL, ih]; omega
theorem sumL_mem {E : List (List Int)} {l : List Int} (h : l ∈ E) : l.length ≤ sumL E := by
  induction E with
  | nil => cases h
  | cons x E ih =>
    simp only [sumL]
    rcases List.mem_cons.1 h with rfl | h
    · omega
    · have := ih h; omega
theorem sumL_take {E : List (List Int)} (k : Nat) (h : ∀ l ∈ E, l.length ≤ 140737488355328) : sumL (E.take k) ≤ k * 140737488355329 := by
  induction E generalizing k with
  | nil => simp [sumL]
  | cons x E ih =>
    cases k with
    | zero => simp [sumL]
    | succ k =>
      have := ih k fun l hl => h l (by simp [hl])
      have := h x (by simp)
      simp only [List.take_succ_cons, sumL]
      omega

set_option maxHeartbeats 1600000 in
theorem long_many (E : List (List Int)) (w : World) (A : Option Addr) (c : Nat) (h : IRows w A c E) (hn : 30 < E.length) :
    Calls Tryd.prog 9 #[.slice A E.length c] w fun e w' => e = .returned (.bool true) ∧ w = w' := by
  have hlm : E.length ≤ 9223372036854775807 := Nat.le_trans h.cap (by have := h.top; simpa [maxLen] using this)
  have H := Lib.hid h; clear h
  go_enter Tryd.func9, Tryd.ntmps9
  go_wp2
  go_loop [3, 4] (fun s i => ∃ (k : Nat) (z : Int), k ≤ E.length ∧ i = .int .i64 k ∧ s = .int .i64 z) (fun _ i => E.length - (intOf i).toNat)
  case atStart => exact ⟨0, 0, Nat.zero_le _, rfl, rfl⟩
  case round =>
    obtain ⟨k, z, hk, rfl, rfl⟩ := hrel
    by_cases hkl : k < E.length
    · obtain ⟨b, off, A', c', xs, rfl, hx, hc, hi⟩ := H.out.at_ hkl
      clear hx hi
      go_wp2
      go_round
      case rel => exact ⟨k + 1, _, by omega, by go_num, rfl⟩
      case measure => simp [intOf]; omega
    · obtain rfl : k = E.length := by omega
      by_cases hz : 100 < z
      · go_wp2
        go_ret
        exact ⟨rfl, rfl⟩
      · have hd : decide (30 < (E.length : Int)) = true := decide_eq_true (by omega)
        go_wp2
        go_ret
        exact ⟨rfl, rfl⟩

set_option maxHeartbeats 1600000 in
theorem long_few (E : List (List Int)) (w : World) (A : Option Addr) (c : Nat) (h : IRows w A c E) (hn : E.length ≤ 30) (hz : ∀ l ∈ E, l.length ≤ 140737488355328) (r : Bool) (hr : decide (100 < sumL E) = r) :
    Calls Tryd.prog 9 #[.slice A E.length c] w fun e w' => e = .returned (.bool r) ∧ w = w' := by
  have H := Lib.hid h; have HZ := Lib.hid hz; have HR := Lib.hid hr
  clear h hz hr
  go_enter Tryd.func9, Tryd.ntmps9
  go_wp2
  go_loop [3, 4] (fun s i => ∃ (k z : Nat), k ≤ E.length ∧ i = .int .i64 k ∧ s = .int .i64 z ∧ Hid (z = sumL (E.take k))) (fun _ i => E.length - (intOf i).toNat)
  case atStart => exact ⟨0, 0, Nat.zero_le _, rfl, rfl, Lib.hid (by simp [sumL])⟩
  case round =>
    obtain ⟨k, z, hk, rfl, rfl, HS⟩ := hrel
    have hzb : z ≤ 30 * 140737488355329 := by
      rw [HS.out]
      exact Nat.le_trans (sumL_take k HZ.out) (Nat.mul_le_mul_right _ (by omega))
    have hzb' : (z : Int) ≤ 4222124650659870 := by omega
    by_cases hkl : k < E.length
    · obtain ⟨b, off, A', c', xs, rfl, hx, hc, hi⟩ := H.out.at_ hkl
      have hxl := HZ.out xs (List.mem_of_getElem? hx)
      have HX := Lib.hid hx
      clear hx hi
      go_wp2
      go_round
      case rel =>
        refine ⟨k + 1, z + 1 + xs.length, by omega, by go_num, by go_num, Lib.hid ?_⟩
        rw [take_succ_some HX.out, sumL_app, HS.out]
        simp only [sumL]; omega
      case measure => simp [intOf]; omega
    · obtain rfl : k = E.length := by omega
      have HS' : Hid (z = sumL E) := Lib.hid (by have := HS.out; rwa [List.take_length] at this)
      by_cases hz : 100 < z
      · have HF : Hid (r = true) := Lib.hid (by rw [← HR.out, ← HS'.out]; exact decide_eq_true hz)
        go_wp2
        go_ret
        rw [HF.out]
        exact ⟨rfl, rfl⟩
      · have HF : Hid (r = false) := Lib.hid (by rw [← HR.out, ← HS'.out]; exact decide_eq_false hz)
        have hd : decide (30 < (E.length : Int)) = false := decide_eq_false (by omega)
        have hd2 : decide (100 < (z : Int)) = false := decide_eq_false (by omega)
        go_wp2
        go_ret
        rw [HF.out]
        exact ⟨rfl, rfl⟩

end Go.Proofs.YtaokbjacfdipmaaDoor
