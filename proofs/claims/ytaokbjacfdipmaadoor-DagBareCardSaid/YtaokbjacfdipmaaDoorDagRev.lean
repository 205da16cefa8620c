/- Are all of them places; rows turned round: areVertices, reverse. -/
import Derived.Test.YtaokbjacfdipmaaDoorDagTab
namespace Go.Proofs.YtaokbjacfdipmaaDoor
open Go.RowKit
set_option linter.unusedVariables false

def okRow (n : Nat) (l : List Int) : Bool := l.all fun x => decide (0 ≤ x ∧ x < (n : Int))
def okAll (E : List (List Int)) : Bool := E.all (okRow E.length)
theorem okAll_iff {E : List (List Int)} : okAll E = true ↔ Valid E := by
  unfold okAll okRow Valid
  simp only [List.all_eq_true, decide_eq_true_eq]
theorem take_succ_some {α : Type} {l : List α} {k : Nat} {x : α} (h : l[k]? = some x) : l.take (k + 1) = l.take k ++ [x] := by rw [List.take_add_one, h]; rfl

set_option maxHeartbeats 1600000 in
theorem areV_any (E : List (List Int)) (w : World) (A : Option Addr) (c : Nat) (h : IRows w A c E) (hn : E.length ≤ 1000) (r : Bool) (hr : okAll E = r) :
    Calls Tryd.prog 30 #[.slice A E.length c] w fun e w' => e = .returned (.bool r) ∧ w = w' := by
  have H := Lib.hid h; clear h
  have HR := Lib.hid hr; clear hr
  go_enter Tryd.func30, Tryd.ntmps30
  go_wp2
  go_loop [9] (fun i => ∃ k : Nat, k ≤ E.length ∧ i = .int .i64 k ∧ Hid ((E.take k).all (okRow E.length) = true)) (fun i => E.length - (intOf i).toNat)
  case atStart => exact ⟨0, Nat.zero_le _, rfl, Lib.hid (by simp)⟩
  case round =>
    obtain ⟨k, hk, rfl, HT⟩ := hrel
    by_cases hlt : k < E.length
    · obtain ⟨b, off, A', c', xs, rfl, hx, hc, hi⟩ := H.out.at_ hlt
      have HX := Lib.hid hx
      have HI := Lib.hid hi
      have hxl : xs.length ≤ 9223372036854775807 := Nat.le_trans hi.len (by have := Sl.top hi; simpa [maxLen] using this)
      clear hx hi
      go_wp2
      go_loop [15] (fun i => ∃ j : Nat, j ≤ xs.length ∧ i = .int .i64 j ∧ Hid (okRow E.length (xs.take j) = true)) (fun i => xs.length - (intOf i).toNat)
      case atStart => exact ⟨0, Nat.zero_le _, rfl, Lib.hid (by simp [okRow])⟩
      case round =>
        obtain ⟨j, hj, rfl, HT2⟩ := hrel
        by_cases hjl : j < xs.length
        · obtain ⟨b2, off2, x, rfl, hy, hcy⟩ := HI.out.at_ hjl
          have HY := Lib.hid hy; clear hy
          by_cases h0 : x < 0
          · have HF : Hid (r = false) := Lib.hid (by
              rw [← HR.out, Bool.eq_false_iff]; intro hok
              have := (okAll_iff.1 hok) xs (List.mem_of_getElem? HX.out) x (List.mem_of_getElem? HY.out)
              omega)
            go_wp2
            go_ret
            rw [HF.out]
            exact ⟨rfl, rfl⟩
          · by_cases h1 : (E.length : Int) ≤ x
            · have HF : Hid (r = false) := Lib.hid (by
                rw [← HR.out, Bool.eq_false_iff]; intro hok
                have := (okAll_iff.1 hok) xs (List.mem_of_getElem? HX.out) x (List.mem_of_getElem? HY.out)
                omega)
              go_wp2
              go_ret
              rw [HF.out]
              exact ⟨rfl, rfl⟩
            · go_wp2
              go_round
              case rel =>
                refine ⟨j + 1, by omega, by go_num, Lib.hid ?_⟩
                have := HT2.out
                rw [take_succ_some HY.out]
                unfold okRow at this ⊢
                rw [List.all_append, this]
                simp; omega
              case measure => simp [intOf]; omega
        · obtain rfl : j = xs.length := by omega
          go_wp2
          go_round
          case rel =>
            refine ⟨k + 1, by omega, by go_num, Lib.hid ?_⟩
            have h2 := HT2.out
            rw [List.take_length] at h2
            rw [take_succ_some HX.out, List.all_append, HT.out]
            simp [h2]
          case measure => simp [intOf]; omega
    · obtain rfl : k = E.length := by omega
      have HF : Hid (r = true) := Lib.hid (by rw [← HR.out]; have := HT.out; rwa [List.take_length] at this)
      go_wp2
      go_ret
      rw [HF.out]
      exact ⟨rfl, rfl⟩

end Go.Proofs.YtaokbjacfdipmaaDoor
