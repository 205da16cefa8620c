/- Layer 7: a task's weight, the greatest of some numbers, by the program and by the document. -/
import Derived.Test.YtkicanegjkemoaaDoorRnkPure
import Derived.Test.YtkicanegjkemoaaDoorFlwCheck
import Derived.Test.YtkicanegjkemoaaDoorFlwRChk
import Derived.Test.YtkicanegjkemoaaDoorDagG
namespace Go.Proofs.YtkicanegjkemoaaDoor
open Go.RowKit
open Dag (Ints Own1 Sl num num_len)
set_option linter.unusedVariables false
set_option maxRecDepth 100000

theorem weight_any (t : TaskD) (A : Option Addr) (c : Nat) (w : World) :
    Calls Tryd.prog 21 #[.agg #[.string (sb t.name), .int .i64 t.nodes, .int .i64 t.wall, .int .i64 t.retry, .bool t.done, .slice A t.after.length c]] w fun e w' => e = .returned (.int .i64 (wgt t)) ∧ Below w.heap.size w w' := by
  cases hd : t.done
  · have HW := Lib.hid (show wgt t = t.wall from by unfold wgt; rw [if_neg (by rw [hd]; decide)])
    clear hd
    go_enter Tryd.func21, Tryd.ntmps21
    go_wp2
    go_ret
    exact ⟨by rw [HW.out]; rfl, al _ _⟩
  · have HW := Lib.hid (show wgt t = 0 from by unfold wgt; rw [if_pos hd])
    clear hd
    go_enter Tryd.func21, Tryd.ntmps21
    go_wp2
    go_ret
    exact ⟨by rw [HW.out]; rfl, al _ _⟩
theorem rweight_any (t : TaskD) (A : Option Addr) (c : Nat) (w : World) :
    Calls Tryd.prog 27 #[.agg #[.string (sb t.name), .int .i64 t.nodes, .int .i64 t.wall, .int .i64 t.retry, .bool t.done, .slice A t.after.length c]] w fun e w' => e = .returned (.int .i64 (wgt t)) ∧ Below w.heap.size w w' := by
  cases hd : t.done
  · have HW := Lib.hid (show wgt t = t.wall from by unfold wgt; rw [if_neg (by rw [hd]; decide)])
    clear hd
    go_enter Tryd.func27, Tryd.ntmps27
    go_wp2
    go_ret
    exact ⟨by rw [HW.out]; rfl, al _ _⟩
  · have HW := Lib.hid (show wgt t = 0 from by unfold wgt; rw [if_pos hd])
    clear hd
    go_enter Tryd.func27, Tryd.ntmps27
    go_wp2
    go_ret
    exact ⟨by rw [HW.out]; rfl, al _ _⟩

set_option maxHeartbeats 1600000 in
theorem greatest_any (xs : List Int) (n : Nat) (hn : xs.length = n) (ts : List Nat) (m : Nat) (hm : ts.length = m) (hlt : ∀ v ∈ ts, v < n) (w : World) (A B : Option Addr) (c d : Nat) (h1 : Ints w A c xs) (h2 : Ints w B d (num ts)) :
    Calls Tryd.prog 63 #[.slice A n c, .slice B m d] w fun e w' => e = .returned (.int .i64 (maxL (ts.map (atL xs)))) ∧ w = w' := by
  have hnl : n ≤ 9223372036854775807 := by rw [← hn]; exact Nat.le_trans h1.len (by have := Sl.top h1; simpa [maxLen] using this)
  have hml : m ≤ 9223372036854775807 := by have h := h2.len; rw [num_len, hm] at h; exact Nat.le_trans h (by have := Sl.top h2; simpa [maxLen] using this)
  have H1 := Lib.hid h1; have H2 := Lib.hid h2; have HN := Lib.hid hn; have HM := Lib.hid hm; have HL := Lib.hid hlt
  clear h1 h2 hn hm hlt
  go_enter Tryd.func63, Tryd.ntmps63
  go_wp2
  go_loop [5, 10] (fun nn i => ∃ (k : Nat) (y : Int), k ≤ m ∧ i = .int .i64 k ∧ nn = .int .i64 y ∧ Hid (y = maxL ((ts.take k).map (atL xs)))) (fun _ i => m - (intOf i).toNat)
  case atStart => exact ⟨0, 0, Nat.zero_le _, rfl, rfl, Lib.hid rfl⟩
  case round =>
    obtain ⟨k, y, hk, rfl, rfl, HY⟩ := hrel
    by_cases hlt : k < m
    · obtain ⟨v, hv⟩ : ∃ v, ts[k]? = some v := ⟨_, List.getElem?_eq_getElem (by rw [HM.out]; exact hlt)⟩
      have hvn := HL.out v (List.mem_of_getElem? hv)
      obtain ⟨x, hx⟩ : ∃ x, xs[v]? = some x := ⟨_, List.getElem?_eq_getElem (by rw [HN.out]; exact hvn)⟩
      obtain ⟨b1, o1, e1, c1⟩ := H2.out.cells k (.int .i64 (v : Int)) (by unfold Dag.ints; rw [List.getElem?_map, Dag.num_get, hv]; rfl)
      obtain ⟨b2, o2, e2, c2⟩ := H1.out.cells v (.int .i64 x) (by unfold Dag.ints; rw [List.getElem?_map, hx]; rfl)
      subst e1 e2
      have HS := Lib.hid (show max y x = maxL ((ts.take (k + 1)).map (atL xs)) from by
        rw [List.take_add_one, hv, Option.toList_some, List.map_append, List.map_cons, List.map_nil, maxL_snoc, ← HY.out, atL_some hx])
      clear hv hx
      go_wp2
      go_round
      case rel => exact ⟨k + 1, max y x, by omega, by go_num, rfl, HS⟩
      case measure => simp [intOf]; omega
    · obtain rfl : k = m := by omega
      have HF := Lib.hid (show maxL (ts.map (atL xs)) = y from by rw [HY.out, List.take_of_length_le (by rw [HM.out]; exact Nat.le_refl _)])
      go_wp2
      go_ret
      exact ⟨by rw [HF.out]; rfl, rfl⟩
end Go.Proofs.YtkicanegjkemoaaDoor

