/- Layer 7: the document's Length. -/
import Derived.Test.YtkicanegjkemoaaDoorRnkRef3
namespace Go.Proofs.YtkicanegjkemoaaDoor
open Go.RowKit
open Dag (Ints Own1 Sl num num_len num_get Gr newE order befL behL bef_mem beh_mem order_ord)
set_option linter.unusedVariables false
set_option maxRecDepth 100000

theorem rlength_any (f : FlowD) (A : Option Addr) (c : Nat) (w : World) (h : Tasks w A c f.tasks) (hT : Txt.Tabs w) (hl : f.name.length ≤ 1100000) (hn : ∀ t ∈ f.tasks, t.name.length ≤ 1100000) (hlen : f.tasks.length ≤ 30) :
    Calls Tryd.prog 26 #[.agg #[.string (sb f.name), .int .i64 f.deadline, .int .i64 f.priority, .slice A f.tasks.length c]] w fun e w' => e = .returned (.tuple #[.int .i64 (lengthV f), .int .i64 (rankE f (upD f.tasks))]) ∧ Below w.heap.size w w' := by
  have HR := Lib.hid fun W (hW : Below w.heap.size w W) => rranks_any true f A c W (h.below hW) (hT.below hW) hl hn hlen
  obtain ⟨xs, hxs⟩ : ∃ xs, rankV f (upD f.tasks) = xs := ⟨_, rfl⟩
  obtain ⟨e0, he0⟩ : ∃ e0, rankE f (upD f.tasks) = e0 := ⟨_, rfl⟩
  have HLV : Hid (lengthV f = maxL xs) := Lib.hid (by unfold lengthV; rw [hxs])
  unfold RetU at HR
  rw [show selD true f.tasks = upD f.tasks from rfl, hxs, he0] at HR
  rw [he0]
  clear h hT hl hn hxs he0
  go_enter Tryd.func26, Tryd.ntmps26
  go_wp2_with fail
  refine (HR.out _ (al _ _)).mono ?_
  rintro e w1 ⟨B, d, rfl, hi1, hb1⟩
  have HB1 := Lib.hid (blw (al w (flowO f A c)) hb1)
  have HI1 := Lib.hid hi1
  have hnl : xs.length ≤ 9223372036854775807 := Nat.le_trans hi1.len (by have := Sl.top hi1; simpa [maxLen] using this)
  clear hb1 hi1
  obtain ⟨n, hn⟩ : ∃ n, xs.length = n := ⟨_, rfl⟩
  rw [hn] at hnl ⊢
  have HN := Lib.hid hn
  clear hn
  go_wp2
  go_loop [6, 7] (fun nn i => ∃ (k : Nat) (y : Int), k ≤ n ∧ i = .int .i64 k ∧ nn = .int .i64 y ∧ Hid (y = maxL (xs.take k))) (fun _ i => n - (intOf i).toNat)
  case atStart => exact ⟨0, 0, Nat.zero_le _, rfl, rfl, Lib.hid rfl⟩
  case round =>
    obtain ⟨k, y, hk, rfl, rfl, HY⟩ := hrel
    by_cases hlt : k < n
    · obtain ⟨x, hx⟩ : ∃ x, xs[k]? = some x := ⟨_, List.getElem?_eq_getElem (by rw [HN.out]; exact hlt)⟩
      obtain ⟨b, off, eb, cb⟩ := HI1.out.cells k (.int .i64 x) (by unfold Dag.ints; rw [List.getElem?_map, hx]; rfl)
      subst eb
      have HS := Lib.hid (show max y x = maxL (xs.take (k + 1)) from by rw [List.take_add_one, hx, Option.toList_some, maxL_snoc, ← HY.out])
      clear hx
      go_wp2
      go_round
      case rel => exact ⟨k + 1, max y x, by omega, by go_num, rfl, HS⟩
      case measure => simp [intOf]; omega
    · obtain rfl : k = n := by omega
      have HF := Lib.hid (show lengthV f = y from by rw [HLV.out, HY.out, List.take_of_length_le (by rw [HN.out]; exact Nat.le_refl _)])
      go_wp2
      go_ret2
      exact ⟨by rw [HF.out]; rfl, HB1.out⟩
end Go.Proofs.YtkicanegjkemoaaDoor

