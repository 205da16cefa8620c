/- Layer 8: the same windows; the chapter's workflow; known. -/
import Derived.Test.YtmnehhphabiffaaDoorSplD
namespace Go.Proofs.YtmnehhphabiffaaDoor
open Go.RowKit Go.Shelf
open Dag (Ints Own1 Sl num num_len num_get Gr newE order behL order_ord)
set_option linter.unusedVariables false
set_option maxRecDepth 100000

theorem same_win (l : List WinD) (n : Nat) (hn : l.length = n) (w : World) (A B : Option Addr) (c d : Nat) (h1 : Wins w A c l) (h2 : Wins w B d l) :
    Calls Tryd.prog 30 #[.slice A n c, .slice B n d] w fun e w' => e = .returned (.bool true) ∧ Below w.heap.size w w' := by
  have hnl : n ≤ 9223372036854775807 := by rw [← hn]; exact Nat.le_trans h1.cap (by have := h1.top; simpa [maxLen] using this)
  have H1 := Lib.hid h1; have H2 := Lib.hid h2; have HN := Lib.hid hn
  clear h1 h2 hn
  go_enter Tryd.func30, Tryd.ntmps30
  go_wp2
  go_loopw [5] (fun i wr => ∃ k : Nat, k ≤ n ∧ i = .int .i64 k ∧ Hid (Below w.heap.size w wr)) (fun i _ => n - (intOf i).toNat)
  case atStart => exact ⟨0, Nat.zero_le _, rfl, Lib.hid (Below.refl _ _)⟩
  case round =>
    obtain ⟨k, hk, rfl, HB⟩ := hrel
    by_cases hlt : k < n
    · obtain ⟨x, hx⟩ : ∃ x, l[k]? = some x := ⟨_, List.getElem?_eq_getElem (by rw [HN.out]; exact hlt)⟩
      obtain ⟨b1, o1, e1, c1, c2⟩ := (H1.out.below HB.out).cells k x hx
      obtain ⟨b2, o2, e2, c3, c4⟩ := (H2.out.below HB.out).cells k x hx
      subst e1 e2
      clear hx
      go_wp2_with fail
      go_quiet (fail)
      go_wp2
      go_roundw
      case rel => exact ⟨k + 1, by omega, by go_num, Lib.hid (blw HB.out (bdrew _ _))⟩
      case measure => simp [intOf]; omega
    · obtain rfl : k = n := by omega
      go_wp2
      go_ret
      exact ⟨rfl, HB.out⟩
end Go.Proofs.YtmnehhphabiffaaDoor

