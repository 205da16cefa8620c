/- Layer 9: the step that tells what is free at a time. -/
import Derived.Test.YtapojmniokdjfaaStpA
import Derived.Test.YtapojmniokdjfaaStpLed
namespace Go.Proofs.Ytapojmniokdjfaa.Stp
open Go.RowKit Go.Shelf
set_option linter.unusedVariables false
set_option maxRecDepth 100000

theorem find1_any (l : List StepD) (t : Int) (A : Option Addr) (n c g1 g2 : Nat) (hn : l.length = n) (k : Nat) (s : StepD) (hs : l[k]? = some s) (w : World) (h : Stp w A c l) (h1 : w.cell? ⟨g1, 0, none⟩ = some (.slice A n c)) (h2 : w.cell? ⟨g2, 0, none⟩ = some (.int .i64 t)) :
    Calls Try.prog 51 #[.int .i64 k, .pointer (some ⟨g1, 0, none⟩), .pointer (some ⟨g2, 0, none⟩)] w fun e w' => e = .returned (.bool (decide (t < s.at_))) ∧ Below w.heap.size w w' := by
  obtain ⟨b, off, eA, c0, c1⟩ := h.cells k s hs
  subst eA
  have hk : k < n := by rw [← hn]; exact (List.getElem?_eq_some_iff.1 hs).1
  clear h hs hn
  go_enter Try.func51, Try.ntmps51
  go_wp2_with fail
  go_quiet (fail)
  go_wp2
  go_ret
  exact ⟨rfl, drN _ _⟩
set_option maxHeartbeats 1600000 in
theorem search_any (n g1 g2 : Nat) (p : Nat → Bool) (hn : n ≤ 100000) (w : World) (h : ∀ k, k < n → ∀ W, Below w.heap.size w W → Calls Try.prog 51 #[.int .i64 k, .pointer (some ⟨g1, 0, none⟩), .pointer (some ⟨g2, 0, none⟩)] W fun e w' => e = .returned (.bool (p k)) ∧ Below W.heap.size W w') :
    Calls Try.prog 50 #[.int .i64 n, .func (.func 51) #[] #[.pointer (some ⟨g1, 0, none⟩), .pointer (some ⟨g2, 0, none⟩)]] w fun e w' => ∃ k : Nat, e = .returned (.int .i64 k) ∧ k ≤ n ∧ (k = 0 ∨ p (k - 1) = false) ∧ (k = n ∨ p k = true) ∧ Below w.heap.size w w' := by
  have H := Lib.hid h
  clear h
  go_enter Try.func50, Try.ntmps50
  go_wp2_with fail
  go_loopw [5, 6] (fun vi vj wr => ∃ i j : Nat, i ≤ j ∧ j ≤ n ∧ vi = .int .i64 i ∧ vj = .int .i64 j ∧ Hid (i = 0 ∨ p (i - 1) = false) ∧ Hid (j = n ∨ p j = true) ∧ Hid (Below w.heap.size w wr)) (fun vi vj _ => (intOf vj).toNat - (intOf vi).toNat)
  case atStart => exact ⟨0, n, Nat.zero_le _, Nat.le_refl _, rfl, rfl, Lib.hid (Or.inl rfl), Lib.hid (Or.inl rfl), Lib.hid (Below.refl _ _)⟩
  case round =>
    obtain ⟨i, j, hij, hjn, rfl, rfl, HI, HJ, HX⟩ := hrel
    by_cases hlt : i < j
    · obtain ⟨q, hq⟩ : ∃ q : Nat, q = (i + j) / 2 := ⟨_, rfl⟩
      have hq1 : i ≤ q := by omega
      have hq2 : q < j := by omega
      have w1 : IntKind.i64.wrap ((i : Int) + (j : Int)) = ((i + j : Nat) : Int) := by rw [IntWalk.i64_in _ (by omega)]; omega
      have HQ := Lib.hid hq
      clear hq hq1 hq2
      go_wp2_with fail
      have hq := HQ.out
      have hq1 : i ≤ q := by omega
      have hq2 : q < j := by omega
      have hqz : ((i : Int) + (j : Int)) / 2 = (q : Int) := by omega
      have hc := H.out q (by omega) wr HX.out
      rw [hqz]
      refine hc.mono ?_
      rintro e w1 ⟨rfl, hb1⟩
      have HX1 := Lib.hid (blw HX.out hb1)
      cases hp : p q
      · have HI1 : Hid (q + 1 = 0 ∨ p (q + 1 - 1) = false) := Lib.hid (Or.inr (by rw [Nat.add_sub_cancel]; exact hp))
        clear hc hb1 hp hq hqz
        go_wp2
        go_roundw
        case rel => exact ⟨q + 1, j, by omega, hjn, by go_num, rfl, HI1, HJ, HX1⟩
        case measure => simp [intOf]; omega
      · have HJ1 : Hid (q = n ∨ p q = true) := Lib.hid (Or.inr hp)
        clear hc hb1 hp hq hqz
        go_wp2
        go_roundw
        case rel => exact ⟨i, q, hq1, by omega, rfl, rfl, HI, HJ1, HX1⟩
        case measure => simp [intOf]; omega
    · obtain rfl : i = j := by omega
      go_wp2
      go_ret
      exact ⟨i, rfl, hjn, HI.out, HJ.out, HX.out⟩
set_option maxHeartbeats 800000 in
theorem find_any (l : List StepD) (t lo : Int) (hr : Rise lo l) (A : Option Addr) (n c : Nat) (hn : l.length = n) (hnm : n ≤ 100000) (w : World) (h : Stp w A c l) :
    Calls Try.prog 32 #[.slice A n c, .int .i64 t] w fun e w' => e = .returned (.int .i64 ((ledF l t : Int) - 1)) ∧ Below w.heap.size w w' := by
  obtain ⟨W2, hW2⟩ : ∃ W2, (w.alloc (.cells #[.slice A n c] 38)).alloc (.cells #[.int .i64 t] 3) = W2 := ⟨_, rfl⟩
  have hb2 : Below w.heap.size w W2 := by rw [← hW2]; exact blw (al _ _) (al _ _)
  have h1 : W2.cell? ⟨w.heap.size, 0, none⟩ = some (.slice A n c) := by
    rw [← hW2]
    exact kp (al _ _) ((Dag.blk_cell (heap_alloc_new w (.cells #[.slice A n c] 38)) 0).trans rfl)
  have h2 : W2.cell? ⟨w.heap.size + 1, 0, none⟩ = some (.int .i64 t) := by
    rw [← hW2]
    have := (Dag.blk_cell (heap_alloc_new (w.alloc (.cells #[.slice A n c] 38)) (.cells #[.int .i64 t] 3)) 0).trans rfl
    simp only [World.size_alloc] at this
    exact this
  have hs2 := h.below hb2
  have HS := Lib.hid (search_any n w.heap.size (w.heap.size + 1) (fun k => match l[k]? with | some s => decide (t < s.at_) | none => true) hnm W2 (fun k hk W hW => by
    obtain ⟨s, hs⟩ : ∃ s, l[k]? = some s := ⟨_, List.getElem?_eq_getElem (by omega)⟩
    have := find1_any l t A n c w.heap.size (w.heap.size + 1) hn k s hs W (hs2.below hW) (kp hW h1) (kp hW h2)
    rw [hs]; exact this))
  have HB2 := Lib.hid hb2
  have HL : Hid (∀ k : Nat, k ≤ n → (k = 0 ∨ (match l[k - 1]? with | some s => decide (t < s.at_) | none => true) = false) → (k = n ∨ (match l[k]? with | some s => decide (t < s.at_) | none => true) = true) → ledF l t = k) := Lib.hid fun k hk hp hq => by
    refine led_is hr (by omega) (fun q s e hs => ?_) (fun s hs => ?_)
    · rcases hp with e0 | hp
      · omega
      · rw [show k - 1 = q from by omega, hs] at hp
        have := of_decide_eq_false hp
        omega
    · rcases hq with e0 | hq
      · have := (List.getElem?_eq_some_iff.1 hs).1; omega
      · rw [hs] at hq
        exact of_decide_eq_true hq
  clear h hr hs2 h1 h2 hb2
  have hnl : n ≤ 9223372036854775807 := by omega
  subst hW2
  go_enter Try.func32, Try.ntmps32
  go_wp2_with fail
  refine HS.out.mono ?_
  rintro e w1 ⟨k, rfl, hk, hp, hq, hb1⟩
  have HK := Lib.hid (HL.out k hk hp hq)
  have HB3 := Lib.hid (blw HB2.out hb1)
  clear hp hq hb1
  have wk : IntKind.i64.wrap ((k : Int) - 1) = (k : Int) - 1 := by rw [IntWalk.i64_in _ (by omega)]
  go_wp2
  go_ret
  exact ⟨by rw [HK.out]; rfl, HB3.out⟩
end Go.Proofs.Ytapojmniokdjfaa.Stp

