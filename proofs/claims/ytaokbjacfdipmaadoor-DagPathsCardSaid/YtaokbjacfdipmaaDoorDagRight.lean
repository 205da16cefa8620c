/- Of the document's: Right. -/
import Derived.Test.YtaokbjacfdipmaaDoorDagRef2
import Derived.Test.YtaokbjacfdipmaaDoorDagPathP
namespace Go.Proofs.YtaokbjacfdipmaaDoor
open Go.RowKit
set_option linter.unusedVariables false

set_option maxHeartbeats 1600000 in
theorem right_any (E : List (List Int)) (w : World) (A : Option Addr) (c : Nat) (h : IRows w A c E) (hn : E.length ≤ 30) (L : List Nat) (d v t : Nat) (hd : L.length = d + 1) (hdn : d < 30)
    (h0 : L[0]? = some v) (h1 : L[d]? = some t) (hlt : ∀ x ∈ L, x < E.length) (harc : ∀ (i x y : Nat), L[i]? = some x → L[i + 1]? = some y → arc E y x = true)
    (B : Option Addr) (cb : Nat) (hl : Ints w B cb (num L)) :
    Calls Tryd.prog 25 #[.slice A E.length c, .slice B (d + 1) cb, .int .i64 (v : Int), .int .i64 (t : Int)] w (RetTrue w) := by
  have H := Lib.hid h; have HLI := Lib.hid hl; have HLT := Lib.hid hlt; have HARC := Lib.hid harc; have HD := Lib.hid hd
  obtain ⟨b, off, x0, rfl, e0, c0⟩ := hl.at_ (k := 0) (by rw [num_len]; omega)
  rw [num_get, h0] at e0
  injection e0 with e0
  subst e0
  obtain ⟨b', off', x1, e', e1, c1⟩ := hl.at_ (k := d) (by rw [num_len]; omega)
  injection e' with e'
  injection e' with e' e''
  subst e' e''
  rw [num_get, h1] at e1
  injection e1 with e1
  subst e1
  have hw : IntKind.i64.wrap ((d : Int) + 1 - 1) = (d : Int) := by rw [IntKind.wrap_i64]; omega
  have hz : ((d : Int) + 1 == 0) = false := by rw [beq_eq_false_iff_ne]; omega
  rw [Nat.add_zero] at c0
  clear h hl h0 h1 hlt harc hd
  go_enter Tryd.func25, Tryd.ntmps25
  go_wp2_with fail
  clear c0 c1 hw hz
  go_loopw [9] (fun iv wr => ∃ j : Nat, j ≤ d ∧ iv = .int .i64 ((j : Int) + 1) ∧ Hid (Below w.heap.size w wr)) (fun iv _ => d + 1 - (intOf iv).toNat)
  case atStart => exact ⟨0, Nat.zero_le _, rfl, Lib.hid (Below.refl _ _)⟩
  case round =>
    obtain ⟨j, hj, rfl, HB⟩ := hrel
    by_cases hjd : j < d
    · obtain ⟨x, hx⟩ : ∃ x, L[j]? = some x := ⟨_, List.getElem?_eq_getElem (by have := HD.out; omega)⟩
      obtain ⟨y, hy⟩ : ∃ y, L[j + 1]? = some y := ⟨_, List.getElem?_eq_getElem (by have := HD.out; omega)⟩
      have hyl := HLT.out y (List.mem_of_getElem? hy)
      have ha := HARC.out j x y hx hy
      obtain ⟨b1, o1, x1, e1, f1, c1⟩ := (HLI.out.below HB.out).at_ (k := j) (by rw [num_len, HD.out]; omega)
      obtain ⟨b2, o2, x2, e2, f2, c2⟩ := (HLI.out.below HB.out).at_ (k := j + 1) (by rw [num_len, HD.out]; omega)
      injection e1 with e1
      injection e1 with e1 e1'
      injection e2 with e2
      injection e2 with e2 e2'
      subst e1 e1' e2 e2'
      rw [num_get, hx] at f1
      rw [num_get, hy] at f2
      injection f1 with f1
      injection f2 with f2
      subst f1 f2
      obtain ⟨bE, oE, A', c', rfl, hc0, hi⟩ := H.out.cells y _ (row_get hyl)
      have hc := (HB.out.cell (p := ⟨bE, oE + y, none⟩) (World.block_lt_of_cell? w _ hc0)).trans hc0
      have HI := Lib.hid (hi.below HB.out)
      have HRD : Hid (decide ((x : Int) ∈ row E y) = true) := Lib.hid ha
      have hjw : IntKind.i64.wrap ((j : Int) + 1 - 1) = (j : Int) := by rw [IntKind.wrap_i64]; omega
      have d1 : decide ((y : Int) < 0) = false := decide_eq_false (by omega)
      have HAS := Lib.hid fun nn => hasI_any (row E y) _ rfl (x : Int) (wr.drewN nn) _ _ (HI.out.below (below_drew wr nn)) true HRD.out
      clear hx hy ha hc0 hi
      have d2 : decide (E.length ≤ y) = false := decide_eq_false (by omega)
      go_wp2_with fail
      go_quiet (first | (go_at_call 28; refine Calls.quiet_of_same ((HAS.out _).mono fun _ _ h => ⟨h.1, h.2.symm⟩)))
      go_wp2_with fail
      go_roundw
      case rel => exact ⟨j + 1, by omega, by go_num, Lib.hid (blw HB.out (below_drew wr nq))⟩
      case measure => simp [intOf]; omega
    · obtain rfl : j = d := by omega
      go_wp2
      go_ret
      exact ⟨rfl, HB.out⟩

end Go.Proofs.YtaokbjacfdipmaaDoor
