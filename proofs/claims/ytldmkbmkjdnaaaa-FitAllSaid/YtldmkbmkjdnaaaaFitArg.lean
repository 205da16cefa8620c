/- An argument that is a window. -/
import Derived.Test.YtldmkbmkjdnaaaaStpArg
namespace Go.Proofs.Ytldmkbmkjdnaaaa.Ft
open Go.ChangeShapes Go.WideShapes Go.ChangeAt Go.RowKit Go.Shelf Go.Lib
open Stp
set_option linter.unusedVariables false
set_option maxRecDepth 100000
theorem u8_bd {m : Int} (h : (Lit.int .u8 m).wf = true) : 0 ≤ m ∧ m < 256 := by
  have := h
  simp [Lit.wf] at this
  rw [show IntKind.u8.min = 0 from rfl, show IntKind.u8.max = 255 from rfl] at this
  omega
section
variable {H : Type} {enc : TypeId × Value → H} {w : World}
theorem c_win : Try.prog.cellsOf 28 = 2 := by kernel_rfl
theorem win_arg {fuel : Nat} {cs : List Value} {x : DataW H × List MemPlace} (h : DataW.trod enc Try.prog w 0 (fun _ => true) true fuel 28 cs = some x) :
    ∃ a b : Int, cs = [.int .i64 a, .int .i64 b] := by
  obtain ⟨y0, y1, n, hx, hl, h0, h1⟩ := tst2x Try.underlying28 h
  rw [c_win] at hl
  match cs, hl with
  | [a0, a1], _ =>
    simp only [c_int, List.drop_zero, List.drop_succ_cons, List.take_succ_cons, List.take_zero] at h0 h1
    obtain ⟨n0, e0, _, _⟩ := DataW.trod_int Try.underlying3 h0
    obtain ⟨n1, e1, _, _⟩ := DataW.trod_int Try.underlying3 h1
    simp only [List.cons.injEq, and_true] at e0 e1
    subst e0 e1
    exact ⟨n0, n1, rfl⟩
end
end Go.Proofs.Ytldmkbmkjdnaaaa.Ft

