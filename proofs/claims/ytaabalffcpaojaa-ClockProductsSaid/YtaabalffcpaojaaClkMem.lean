/- A slice of int that holds a list of numbers, element by element (nil and empty ones among them), and what keeps it so. -/
import Derived.WalkKit
import Derived.ProofKit
import Derived.Lib.Hide
import Derived.OpenShut
namespace Go.Proofs.Ytaabalffcpaojaa
open Go.RowKit
set_option linter.unusedVariables false

def Ints (w : World) (A : Option Addr) (zs : List Int) : Prop :=
  ∀ k x, zs[k]? = some x → ∃ b off, A = some ⟨b, off, none⟩ ∧ b < w.heap.size ∧ w.cell? ⟨b, off + k, none⟩ = some (.int .i64 x)

theorem Ints.at_ {w : World} {A : Option Addr} {zs : List Int} (h : Ints w A zs) {k : Nat} (hk : k < zs.length) :
    ∃ b off x, A = some ⟨b, off, none⟩ ∧ zs[k]? = some x ∧ w.cell? ⟨b, off + k, none⟩ = some (.int .i64 x) := by
  have hx : zs[k]? = some zs[k] := List.getElem?_eq_getElem hk
  obtain ⟨b, off, e, _, hc⟩ := h k _ hx
  exact ⟨b, off, _, e, hx, hc⟩
theorem Ints.none_ {w : World} {A : Option Addr} : Ints w A [] := fun k x h => by simp at h
theorem Ints.below {w w' : World} {A : Option Addr} {zs : List Int} (h : Ints w A zs) (hb : Below w.heap.size w w') : Ints w' A zs := by
  intro k x hx
  obtain ⟨b, off, e, hlt, hc⟩ := h k x hx
  exact ⟨b, off, e, Nat.lt_of_lt_of_le hlt hb.size, (hb.cell (p := ⟨b, off + k, none⟩) hlt).trans hc⟩

theorem ints_of {W : World} {x : Addr} {zs : List Int} (hc : ∀ i, i < zs.length → W.cell? (x.add i) = some (.int .i64 (zs.getD i 0))) (len : Nat) : Ints W (some x) (zs.take len) := by
  intro k y hy
  have hk : k < zs.length := by
    have := (List.getElem?_eq_some_iff.1 hy).1
    rw [List.length_take] at this
    omega
  obtain ⟨b, off, rfl, hcell⟩ := ints_at hc (by omega)
  have h := hcell k hk
  have e : zs.getD k 0 = y := by
    rw [List.getElem?_take] at hy
    split at hy
    · rw [List.getD_eq_getElem?_getD, hy]; rfl
    · cases hy
  rw [e] at h
  exact ⟨b, off, rfl, World.block_lt_of_cell? W _ h, h⟩

theorem take_snoc_some {zs : List Int} {k : Nat} {x : Int} (h : zs[k]? = some x) : zs.take (k + 1) = zs.take k ++ [x] := by
  rw [List.take_add_one, h]; rfl

end Go.Proofs.Ytaabalffcpaojaa
