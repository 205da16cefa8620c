/- How many values lists of bytes are, and how many bytes their frames have. -/
import Derived.Test.YtieeojigonbifaaJrnArg
import Derived.Test.YtieeojigonbifaaJrnSet
namespace Go.Proofs.Ytieeojigonbifaa
open Go.RowKit
set_option linter.unusedVariables false

theorem sz_cnt (ls : List (List Int)) : sz ls ≤ 8 * cnt ls := by
  induction ls with
  | nil => simp [sz, cnt]
  | cons x l ih => simp only [sz, cnt]; omega
theorem len_sz (ls : List (List Int)) : ls.length ≤ sz ls := by
  induction ls with
  | nil => simp [sz]
  | cons x l ih => simp only [sz, List.length_cons]; omega
theorem sz_take (ls : List (List Int)) (k : Nat) : sz (ls.take k) ≤ sz ls := by
  have := sz_app (ls.take k) (ls.drop k)
  rw [List.take_append_drop] at this; omega
theorem rws_of {w : World} {base n c : Nat} {S : Nat → Prop} {A : Option Addr} {ls : List (List Int)} (h : OwnR w base S (.slice A n c) ls) : Rws w (fun b => S b ∨ (base ≤ b ∧ (Value.slice A n c).ownBlock = some b)) A c ls := by
  obtain ⟨A9, c9, e9, hB⟩ := h.rws
  injection e9 with ea eb ec
  subst ea ec eb
  exact hB
theorem jrn_alloc {w : World} {base g : Nat} {v : Value} {xs : List Int} {cnt : Nat} (h : Jrn w base g v xs cnt) (o : Obj) : Jrn (w.alloc o) base g v xs cnt := h.keep fun b _ hlt => Below.heap_alloc w o b hlt

end Go.Proofs.Ytieeojigonbifaa
