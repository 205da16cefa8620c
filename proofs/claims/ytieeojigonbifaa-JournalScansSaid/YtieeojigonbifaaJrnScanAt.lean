/- Scan at what it comes to; what it hands back as rows. -/
import Derived.Test.YtieeojigonbifaaJrnScan
namespace Go.Proofs.Ytieeojigonbifaa
open Go.RowKit
set_option linter.unusedVariables false

theorem scan_at (R : Nat → Prop) (A : Option Addr) (c n : Nat) (xs : List Int) (w : World) (ls : List (List Int)) (at_ : Nat) (ev : Int) (h : Byts w R A c xs) (hn : xs.length = n) (hl : n ≤ 4194304) (hs : scan xs = (ls, at_, ev)) :
    Calls Try.prog 16 #[.slice A n c] w (RetS w ls at_ ev) := by
  have := scan_any R A c n xs w h hn hl
  rw [hs] at this
  exact this
theorem rws_new {w : World} {base : Nat} {A : Option Addr} {n c : Nat} {ls : List (List Int)} (h : OwnR w base (fun b => base ≤ b) (.slice A n c) ls) : Rws w (fun b => base ≤ b) A c ls := by
  obtain ⟨A9, c9, e9, hB⟩ := h.rws
  injection e9 with ea eb ec
  subst ea ec
  exact hB.mono fun b _ h => h.elim id (·.1)
theorem wf_u16 {x : Int} (h : (Lit.int .u16 x).wf = true) : 0 ≤ x ∧ x ≤ 65535 := by
  simpa [Lit.wf, IntKind.min, IntKind.max, IntKind.signed, IntKind.bits] using h

end Go.Proofs.Ytieeojigonbifaa
