/- Layer 8: what the laws share. -/
import Derived.Test.YtkicanegjkemoaaDoorSplF
import Derived.Test.YtkicanegjkemoaaDoorLong8
namespace Go.Proofs.YtkicanegjkemoaaDoor
open Go.RowKit Go.Shelf
set_option linter.unusedVariables false
set_option maxRecDepth 100000

theorem u16_bd {m : Int} (h : (Lit.int .u16 m).wf = true) : 0 ≤ m ∧ m < 65536 := by
  have := h
  simp [Lit.wf] at this
  rw [show IntKind.u16.min = 0 from rfl, show IntKind.u16.max = 65535 from rfl] at this
  omega
theorem u8_bd {m : Int} (h : (Lit.int .u8 m).wf = true) : 0 ≤ m ∧ m < 256 := by
  have := h
  simp [Lit.wf] at this
  rw [show IntKind.u8.min = 0 from rfl, show IntKind.u8.max = 255 from rfl] at this
  omega
theorem fla_of {w : World} {f : FlowD} {A : Option Addr} {c : Nat} (h : Tasks w A c f.tasks) (hT : Tb3 w) (hl : longD f = false) : FlA w f A c := by
  obtain ⟨hn, _⟩ := longD_no hl
  obtain ⟨h1, h2⟩ := longD_names hl
  exact ⟨h, hT, by omega, fun t ht => by have := (h2 t ht).1; omega, hn, fun t ht => by have := (h2 t ht).2; omega⟩
/-- a later time -/
theorem win_more {f : FlowD} {now by_ m : Int} (h : winE f now by_ = 0) (hm : 0 ≤ m) : (1099511627775 < by_ + m ∧ winE f now (by_ + m) = 2 ∧ winE f (now + m) (by_ + m) = 2) ∨ (winE f now (by_ + m) = 0 ∧ winE f (now + m) (by_ + m) = 0) := by
  obtain ⟨h1, h2, h3, h4⟩ := win_yes h
  obtain ⟨h5, h6, h7⟩ := ear_yes h3
  have hb := lenV_bd f
  have i1 := isT_iff.1 h1; have i2 := isT_iff.1 h2
  rcases Int.lt_or_le 1099511627775 (by_ + m) with hgt | hle
  · have ht : Clk.isT (by_ + m) = false := Clk.isT_high hgt
    refine Or.inl ⟨hgt, ?_, ?_⟩
    · unfold winE; rw [if_neg (fun h => by rw [ht] at h; cases h.2)]
    · unfold winE; rw [if_neg (fun h => by rw [ht] at h; cases h.2)]
  · have ht : Clk.isT (by_ + m) = true := isT_iff.2 ⟨by omega, hle⟩
    have hn : Clk.isT (now + m) = true := isT_iff.2 ⟨by omega, by omega⟩
    refine Or.inr ⟨win_iff.2 ⟨h1, ht, h3, by omega⟩, win_iff.2 ⟨hn, ht, ?_, by omega⟩⟩
    unfold earE
    rw [if_pos hn, if_pos h6, if_pos (by unfold maxT; omega)]

end Go.Proofs.YtkicanegjkemoaaDoor

