/-
  No cell of these rows narrows 'for every input' (looked for: loops, veiled, ifaces, maps, wideKeys, modest, calm, conditions, laid).
  DERIVED. THE GIVEN ROWS OF THIS SEAT. 8 by the template 'for every input the law returns true; each argument reads behind the call as it read before'; 0 by the template 'total and deterministic' (their statements: YtaabalffcpaojaaTotals.lean).
  GIVEN WITH THE SEED: the statements are not yours to turn. If you find one false, say at which input.
  Laid BY PROGRAM, IN A SANDBOX (cutbox-rows.mjs): the forced cells as the released guide's own fill.sh prints them over the translation afbb8003141b316d… (all of the seat's roots in one cut). By AI agents, Wed Nov 11 2026. No macro, syntax, notation, axiom, sorry.
-/
import Derived.Test.YtaabalffcpaojaaChecked
import GoSem.Claim
import GoSem.ClaimJoined
import GoSem.ClaimMapViews
import Derived.JoinedTies
import Derived.KernelRfl
namespace Go.Proofs.Ytaabalffcpaojaa
/- THE CELL 'sum', in the pinned program and in every row, IS THE sha256 OF THE DUMP (.gsa) THAT YtaabalffcpaojaaProg.lean LOADS. Nothing in Lean hashes anything: it is a label: what it is worth is what the hold of that sum in a sandbox is worth. -/
noncomputable def Try.pinned : Pinned := { name := "ytaabalffcpaojaa", sum := "afbb8003141b316d6bca1f970e0b50e0db1c944c6b11c41b7a962e2904cea746", checked := Try.checked }
namespace Rows
def none {H : Type} : Left H := { results := [], args := [] }

/-- 'timekeeperlaw01.ClockAdds': WHATEVER THE INPUT: true; the input reads as it did. -/
def clockAddsSpec : ChangeSpec := { name := "clockAdds", fn := fun _ => fun
  | [d1, d2] => { results := [.lit (.bool true)], args := [d1, d2] }
  | _ => none }
def clockAddsRow : OpenClaim := { program := "ytaabalffcpaojaa", sum := "afbb8003141b316d6bca1f970e0b50e0db1c944c6b11c41b7a962e2904cea746", func := "timekeeper/timekeeperlaw01.ClockAdds", spec := "clockAdds", apart := false }
def ClockAddsSaid : Prop := clockAddsRow.holds Try.pinned (OpenSpec.ofChange clockAddsSpec)

/-- ITS FALSE NEIGHBOUR: 'it returns false'. Refute it at one input. -/
def clockAddsWrong : ChangeSpec := { name := "clockAdds", fn := fun _ => fun
  | [d1, d2] => { results := [.lit (.bool false)], args := [d1, d2] }
  | _ => none }
def ClockAddsWrongFalsely : Prop := clockAddsRow.holds Try.pinned (OpenSpec.ofChange clockAddsWrong)

/-- 'timekeeperlaw01.ClockTwo': WHATEVER THE INPUT: true; the input reads as it did. -/
def clockTwoSpec : ChangeSpec := { name := "clockTwo", fn := fun _ => fun
  | [d1, d2] => { results := [.lit (.bool true)], args := [d1, d2] }
  | _ => none }
def clockTwoRow : OpenClaim := { program := "ytaabalffcpaojaa", sum := "afbb8003141b316d6bca1f970e0b50e0db1c944c6b11c41b7a962e2904cea746", func := "timekeeper/timekeeperlaw01.ClockTwo", spec := "clockTwo", apart := false }
def ClockTwoSaid : Prop := clockTwoRow.holds Try.pinned (OpenSpec.ofChange clockTwoSpec)

/-- ITS FALSE NEIGHBOUR: 'it returns false'. Refute it at one input. -/
def clockTwoWrong : ChangeSpec := { name := "clockTwo", fn := fun _ => fun
  | [d1, d2] => { results := [.lit (.bool false)], args := [d1, d2] }
  | _ => none }
def ClockTwoWrongFalsely : Prop := clockTwoRow.holds Try.pinned (OpenSpec.ofChange clockTwoWrong)

/-- 'timekeeperlaw01.ClockTexts': WHATEVER THE INPUT: true; the input reads as it did. -/
def clockTextsSpec : ChangeSpec := { name := "clockTexts", fn := fun _ => fun
  | [d1, d2] => { results := [.lit (.bool true)], args := [d1, d2] }
  | _ => none }
def clockTextsRow : OpenClaim := { program := "ytaabalffcpaojaa", sum := "afbb8003141b316d6bca1f970e0b50e0db1c944c6b11c41b7a962e2904cea746", func := "timekeeper/timekeeperlaw01.ClockTexts", spec := "clockTexts", recurses := true, apart := false }
def ClockTextsSaid : Prop := clockTextsRow.holds Try.pinned (OpenSpec.ofChange clockTextsSpec)

/-- ITS FALSE NEIGHBOUR: 'it returns false'. Refute it at one input. -/
def clockTextsWrong : ChangeSpec := { name := "clockTexts", fn := fun _ => fun
  | [d1, d2] => { results := [.lit (.bool false)], args := [d1, d2] }
  | _ => none }
def ClockTextsWrongFalsely : Prop := clockTextsRow.holds Try.pinned (OpenSpec.ofChange clockTextsWrong)

/-- 'timekeeperlaw01.ClockBack': WHATEVER THE INPUT: true; the input reads as it did. -/
def clockBackSpec : ChangeSpec := { name := "clockBack", fn := fun _ => fun
  | [d1, d2] => { results := [.lit (.bool true)], args := [d1, d2] }
  | _ => none }
def clockBackRow : OpenClaim := { program := "ytaabalffcpaojaa", sum := "afbb8003141b316d6bca1f970e0b50e0db1c944c6b11c41b7a962e2904cea746", func := "timekeeper/timekeeperlaw01.ClockBack", spec := "clockBack", apart := false }
def ClockBackSaid : Prop := clockBackRow.holds Try.pinned (OpenSpec.ofChange clockBackSpec)

/-- ITS FALSE NEIGHBOUR: 'it returns false'. Refute it at one input. -/
def clockBackWrong : ChangeSpec := { name := "clockBack", fn := fun _ => fun
  | [d1, d2] => { results := [.lit (.bool false)], args := [d1, d2] }
  | _ => none }
def ClockBackWrongFalsely : Prop := clockBackRow.holds Try.pinned (OpenSpec.ofChange clockBackWrong)

/-- 'timekeeperlaw01.ClockLaws': WHATEVER THE INPUT: true; the input reads as it did. -/
def clockLawsSpec : ChangeSpec := { name := "clockLaws", fn := fun _ => fun
  | [d1, d2, d3] => { results := [.lit (.bool true)], args := [d1, d2, d3] }
  | _ => none }
def clockLawsRow : OpenClaim := { program := "ytaabalffcpaojaa", sum := "afbb8003141b316d6bca1f970e0b50e0db1c944c6b11c41b7a962e2904cea746", func := "timekeeper/timekeeperlaw01.ClockLaws", spec := "clockLaws", apart := false }
def ClockLawsSaid : Prop := clockLawsRow.holds Try.pinned (OpenSpec.ofChange clockLawsSpec)

/-- ITS FALSE NEIGHBOUR: 'it returns false'. Refute it at one input. -/
def clockLawsWrong : ChangeSpec := { name := "clockLaws", fn := fun _ => fun
  | [d1, d2, d3] => { results := [.lit (.bool false)], args := [d1, d2, d3] }
  | _ => none }
def ClockLawsWrongFalsely : Prop := clockLawsRow.holds Try.pinned (OpenSpec.ofChange clockLawsWrong)

/-- 'timekeeperlaw01.ClockOrders': WHATEVER THE INPUT: true; the input reads as it did. -/
def clockOrdersSpec : ChangeSpec := { name := "clockOrders", fn := fun _ => fun
  | [d1, d2, d3] => { results := [.lit (.bool true)], args := [d1, d2, d3] }
  | _ => none }
def clockOrdersRow : OpenClaim := { program := "ytaabalffcpaojaa", sum := "afbb8003141b316d6bca1f970e0b50e0db1c944c6b11c41b7a962e2904cea746", func := "timekeeper/timekeeperlaw01.ClockOrders", spec := "clockOrders", apart := false }
def ClockOrdersSaid : Prop := clockOrdersRow.holds Try.pinned (OpenSpec.ofChange clockOrdersSpec)

/-- ITS FALSE NEIGHBOUR: 'it returns false'. Refute it at one input. -/
def clockOrdersWrong : ChangeSpec := { name := "clockOrders", fn := fun _ => fun
  | [d1, d2, d3] => { results := [.lit (.bool false)], args := [d1, d2, d3] }
  | _ => none }
def ClockOrdersWrongFalsely : Prop := clockOrdersRow.holds Try.pinned (OpenSpec.ofChange clockOrdersWrong)

/-- 'timekeeperlaw01.ClockClips': WHATEVER THE INPUT: true; the input reads as it did. -/
def clockClipsSpec : ChangeSpec := { name := "clockClips", fn := fun _ => fun
  | [d1, d2, d3] => { results := [.lit (.bool true)], args := [d1, d2, d3] }
  | _ => none }
def clockClipsRow : OpenClaim := { program := "ytaabalffcpaojaa", sum := "afbb8003141b316d6bca1f970e0b50e0db1c944c6b11c41b7a962e2904cea746", func := "timekeeper/timekeeperlaw01.ClockClips", spec := "clockClips", apart := false }
def ClockClipsSaid : Prop := clockClipsRow.holds Try.pinned (OpenSpec.ofChange clockClipsSpec)

/-- ITS FALSE NEIGHBOUR: 'it returns false'. Refute it at one input. -/
def clockClipsWrong : ChangeSpec := { name := "clockClips", fn := fun _ => fun
  | [d1, d2, d3] => { results := [.lit (.bool false)], args := [d1, d2, d3] }
  | _ => none }
def ClockClipsWrongFalsely : Prop := clockClipsRow.holds Try.pinned (OpenSpec.ofChange clockClipsWrong)

/-- 'timekeeperlaw01.ClockProducts': WHATEVER THE INPUT: true; the input reads as it did. -/
def clockProductsSpec : ChangeSpec := { name := "clockProducts", fn := fun _ => fun
  | [d1, d2] => { results := [.lit (.bool true)], args := [d1, d2] }
  | _ => none }
def clockProductsRow : OpenClaim := { program := "ytaabalffcpaojaa", sum := "afbb8003141b316d6bca1f970e0b50e0db1c944c6b11c41b7a962e2904cea746", func := "timekeeper/timekeeperlaw01.ClockProducts", spec := "clockProducts", apart := false }
def ClockProductsSaid : Prop := clockProductsRow.holds Try.pinned (OpenSpec.ofChange clockProductsSpec)

/-- ITS FALSE NEIGHBOUR: 'it returns false'. Refute it at one input. -/
def clockProductsWrong : ChangeSpec := { name := "clockProducts", fn := fun _ => fun
  | [d1, d2] => { results := [.lit (.bool false)], args := [d1, d2] }
  | _ => none }
def ClockProductsWrongFalsely : Prop := clockProductsRow.holds Try.pinned (OpenSpec.ofChange clockProductsWrong)

/- THE SECOND FORM. 'bulk': how many values and letters a reading holds, each counted each time it is reached (what is shared counts as often as it is met; a slice's spare places count too). A statement '..UptoSaid' is the law's where the arguments, and the package variables that the reading takes, are together of bulk at most 1048576: NARROWER than '..Said'. Prove '..Said' where nothing that the law and all that it calls make is longer than what came in: it says more and counts as full. Else prove '..UptoSaid'. A law counts once. -/
mutual
def uptoBulk {H : Type} : DataW H → Nat
  | .lit (.string bytes) => bytes.length + 1
  | .lit _ => 1
  | .nil => 1
  | .ptr d => uptoBulk d + 1
  | .slice elems spare => uptoBulkAll elems + uptoBulkAll spare + 1
  | .agg parts => uptoBulkAll parts + 1
  | .iface _ d => uptoBulk d + 1
  | .map entries => uptoBulkEntries entries + 1
  | .held _ => 1
def uptoBulkAll {H : Type} : List (DataW H) → Nat
  | [] => 0
  | d :: r => uptoBulk d + uptoBulkAll r
def uptoBulkEntries {H : Type} : List (Lit × DataW H) → Nat
  | [] => 0
  | x :: r => uptoBulkEntry x + uptoBulkEntries r
def uptoBulkEntry {H : Type} : Lit × DataW H → Nat
  | (.string bytes, d) => bytes.length + uptoBulk d + 1
  | (_, d) => uptoBulk d + 1
 end
def uptoSmall : (H : Type) → List (DataW H) → Bool := fun _ ds => decide (uptoBulkAll ds ≤ 1048576)
def OpenSpec.upto (s : _root_.Go.ChangeSpec) : _root_.Go.OpenSpec := { _root_.Go.OpenSpec.ofChange s with cond := some uptoSmall }

/-- 'timekeeperlaw01.ClockAdds', WHERE WHAT IT READS IS OF BULK AT MOST 1048576: true; the input reads as it did. -/
def clockAddsUptoRow : OpenClaim := { program := "ytaabalffcpaojaa", sum := "afbb8003141b316d6bca1f970e0b50e0db1c944c6b11c41b7a962e2904cea746", func := "timekeeper/timekeeperlaw01.ClockAdds", spec := "clockAdds", apart := false, narrowed := true }
def ClockAddsUptoSaid : Prop := clockAddsUptoRow.holds Try.pinned (OpenSpec.upto clockAddsSpec)

/-- 'timekeeperlaw01.ClockTwo', WHERE WHAT IT READS IS OF BULK AT MOST 1048576: true; the input reads as it did. -/
def clockTwoUptoRow : OpenClaim := { program := "ytaabalffcpaojaa", sum := "afbb8003141b316d6bca1f970e0b50e0db1c944c6b11c41b7a962e2904cea746", func := "timekeeper/timekeeperlaw01.ClockTwo", spec := "clockTwo", apart := false, narrowed := true }
def ClockTwoUptoSaid : Prop := clockTwoUptoRow.holds Try.pinned (OpenSpec.upto clockTwoSpec)

/-- 'timekeeperlaw01.ClockTexts', WHERE WHAT IT READS IS OF BULK AT MOST 1048576: true; the input reads as it did. -/
def clockTextsUptoRow : OpenClaim := { program := "ytaabalffcpaojaa", sum := "afbb8003141b316d6bca1f970e0b50e0db1c944c6b11c41b7a962e2904cea746", func := "timekeeper/timekeeperlaw01.ClockTexts", spec := "clockTexts", recurses := true, apart := false, narrowed := true }
def ClockTextsUptoSaid : Prop := clockTextsUptoRow.holds Try.pinned (OpenSpec.upto clockTextsSpec)

/-- 'timekeeperlaw01.ClockBack', WHERE WHAT IT READS IS OF BULK AT MOST 1048576: true; the input reads as it did. -/
def clockBackUptoRow : OpenClaim := { program := "ytaabalffcpaojaa", sum := "afbb8003141b316d6bca1f970e0b50e0db1c944c6b11c41b7a962e2904cea746", func := "timekeeper/timekeeperlaw01.ClockBack", spec := "clockBack", apart := false, narrowed := true }
def ClockBackUptoSaid : Prop := clockBackUptoRow.holds Try.pinned (OpenSpec.upto clockBackSpec)

/-- 'timekeeperlaw01.ClockLaws', WHERE WHAT IT READS IS OF BULK AT MOST 1048576: true; the input reads as it did. -/
def clockLawsUptoRow : OpenClaim := { program := "ytaabalffcpaojaa", sum := "afbb8003141b316d6bca1f970e0b50e0db1c944c6b11c41b7a962e2904cea746", func := "timekeeper/timekeeperlaw01.ClockLaws", spec := "clockLaws", apart := false, narrowed := true }
def ClockLawsUptoSaid : Prop := clockLawsUptoRow.holds Try.pinned (OpenSpec.upto clockLawsSpec)

/-- 'timekeeperlaw01.ClockOrders', WHERE WHAT IT READS IS OF BULK AT MOST 1048576: true; the input reads as it did. -/
def clockOrdersUptoRow : OpenClaim := { program := "ytaabalffcpaojaa", sum := "afbb8003141b316d6bca1f970e0b50e0db1c944c6b11c41b7a962e2904cea746", func := "timekeeper/timekeeperlaw01.ClockOrders", spec := "clockOrders", apart := false, narrowed := true }
def ClockOrdersUptoSaid : Prop := clockOrdersUptoRow.holds Try.pinned (OpenSpec.upto clockOrdersSpec)

/-- 'timekeeperlaw01.ClockClips', WHERE WHAT IT READS IS OF BULK AT MOST 1048576: true; the input reads as it did. -/
def clockClipsUptoRow : OpenClaim := { program := "ytaabalffcpaojaa", sum := "afbb8003141b316d6bca1f970e0b50e0db1c944c6b11c41b7a962e2904cea746", func := "timekeeper/timekeeperlaw01.ClockClips", spec := "clockClips", apart := false, narrowed := true }
def ClockClipsUptoSaid : Prop := clockClipsUptoRow.holds Try.pinned (OpenSpec.upto clockClipsSpec)

/-- 'timekeeperlaw01.ClockProducts', WHERE WHAT IT READS IS OF BULK AT MOST 1048576: true; the input reads as it did. -/
def clockProductsUptoRow : OpenClaim := { program := "ytaabalffcpaojaa", sum := "afbb8003141b316d6bca1f970e0b50e0db1c944c6b11c41b7a962e2904cea746", func := "timekeeper/timekeeperlaw01.ClockProducts", spec := "clockProducts", apart := false, narrowed := true }
def ClockProductsUptoSaid : Prop := clockProductsUptoRow.holds Try.pinned (OpenSpec.upto clockProductsSpec)

end Rows
end Go.Proofs.Ytaabalffcpaojaa
