/-
  No cell of these rows narrows 'for every input' (looked for: loops, veiled, ifaces, maps, wideKeys, modest, calm, conditions, laid).
  DERIVED. THE GIVEN ROWS OF THIS SEAT. 8 by the template 'for every input the law returns true; each argument reads behind the call as it read before'; 0 by the template 'total and deterministic' (their statements: YtmlkomcjbcolhaaTotals.lean).
  GIVEN WITH THE SEED: the statements are not yours to turn. If you find one false, say at which input.
  Laid BY PROGRAM, IN A SANDBOX (cutbox-rows.mjs): the forced cells as the released guide's own fill.sh prints them over the translation 8fe32efbdafbdd54… (all of the seat's roots in one cut). By AI agents, Wed Nov 11 2026. No macro, syntax, notation, axiom, sorry.
-/
import Derived.Test.YtmlkomcjbcolhaaChecked
import GoSem.Claim
import GoSem.ClaimJoined
import GoSem.ClaimMapViews
import Derived.JoinedTies
import Derived.KernelRfl
namespace Go.Proofs.Ytmlkomcjbcolhaa
/- THE CELL 'sum', in the pinned program and in every row, IS THE sha256 OF THE DUMP (.gsa) THAT YtmlkomcjbcolhaaProg.lean LOADS. Nothing in Lean hashes anything: it is a label: what it is worth is what the hold of that sum in a sandbox is worth. -/
noncomputable def Try.pinned : Pinned := { name := "ytmlkomcjbcolhaa", sum := "8fe32efbdafbdd543e0ce784b8716c6d80d95dfff0873a7c988a4b2c9b3582ea", checked := Try.checked }
namespace Rows
def none {H : Type} : Left H := { results := [], args := [] }

/-- 'timekeeperlaw09.StepsAdds': WHATEVER THE INPUT: true; the input reads as it did. -/
def stepsAddsSpec : ChangeSpec := { name := "stepsAdds", fn := fun _ => fun
  | [d1, d2, d3, d4] => { results := [.lit (.bool true)], args := [d1, d2, d3, d4] }
  | _ => none }
def stepsAddsRow : OpenClaim := { program := "ytmlkomcjbcolhaa", sum := "8fe32efbdafbdd543e0ce784b8716c6d80d95dfff0873a7c988a4b2c9b3582ea", func := "timekeeper/timekeeperlaw09.StepsAdds", spec := "stepsAdds", unfollowed := true, recurses := true, apart := false }
def StepsAddsSaid : Prop := stepsAddsRow.holds Try.pinned (OpenSpec.ofChange stepsAddsSpec)

/-- ITS FALSE NEIGHBOUR: 'it returns false'. Refute it at one input. -/
def stepsAddsWrong : ChangeSpec := { name := "stepsAdds", fn := fun _ => fun
  | [d1, d2, d3, d4] => { results := [.lit (.bool false)], args := [d1, d2, d3, d4] }
  | _ => none }
def StepsAddsWrongFalsely : Prop := stepsAddsRow.holds Try.pinned (OpenSpec.ofChange stepsAddsWrong)

/-- 'timekeeperlaw09.StepsEnds': WHATEVER THE INPUT: true; the input reads as it did. -/
def stepsEndsSpec : ChangeSpec := { name := "stepsEnds", fn := fun _ => fun
  | [d1, d2, d3] => { results := [.lit (.bool true)], args := [d1, d2, d3] }
  | _ => none }
def stepsEndsRow : OpenClaim := { program := "ytmlkomcjbcolhaa", sum := "8fe32efbdafbdd543e0ce784b8716c6d80d95dfff0873a7c988a4b2c9b3582ea", func := "timekeeper/timekeeperlaw09.StepsEnds", spec := "stepsEnds", unfollowed := true, recurses := true, apart := false }
def StepsEndsSaid : Prop := stepsEndsRow.holds Try.pinned (OpenSpec.ofChange stepsEndsSpec)

/-- ITS FALSE NEIGHBOUR: 'it returns false'. Refute it at one input. -/
def stepsEndsWrong : ChangeSpec := { name := "stepsEnds", fn := fun _ => fun
  | [d1, d2, d3] => { results := [.lit (.bool false)], args := [d1, d2, d3] }
  | _ => none }
def StepsEndsWrongFalsely : Prop := stepsEndsRow.holds Try.pinned (OpenSpec.ofChange stepsEndsWrong)

/-- 'timekeeperlaw09.StepsSums': WHATEVER THE INPUT: true; the input reads as it did. -/
def stepsSumsSpec : ChangeSpec := { name := "stepsSums", fn := fun _ => fun
  | [d1, d2] => { results := [.lit (.bool true)], args := [d1, d2] }
  | _ => none }
def stepsSumsRow : OpenClaim := { program := "ytmlkomcjbcolhaa", sum := "8fe32efbdafbdd543e0ce784b8716c6d80d95dfff0873a7c988a4b2c9b3582ea", func := "timekeeper/timekeeperlaw09.StepsSums", spec := "stepsSums", unfollowed := true, recurses := true, apart := false }
def StepsSumsSaid : Prop := stepsSumsRow.holds Try.pinned (OpenSpec.ofChange stepsSumsSpec)

/-- ITS FALSE NEIGHBOUR: 'it returns false'. Refute it at one input. -/
def stepsSumsWrong : ChangeSpec := { name := "stepsSums", fn := fun _ => fun
  | [d1, d2] => { results := [.lit (.bool false)], args := [d1, d2] }
  | _ => none }
def StepsSumsWrongFalsely : Prop := stepsSumsRow.holds Try.pinned (OpenSpec.ofChange stepsSumsWrong)

/-- 'timekeeperlaw09.StepsTidies': WHATEVER THE INPUT: true; the input reads as it did. -/
def stepsTidiesSpec : ChangeSpec := { name := "stepsTidies", fn := fun _ => fun
  | [d1, d2] => { results := [.lit (.bool true)], args := [d1, d2] }
  | _ => none }
def stepsTidiesRow : OpenClaim := { program := "ytmlkomcjbcolhaa", sum := "8fe32efbdafbdd543e0ce784b8716c6d80d95dfff0873a7c988a4b2c9b3582ea", func := "timekeeper/timekeeperlaw09.StepsTidies", spec := "stepsTidies", unfollowed := true, recurses := true, apart := false }
def StepsTidiesSaid : Prop := stepsTidiesRow.holds Try.pinned (OpenSpec.ofChange stepsTidiesSpec)

/-- ITS FALSE NEIGHBOUR: 'it returns false'. Refute it at one input. -/
def stepsTidiesWrong : ChangeSpec := { name := "stepsTidies", fn := fun _ => fun
  | [d1, d2] => { results := [.lit (.bool false)], args := [d1, d2] }
  | _ => none }
def StepsTidiesWrongFalsely : Prop := stepsTidiesRow.holds Try.pinned (OpenSpec.ofChange stepsTidiesWrong)

/-- 'timekeeperlaw09.StepsPoints': WHATEVER THE INPUT: true; the input reads as it did. -/
def stepsPointsSpec : ChangeSpec := { name := "stepsPoints", fn := fun _ => fun
  | [d1, d2, d3, d4, d5] => { results := [.lit (.bool true)], args := [d1, d2, d3, d4, d5] }
  | _ => none }
def stepsPointsRow : OpenClaim := { program := "ytmlkomcjbcolhaa", sum := "8fe32efbdafbdd543e0ce784b8716c6d80d95dfff0873a7c988a4b2c9b3582ea", func := "timekeeper/timekeeperlaw09.StepsPoints", spec := "stepsPoints", unfollowed := true, recurses := true, apart := false }
def StepsPointsSaid : Prop := stepsPointsRow.holds Try.pinned (OpenSpec.ofChange stepsPointsSpec)

/-- ITS FALSE NEIGHBOUR: 'it returns false'. Refute it at one input. -/
def stepsPointsWrong : ChangeSpec := { name := "stepsPoints", fn := fun _ => fun
  | [d1, d2, d3, d4, d5] => { results := [.lit (.bool false)], args := [d1, d2, d3, d4, d5] }
  | _ => none }
def StepsPointsWrongFalsely : Prop := stepsPointsRow.holds Try.pinned (OpenSpec.ofChange stepsPointsWrong)

/-- 'timekeeperlaw09.StepsBack': WHATEVER THE INPUT: true; the input reads as it did. -/
def stepsBackSpec : ChangeSpec := { name := "stepsBack", fn := fun _ => fun
  | [d1, d2, d3, d4, d5] => { results := [.lit (.bool true)], args := [d1, d2, d3, d4, d5] }
  | _ => none }
def stepsBackRow : OpenClaim := { program := "ytmlkomcjbcolhaa", sum := "8fe32efbdafbdd543e0ce784b8716c6d80d95dfff0873a7c988a4b2c9b3582ea", func := "timekeeper/timekeeperlaw09.StepsBack", spec := "stepsBack", unfollowed := true, recurses := true, apart := false }
def StepsBackSaid : Prop := stepsBackRow.holds Try.pinned (OpenSpec.ofChange stepsBackSpec)

/-- ITS FALSE NEIGHBOUR: 'it returns false'. Refute it at one input. -/
def stepsBackWrong : ChangeSpec := { name := "stepsBack", fn := fun _ => fun
  | [d1, d2, d3, d4, d5] => { results := [.lit (.bool false)], args := [d1, d2, d3, d4, d5] }
  | _ => none }
def StepsBackWrongFalsely : Prop := stepsBackRow.holds Try.pinned (OpenSpec.ofChange stepsBackWrong)

/-- 'timekeeperlaw09.StepsAreas': WHATEVER THE INPUT: true; the input reads as it did. -/
def stepsAreasSpec : ChangeSpec := { name := "stepsAreas", fn := fun _ => fun
  | [d1, d2, d3, d4] => { results := [.lit (.bool true)], args := [d1, d2, d3, d4] }
  | _ => none }
def stepsAreasRow : OpenClaim := { program := "ytmlkomcjbcolhaa", sum := "8fe32efbdafbdd543e0ce784b8716c6d80d95dfff0873a7c988a4b2c9b3582ea", func := "timekeeper/timekeeperlaw09.StepsAreas", spec := "stepsAreas", unfollowed := true, recurses := true, apart := false }
def StepsAreasSaid : Prop := stepsAreasRow.holds Try.pinned (OpenSpec.ofChange stepsAreasSpec)

/-- ITS FALSE NEIGHBOUR: 'it returns false'. Refute it at one input. -/
def stepsAreasWrong : ChangeSpec := { name := "stepsAreas", fn := fun _ => fun
  | [d1, d2, d3, d4] => { results := [.lit (.bool false)], args := [d1, d2, d3, d4] }
  | _ => none }
def StepsAreasWrongFalsely : Prop := stepsAreasRow.holds Try.pinned (OpenSpec.ofChange stepsAreasWrong)

/-- 'timekeeperlaw09.StepsNew': WHATEVER THE INPUT: true; the input reads as it did. -/
def stepsNewSpec : ChangeSpec := { name := "stepsNew", fn := fun _ => fun
  | [d1, d2, d3] => { results := [.lit (.bool true)], args := [d1, d2, d3] }
  | _ => none }
def stepsNewRow : OpenClaim := { program := "ytmlkomcjbcolhaa", sum := "8fe32efbdafbdd543e0ce784b8716c6d80d95dfff0873a7c988a4b2c9b3582ea", func := "timekeeper/timekeeperlaw09.StepsNew", spec := "stepsNew", unfollowed := true, recurses := true, apart := false }
def StepsNewSaid : Prop := stepsNewRow.holds Try.pinned (OpenSpec.ofChange stepsNewSpec)

/-- ITS FALSE NEIGHBOUR: 'it returns false'. Refute it at one input. -/
def stepsNewWrong : ChangeSpec := { name := "stepsNew", fn := fun _ => fun
  | [d1, d2, d3] => { results := [.lit (.bool false)], args := [d1, d2, d3] }
  | _ => none }
def StepsNewWrongFalsely : Prop := stepsNewRow.holds Try.pinned (OpenSpec.ofChange stepsNewWrong)

/- THE SECOND FORM. 'bulk': how many values and letters a reading holds, each counted each time it is reached (what is shared counts as often as it is met; a slice's spare places count too). A statement '..UptoSaid' is the law's where the arguments, and the package variables that the reading takes, are together of bulk at most 1048576: NARROWER than '..Said'. Prove '..Said' where nothing that the law and all that it calls make is longer than what came in: it says more and counts as full. Else prove '..UptoSaid'. A law counts once. -/
mutual
def uptoBulk {H : Type} : DataW H → Nat
  | .lit (.string bytes) => bytes.length + 1
  | .lit _ => 1
  | .nil => 1
  | .ptr d => uptoBulk d + 1
  | .slice elems spare => uptoBulkAll elems + uptoBulkAll spare + 1
  | .agg parts => uptoBulkAll parts + 1
  | .iface _ d => uptoBulk d + 1
  | .map entries => uptoBulkEntries entries + 1
  | .held _ => 1
def uptoBulkAll {H : Type} : List (DataW H) → Nat
  | [] => 0
  | d :: r => uptoBulk d + uptoBulkAll r
def uptoBulkEntries {H : Type} : List (Lit × DataW H) → Nat
  | [] => 0
  | x :: r => uptoBulkEntry x + uptoBulkEntries r
def uptoBulkEntry {H : Type} : Lit × DataW H → Nat
  | (.string bytes, d) => bytes.length + uptoBulk d + 1
  | (_, d) => uptoBulk d + 1
 end
def uptoSmall : (H : Type) → List (DataW H) → Bool := fun _ ds => decide (uptoBulkAll ds ≤ 1048576)
def OpenSpec.upto (s : _root_.Go.ChangeSpec) : _root_.Go.OpenSpec := { _root_.Go.OpenSpec.ofChange s with cond := some uptoSmall }

/-- 'timekeeperlaw09.StepsAdds', WHERE WHAT IT READS IS OF BULK AT MOST 1048576: true; the input reads as it did. -/
def stepsAddsUptoRow : OpenClaim := { program := "ytmlkomcjbcolhaa", sum := "8fe32efbdafbdd543e0ce784b8716c6d80d95dfff0873a7c988a4b2c9b3582ea", func := "timekeeper/timekeeperlaw09.StepsAdds", spec := "stepsAdds", unfollowed := true, recurses := true, apart := false, narrowed := true }
def StepsAddsUptoSaid : Prop := stepsAddsUptoRow.holds Try.pinned (OpenSpec.upto stepsAddsSpec)

/-- 'timekeeperlaw09.StepsEnds', WHERE WHAT IT READS IS OF BULK AT MOST 1048576: true; the input reads as it did. -/
def stepsEndsUptoRow : OpenClaim := { program := "ytmlkomcjbcolhaa", sum := "8fe32efbdafbdd543e0ce784b8716c6d80d95dfff0873a7c988a4b2c9b3582ea", func := "timekeeper/timekeeperlaw09.StepsEnds", spec := "stepsEnds", unfollowed := true, recurses := true, apart := false, narrowed := true }
def StepsEndsUptoSaid : Prop := stepsEndsUptoRow.holds Try.pinned (OpenSpec.upto stepsEndsSpec)

/-- 'timekeeperlaw09.StepsSums', WHERE WHAT IT READS IS OF BULK AT MOST 1048576: true; the input reads as it did. -/
def stepsSumsUptoRow : OpenClaim := { program := "ytmlkomcjbcolhaa", sum := "8fe32efbdafbdd543e0ce784b8716c6d80d95dfff0873a7c988a4b2c9b3582ea", func := "timekeeper/timekeeperlaw09.StepsSums", spec := "stepsSums", unfollowed := true, recurses := true, apart := false, narrowed := true }
def StepsSumsUptoSaid : Prop := stepsSumsUptoRow.holds Try.pinned (OpenSpec.upto stepsSumsSpec)

/-- 'timekeeperlaw09.StepsTidies', WHERE WHAT IT READS IS OF BULK AT MOST 1048576: true; the input reads as it did. -/
def stepsTidiesUptoRow : OpenClaim := { program := "ytmlkomcjbcolhaa", sum := "8fe32efbdafbdd543e0ce784b8716c6d80d95dfff0873a7c988a4b2c9b3582ea", func := "timekeeper/timekeeperlaw09.StepsTidies", spec := "stepsTidies", unfollowed := true, recurses := true, apart := false, narrowed := true }
def StepsTidiesUptoSaid : Prop := stepsTidiesUptoRow.holds Try.pinned (OpenSpec.upto stepsTidiesSpec)

/-- 'timekeeperlaw09.StepsPoints', WHERE WHAT IT READS IS OF BULK AT MOST 1048576: true; the input reads as it did. -/
def stepsPointsUptoRow : OpenClaim := { program := "ytmlkomcjbcolhaa", sum := "8fe32efbdafbdd543e0ce784b8716c6d80d95dfff0873a7c988a4b2c9b3582ea", func := "timekeeper/timekeeperlaw09.StepsPoints", spec := "stepsPoints", unfollowed := true, recurses := true, apart := false, narrowed := true }
def StepsPointsUptoSaid : Prop := stepsPointsUptoRow.holds Try.pinned (OpenSpec.upto stepsPointsSpec)

/-- 'timekeeperlaw09.StepsBack', WHERE WHAT IT READS IS OF BULK AT MOST 1048576: true; the input reads as it did. -/
def stepsBackUptoRow : OpenClaim := { program := "ytmlkomcjbcolhaa", sum := "8fe32efbdafbdd543e0ce784b8716c6d80d95dfff0873a7c988a4b2c9b3582ea", func := "timekeeper/timekeeperlaw09.StepsBack", spec := "stepsBack", unfollowed := true, recurses := true, apart := false, narrowed := true }
def StepsBackUptoSaid : Prop := stepsBackUptoRow.holds Try.pinned (OpenSpec.upto stepsBackSpec)

/-- 'timekeeperlaw09.StepsAreas', WHERE WHAT IT READS IS OF BULK AT MOST 1048576: true; the input reads as it did. -/
def stepsAreasUptoRow : OpenClaim := { program := "ytmlkomcjbcolhaa", sum := "8fe32efbdafbdd543e0ce784b8716c6d80d95dfff0873a7c988a4b2c9b3582ea", func := "timekeeper/timekeeperlaw09.StepsAreas", spec := "stepsAreas", unfollowed := true, recurses := true, apart := false, narrowed := true }
def StepsAreasUptoSaid : Prop := stepsAreasUptoRow.holds Try.pinned (OpenSpec.upto stepsAreasSpec)

/-- 'timekeeperlaw09.StepsNew', WHERE WHAT IT READS IS OF BULK AT MOST 1048576: true; the input reads as it did. -/
def stepsNewUptoRow : OpenClaim := { program := "ytmlkomcjbcolhaa", sum := "8fe32efbdafbdd543e0ce784b8716c6d80d95dfff0873a7c988a4b2c9b3582ea", func := "timekeeper/timekeeperlaw09.StepsNew", spec := "stepsNew", unfollowed := true, recurses := true, apart := false, narrowed := true }
def StepsNewUptoSaid : Prop := stepsNewUptoRow.holds Try.pinned (OpenSpec.upto stepsNewSpec)

end Rows
end Go.Proofs.Ytmlkomcjbcolhaa
