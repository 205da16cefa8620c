/-
  NARROWER THAN 'FOR EVERY INPUT', by the rows' own cells (each row's printed sentence says how): DagNear: laid · DagFar: laid · DagBare: laid · DagPaths: laid · DagStands: laid · DagBoth: laid.
  DERIVED. THE GIVEN ROWS OF THIS SEAT. 6 by the template 'for every input the law returns true; each argument reads behind the call as it read before'; 0 by the template 'total and deterministic' (their statements: YtaokbjacfdipmaaDoorTotals.lean).
  GIVEN WITH THE SEED: the statements are not yours to turn. If you find one false, say at which input.
  Laid BY PROGRAM, IN A SANDBOX (cutbox-rows.mjs): the forced cells as the released guide's own fill.sh prints them over the translation e7551ca964863760… (all of the seat's roots in one cut). By AI agents, Wed Nov 11 2026. No macro, syntax, notation, axiom, sorry.
-/
import Derived.Test.YtaokbjacfdipmaaDoorChecked
import GoSem.Claim
import GoSem.ClaimJoined
import GoSem.ClaimMapViews
import Derived.JoinedTies
import Derived.KernelRfl
namespace Go.Proofs.YtaokbjacfdipmaaDoor
/- THE CELL 'sum', in the pinned program and in every row, IS THE sha256 OF THE DUMP (.gsa) THAT YtaokbjacfdipmaaDoorProg.lean LOADS. Nothing in Lean hashes anything: it is a label: what it is worth is what the hold of that sum in a sandbox is worth. -/
noncomputable def Tryd.pinned : Pinned := { name := "ytaokbjacfdipmaadoor", sum := "e7551ca964863760ebdb0ff0de42ecae56d3994bd2d3e96090202a06ff291233", checked := Tryd.checked }
namespace Rows
def none {H : Type} : Left H := { results := [], args := [] }

/- WHAT THE LISTED PACKAGE-LEVEL VARIABLES READ AS WHEN THE CALL BEGINS. Each datum BY PROGRAM (the guide's laid-datum.mjs) off the statement by which the dump's own 'gosem.cut.vars' lays the variable. In a bare row this is a premise. The card (YtaokbjacfdipmaaDoorCards.lean) ties it to the program's text. -/
def laid_math_bits_deBruijn64tab {H : Type} : DataW H := .agg [.lit (.int .u8 0), .lit (.int .u8 1), .lit (.int .u8 56), .lit (.int .u8 2), .lit (.int .u8 57), .lit (.int .u8 49), .lit (.int .u8 28), .lit (.int .u8 3), .lit (.int .u8 61), .lit (.int .u8 58), .lit (.int .u8 42), .lit (.int .u8 50), .lit (.int .u8 38), .lit (.int .u8 29), .lit (.int .u8 17), .lit (.int .u8 4), .lit (.int .u8 62), .lit (.int .u8 47), .lit (.int .u8 59), .lit (.int .u8 36), .lit (.int .u8 45), .lit (.int .u8 43), .lit (.int .u8 51), .lit (.int .u8 22), .lit (.int .u8 53), .lit (.int .u8 39), .lit (.int .u8 33), .lit (.int .u8 30), .lit (.int .u8 24), .lit (.int .u8 18), .lit (.int .u8 12), .lit (.int .u8 5), .lit (.int .u8 63), .lit (.int .u8 55), .lit (.int .u8 48), .lit (.int .u8 27), .lit (.int .u8 60), .lit (.int .u8 41), .lit (.int .u8 37), .lit (.int .u8 16), .lit (.int .u8 46), .lit (.int .u8 35), .lit (.int .u8 44), .lit (.int .u8 21), .lit (.int .u8 52), .lit (.int .u8 32), .lit (.int .u8 23), .lit (.int .u8 11), .lit (.int .u8 54), .lit (.int .u8 26), .lit (.int .u8 40), .lit (.int .u8 15), .lit (.int .u8 34), .lit (.int .u8 20), .lit (.int .u8 31), .lit (.int .u8 10), .lit (.int .u8 25), .lit (.int .u8 14), .lit (.int .u8 19), .lit (.int .u8 9), .lit (.int .u8 13), .lit (.int .u8 8), .lit (.int .u8 7), .lit (.int .u8 6)]

/-- 'timekeeperlaw05.DagNear': WHATEVER THE INPUT: true; the input reads as it did. -/
def dagNearSpec : ChangeSpec := { name := "dagNear", fn := fun _ => fun
  | [d1, d2] => { results := [.lit (.bool true)], args := [d1, d2] }
  | _ => none }
def dagNearRow : OpenClaim := { program := "ytaokbjacfdipmaadoor", sum := "e7551ca964863760ebdb0ff0de42ecae56d3994bd2d3e96090202a06ff291233", func := "timekeeper/timekeeperlaw05.DagNear", spec := "dagNear", unfollowed := true, recurses := true, named := ["math/bits.deBruijn64tab"], apart := false, laid := [("math/bits.deBruijn64tab", laid_math_bits_deBruijn64tab)] }
def DagNearSaid : Prop := dagNearRow.holds Tryd.pinned (OpenSpec.ofChange dagNearSpec)

/-- ITS FALSE NEIGHBOUR: 'it returns false'. Refute it at one input. -/
def dagNearWrong : ChangeSpec := { name := "dagNear", fn := fun _ => fun
  | [d1, d2] => { results := [.lit (.bool false)], args := [d1, d2] }
  | _ => none }
def DagNearWrongFalsely : Prop := dagNearRow.holds Tryd.pinned (OpenSpec.ofChange dagNearWrong)

/-- 'timekeeperlaw05.DagFar': WHATEVER THE INPUT: true; the input reads as it did. -/
def dagFarSpec : ChangeSpec := { name := "dagFar", fn := fun _ => fun
  | [d1, d2] => { results := [.lit (.bool true)], args := [d1, d2] }
  | _ => none }
def dagFarRow : OpenClaim := { program := "ytaokbjacfdipmaadoor", sum := "e7551ca964863760ebdb0ff0de42ecae56d3994bd2d3e96090202a06ff291233", func := "timekeeper/timekeeperlaw05.DagFar", spec := "dagFar", unfollowed := true, recurses := true, named := ["math/bits.deBruijn64tab"], apart := false, laid := [("math/bits.deBruijn64tab", laid_math_bits_deBruijn64tab)] }
def DagFarSaid : Prop := dagFarRow.holds Tryd.pinned (OpenSpec.ofChange dagFarSpec)

/-- ITS FALSE NEIGHBOUR: 'it returns false'. Refute it at one input. -/
def dagFarWrong : ChangeSpec := { name := "dagFar", fn := fun _ => fun
  | [d1, d2] => { results := [.lit (.bool false)], args := [d1, d2] }
  | _ => none }
def DagFarWrongFalsely : Prop := dagFarRow.holds Tryd.pinned (OpenSpec.ofChange dagFarWrong)

/-- 'timekeeperlaw05.DagBare': WHATEVER THE INPUT: true; the input reads as it did. -/
def dagBareSpec : ChangeSpec := { name := "dagBare", fn := fun _ => fun
  | [d] => { results := [.lit (.bool true)], args := [d] }
  | _ => none }
def dagBareRow : OpenClaim := { program := "ytaokbjacfdipmaadoor", sum := "e7551ca964863760ebdb0ff0de42ecae56d3994bd2d3e96090202a06ff291233", func := "timekeeper/timekeeperlaw05.DagBare", spec := "dagBare", unfollowed := true, recurses := true, named := ["math/bits.deBruijn64tab"], apart := false, laid := [("math/bits.deBruijn64tab", laid_math_bits_deBruijn64tab)] }
def DagBareSaid : Prop := dagBareRow.holds Tryd.pinned (OpenSpec.ofChange dagBareSpec)

/-- ITS FALSE NEIGHBOUR: 'it returns false'. Refute it at one input. -/
def dagBareWrong : ChangeSpec := { name := "dagBare", fn := fun _ => fun
  | [d] => { results := [.lit (.bool false)], args := [d] }
  | _ => none }
def DagBareWrongFalsely : Prop := dagBareRow.holds Tryd.pinned (OpenSpec.ofChange dagBareWrong)

/-- 'timekeeperlaw05.DagPaths': WHATEVER THE INPUT: true; the input reads as it did. -/
def dagPathsSpec : ChangeSpec := { name := "dagPaths", fn := fun _ => fun
  | [d1, d2, d3] => { results := [.lit (.bool true)], args := [d1, d2, d3] }
  | _ => none }
def dagPathsRow : OpenClaim := { program := "ytaokbjacfdipmaadoor", sum := "e7551ca964863760ebdb0ff0de42ecae56d3994bd2d3e96090202a06ff291233", func := "timekeeper/timekeeperlaw05.DagPaths", spec := "dagPaths", unfollowed := true, recurses := true, named := ["math/bits.deBruijn64tab"], apart := false, laid := [("math/bits.deBruijn64tab", laid_math_bits_deBruijn64tab)] }
def DagPathsSaid : Prop := dagPathsRow.holds Tryd.pinned (OpenSpec.ofChange dagPathsSpec)

/-- ITS FALSE NEIGHBOUR: 'it returns false'. Refute it at one input. -/
def dagPathsWrong : ChangeSpec := { name := "dagPaths", fn := fun _ => fun
  | [d1, d2, d3] => { results := [.lit (.bool false)], args := [d1, d2, d3] }
  | _ => none }
def DagPathsWrongFalsely : Prop := dagPathsRow.holds Tryd.pinned (OpenSpec.ofChange dagPathsWrong)

/-- 'timekeeperlaw05.DagStands': WHATEVER THE INPUT: true; the input reads as it did. -/
def dagStandsSpec : ChangeSpec := { name := "dagStands", fn := fun _ => fun
  | [d] => { results := [.lit (.bool true)], args := [d] }
  | _ => none }
def dagStandsRow : OpenClaim := { program := "ytaokbjacfdipmaadoor", sum := "e7551ca964863760ebdb0ff0de42ecae56d3994bd2d3e96090202a06ff291233", func := "timekeeper/timekeeperlaw05.DagStands", spec := "dagStands", unfollowed := true, recurses := true, named := ["math/bits.deBruijn64tab"], apart := false, laid := [("math/bits.deBruijn64tab", laid_math_bits_deBruijn64tab)] }
def DagStandsSaid : Prop := dagStandsRow.holds Tryd.pinned (OpenSpec.ofChange dagStandsSpec)

/-- ITS FALSE NEIGHBOUR: 'it returns false'. Refute it at one input. -/
def dagStandsWrong : ChangeSpec := { name := "dagStands", fn := fun _ => fun
  | [d] => { results := [.lit (.bool false)], args := [d] }
  | _ => none }
def DagStandsWrongFalsely : Prop := dagStandsRow.holds Tryd.pinned (OpenSpec.ofChange dagStandsWrong)

/-- 'timekeeperlaw05.DagBoth': WHATEVER THE INPUT: true; the input reads as it did. -/
def dagBothSpec : ChangeSpec := { name := "dagBoth", fn := fun _ => fun
  | [d1, d2, d3] => { results := [.lit (.bool true)], args := [d1, d2, d3] }
  | _ => none }
def dagBothRow : OpenClaim := { program := "ytaokbjacfdipmaadoor", sum := "e7551ca964863760ebdb0ff0de42ecae56d3994bd2d3e96090202a06ff291233", func := "timekeeper/timekeeperlaw05.DagBoth", spec := "dagBoth", unfollowed := true, recurses := true, named := ["math/bits.deBruijn64tab"], apart := false, laid := [("math/bits.deBruijn64tab", laid_math_bits_deBruijn64tab)] }
def DagBothSaid : Prop := dagBothRow.holds Tryd.pinned (OpenSpec.ofChange dagBothSpec)

/-- ITS FALSE NEIGHBOUR: 'it returns false'. Refute it at one input. -/
def dagBothWrong : ChangeSpec := { name := "dagBoth", fn := fun _ => fun
  | [d1, d2, d3] => { results := [.lit (.bool false)], args := [d1, d2, d3] }
  | _ => none }
def DagBothWrongFalsely : Prop := dagBothRow.holds Tryd.pinned (OpenSpec.ofChange dagBothWrong)

/- THE SECOND FORM. 'bulk': how many values and letters a reading holds, each counted each time it is reached (what is shared counts as often as it is met; a slice's spare places count too). A statement '..UptoSaid' is the law's where the arguments, and the package variables that the reading takes, are together of bulk at most 1048576: NARROWER than '..Said'. Prove '..Said' where nothing that the law and all that it calls make is longer than what came in: it says more and counts as full. Else prove '..UptoSaid'. A law counts once. -/
mutual
def uptoBulk {H : Type} : DataW H → Nat
  | .lit (.string bytes) => bytes.length + 1
  | .lit _ => 1
  | .nil => 1
  | .ptr d => uptoBulk d + 1
  | .slice elems spare => uptoBulkAll elems + uptoBulkAll spare + 1
  | .agg parts => uptoBulkAll parts + 1
  | .iface _ d => uptoBulk d + 1
  | .map entries => uptoBulkEntries entries + 1
  | .held _ => 1
def uptoBulkAll {H : Type} : List (DataW H) → Nat
  | [] => 0
  | d :: r => uptoBulk d + uptoBulkAll r
def uptoBulkEntries {H : Type} : List (Lit × DataW H) → Nat
  | [] => 0
  | x :: r => uptoBulkEntry x + uptoBulkEntries r
def uptoBulkEntry {H : Type} : Lit × DataW H → Nat
  | (.string bytes, d) => bytes.length + uptoBulk d + 1
  | (_, d) => uptoBulk d + 1
 end
def uptoSmall : (H : Type) → List (DataW H) → Bool := fun _ ds => decide (uptoBulkAll ds ≤ 1048576)
def OpenSpec.upto (s : _root_.Go.ChangeSpec) : _root_.Go.OpenSpec := { _root_.Go.OpenSpec.ofChange s with cond := some uptoSmall }

/-- 'timekeeperlaw05.DagNear', WHERE WHAT IT READS IS OF BULK AT MOST 1048576: true; the input reads as it did. -/
def dagNearUptoRow : OpenClaim := { program := "ytaokbjacfdipmaadoor", sum := "e7551ca964863760ebdb0ff0de42ecae56d3994bd2d3e96090202a06ff291233", func := "timekeeper/timekeeperlaw05.DagNear", spec := "dagNear", unfollowed := true, recurses := true, named := ["math/bits.deBruijn64tab"], apart := false, laid := [("math/bits.deBruijn64tab", laid_math_bits_deBruijn64tab)], narrowed := true }
def DagNearUptoSaid : Prop := dagNearUptoRow.holds Tryd.pinned (OpenSpec.upto dagNearSpec)

/-- 'timekeeperlaw05.DagFar', WHERE WHAT IT READS IS OF BULK AT MOST 1048576: true; the input reads as it did. -/
def dagFarUptoRow : OpenClaim := { program := "ytaokbjacfdipmaadoor", sum := "e7551ca964863760ebdb0ff0de42ecae56d3994bd2d3e96090202a06ff291233", func := "timekeeper/timekeeperlaw05.DagFar", spec := "dagFar", unfollowed := true, recurses := true, named := ["math/bits.deBruijn64tab"], apart := false, laid := [("math/bits.deBruijn64tab", laid_math_bits_deBruijn64tab)], narrowed := true }
def DagFarUptoSaid : Prop := dagFarUptoRow.holds Tryd.pinned (OpenSpec.upto dagFarSpec)

/-- 'timekeeperlaw05.DagBare', WHERE WHAT IT READS IS OF BULK AT MOST 1048576: true; the input reads as it did. -/
def dagBareUptoRow : OpenClaim := { program := "ytaokbjacfdipmaadoor", sum := "e7551ca964863760ebdb0ff0de42ecae56d3994bd2d3e96090202a06ff291233", func := "timekeeper/timekeeperlaw05.DagBare", spec := "dagBare", unfollowed := true, recurses := true, named := ["math/bits.deBruijn64tab"], apart := false, laid := [("math/bits.deBruijn64tab", laid_math_bits_deBruijn64tab)], narrowed := true }
def DagBareUptoSaid : Prop := dagBareUptoRow.holds Tryd.pinned (OpenSpec.upto dagBareSpec)

/-- 'timekeeperlaw05.DagPaths', WHERE WHAT IT READS IS OF BULK AT MOST 1048576: true; the input reads as it did. -/
def dagPathsUptoRow : OpenClaim := { program := "ytaokbjacfdipmaadoor", sum := "e7551ca964863760ebdb0ff0de42ecae56d3994bd2d3e96090202a06ff291233", func := "timekeeper/timekeeperlaw05.DagPaths", spec := "dagPaths", unfollowed := true, recurses := true, named := ["math/bits.deBruijn64tab"], apart := false, laid := [("math/bits.deBruijn64tab", laid_math_bits_deBruijn64tab)], narrowed := true }
def DagPathsUptoSaid : Prop := dagPathsUptoRow.holds Tryd.pinned (OpenSpec.upto dagPathsSpec)

/-- 'timekeeperlaw05.DagStands', WHERE WHAT IT READS IS OF BULK AT MOST 1048576: true; the input reads as it did. -/
def dagStandsUptoRow : OpenClaim := { program := "ytaokbjacfdipmaadoor", sum := "e7551ca964863760ebdb0ff0de42ecae56d3994bd2d3e96090202a06ff291233", func := "timekeeper/timekeeperlaw05.DagStands", spec := "dagStands", unfollowed := true, recurses := true, named := ["math/bits.deBruijn64tab"], apart := false, laid := [("math/bits.deBruijn64tab", laid_math_bits_deBruijn64tab)], narrowed := true }
def DagStandsUptoSaid : Prop := dagStandsUptoRow.holds Tryd.pinned (OpenSpec.upto dagStandsSpec)

/-- 'timekeeperlaw05.DagBoth', WHERE WHAT IT READS IS OF BULK AT MOST 1048576: true; the input reads as it did. -/
def dagBothUptoRow : OpenClaim := { program := "ytaokbjacfdipmaadoor", sum := "e7551ca964863760ebdb0ff0de42ecae56d3994bd2d3e96090202a06ff291233", func := "timekeeper/timekeeperlaw05.DagBoth", spec := "dagBoth", unfollowed := true, recurses := true, named := ["math/bits.deBruijn64tab"], apart := false, laid := [("math/bits.deBruijn64tab", laid_math_bits_deBruijn64tab)], narrowed := true }
def DagBothUptoSaid : Prop := dagBothUptoRow.holds Tryd.pinned (OpenSpec.upto dagBothSpec)

end Rows
end Go.Proofs.YtaokbjacfdipmaaDoor
