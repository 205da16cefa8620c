/-
  NARROWER THAN 'FOR EVERY INPUT', by the rows' own cells (each row's printed sentence says how): LifeTurns: laid · LifeTells: laid · LifeGoes: laid · LifeDead: laid · LifeAgain: laid · LifeBegins: laid · LifeReady: laid.
  DERIVED. THE GIVEN ROWS OF THIS SEAT. 7 by the template 'for every input the law returns true; each argument reads behind the call as it read before'; 0 by the template 'total and deterministic' (their statements: YtgejonmjmieglaaDoorTotals.lean).
  GIVEN WITH THE SEED: the statements are not yours to turn. If you find one false, say at which input.
  Laid BY PROGRAM, IN A SANDBOX (cutbox-rows.mjs): the forced cells as the released guide's own fill.sh prints them over the translation 68e097b544ffc82a… (all of the seat's roots in one cut). By AI agents, Wed Nov 11 2026. No macro, syntax, notation, axiom, sorry.
-/
import Derived.Test.YtgejonmjmieglaaDoorChecked
import GoSem.PinnedTables
import GoSem.Claim
import GoSem.ClaimJoined
import GoSem.ClaimMapViews
import Derived.JoinedTies
import Derived.KernelRfl
namespace Go.Proofs.YtgejonmjmieglaaDoor
/- THE CELL 'sum', in the pinned program and in every row, IS THE sha256 OF THE DUMP (.gsa) THAT YtgejonmjmieglaaDoorProg.lean LOADS. Nothing in Lean hashes anything: it is a label: what it is worth is what the hold of that sum in a sandbox is worth. -/
noncomputable def Tryd.pinned : Pinned := { name := "ytgejonmjmieglaadoor", sum := "68e097b544ffc82adab2a057f9ceaf2b4581f788d2acb49698ae42ea5bd75c1d", checked := Tryd.checked }
namespace Rows
def none {H : Type} : Left H := { results := [], args := [] }

/- WHAT THE LISTED PACKAGE-LEVEL VARIABLES READ AS WHEN THE CALL BEGINS. Each datum BY PROGRAM (the guide's laid-datum.mjs) off the statement by which the dump's own 'gosem.cut.vars' lays the variable. In a bare row this is a premise. The card (YtgejonmjmieglaaDoorCards.lean) ties it to the program's text. -/
def laid_math_bits_deBruijn64tab {H : Type} : DataW H := .agg [.lit (.int .u8 0), .lit (.int .u8 1), .lit (.int .u8 56), .lit (.int .u8 2), .lit (.int .u8 57), .lit (.int .u8 49), .lit (.int .u8 28), .lit (.int .u8 3), .lit (.int .u8 61), .lit (.int .u8 58), .lit (.int .u8 42), .lit (.int .u8 50), .lit (.int .u8 38), .lit (.int .u8 29), .lit (.int .u8 17), .lit (.int .u8 4), .lit (.int .u8 62), .lit (.int .u8 47), .lit (.int .u8 59), .lit (.int .u8 36), .lit (.int .u8 45), .lit (.int .u8 43), .lit (.int .u8 51), .lit (.int .u8 22), .lit (.int .u8 53), .lit (.int .u8 39), .lit (.int .u8 33), .lit (.int .u8 30), .lit (.int .u8 24), .lit (.int .u8 18), .lit (.int .u8 12), .lit (.int .u8 5), .lit (.int .u8 63), .lit (.int .u8 55), .lit (.int .u8 48), .lit (.int .u8 27), .lit (.int .u8 60), .lit (.int .u8 41), .lit (.int .u8 37), .lit (.int .u8 16), .lit (.int .u8 46), .lit (.int .u8 35), .lit (.int .u8 44), .lit (.int .u8 21), .lit (.int .u8 52), .lit (.int .u8 32), .lit (.int .u8 23), .lit (.int .u8 11), .lit (.int .u8 54), .lit (.int .u8 26), .lit (.int .u8 40), .lit (.int .u8 15), .lit (.int .u8 34), .lit (.int .u8 20), .lit (.int .u8 31), .lit (.int .u8 10), .lit (.int .u8 25), .lit (.int .u8 14), .lit (.int .u8 19), .lit (.int .u8 9), .lit (.int .u8 13), .lit (.int .u8 8), .lit (.int .u8 7), .lit (.int .u8 6)]
def laid_unicode_properties {H : Type} : DataW H := .agg [.lit (.int .u8 1), .lit (.int .u8 1), .lit (.int .u8 1), .lit (.int .u8 1), .lit (.int .u8 1), .lit (.int .u8 1), .lit (.int .u8 1), .lit (.int .u8 1), .lit (.int .u8 1), .lit (.int .u8 1), .lit (.int .u8 1), .lit (.int .u8 1), .lit (.int .u8 1), .lit (.int .u8 1), .lit (.int .u8 1), .lit (.int .u8 1), .lit (.int .u8 1), .lit (.int .u8 1), .lit (.int .u8 1), .lit (.int .u8 1), .lit (.int .u8 1), .lit (.int .u8 1), .lit (.int .u8 1), .lit (.int .u8 1), .lit (.int .u8 1), .lit (.int .u8 1), .lit (.int .u8 1), .lit (.int .u8 1), .lit (.int .u8 1), .lit (.int .u8 1), .lit (.int .u8 1), .lit (.int .u8 1), .lit (.int .u8 144), .lit (.int .u8 130), .lit (.int .u8 130), .lit (.int .u8 130), .lit (.int .u8 136), .lit (.int .u8 130), .lit (.int .u8 130), .lit (.int .u8 130), .lit (.int .u8 130), .lit (.int .u8 130), .lit (.int .u8 130), .lit (.int .u8 136), .lit (.int .u8 130), .lit (.int .u8 130), .lit (.int .u8 130), .lit (.int .u8 130), .lit (.int .u8 132), .lit (.int .u8 132), .lit (.int .u8 132), .lit (.int .u8 132), .lit (.int .u8 132), .lit (.int .u8 132), .lit (.int .u8 132), .lit (.int .u8 132), .lit (.int .u8 132), .lit (.int .u8 132), .lit (.int .u8 130), .lit (.int .u8 130), .lit (.int .u8 136), .lit (.int .u8 136), .lit (.int .u8 136), .lit (.int .u8 130), .lit (.int .u8 130), .lit (.int .u8 160), .lit (.int .u8 160), .lit (.int .u8 160), .lit (.int .u8 160), .lit (.int .u8 160), .lit (.int .u8 160), .lit (.int .u8 160), .lit (.int .u8 160), .lit (.int .u8 160), .lit (.int .u8 160), .lit (.int .u8 160), .lit (.int .u8 160), .lit (.int .u8 160), .lit (.int .u8 160), .lit (.int .u8 160), .lit (.int .u8 160), .lit (.int .u8 160), .lit (.int .u8 160), .lit (.int .u8 160), .lit (.int .u8 160), .lit (.int .u8 160), .lit (.int .u8 160), .lit (.int .u8 160), .lit (.int .u8 160), .lit (.int .u8 160), .lit (.int .u8 160), .lit (.int .u8 130), .lit (.int .u8 130), .lit (.int .u8 130), .lit (.int .u8 136), .lit (.int .u8 130), .lit (.int .u8 136), .lit (.int .u8 192), .lit (.int .u8 192), .lit (.int .u8 192), .lit (.int .u8 192), .lit (.int .u8 192), .lit (.int .u8 192), .lit (.int .u8 192), .lit (.int .u8 192), .lit (.int .u8 192), .lit (.int .u8 192), .lit (.int .u8 192), .lit (.int .u8 192), .lit (.int .u8 192), .lit (.int .u8 192), .lit (.int .u8 192), .lit (.int .u8 192), .lit (.int .u8 192), .lit (.int .u8 192), .lit (.int .u8 192), .lit (.int .u8 192), .lit (.int .u8 192), .lit (.int .u8 192), .lit (.int .u8 192), .lit (.int .u8 192), .lit (.int .u8 192), .lit (.int .u8 192), .lit (.int .u8 130), .lit (.int .u8 136), .lit (.int .u8 130), .lit (.int .u8 136), .lit (.int .u8 1), .lit (.int .u8 1), .lit (.int .u8 1), .lit (.int .u8 1), .lit (.int .u8 1), .lit (.int .u8 1), .lit (.int .u8 1), .lit (.int .u8 1), .lit (.int .u8 1), .lit (.int .u8 1), .lit (.int .u8 1), .lit (.int .u8 1), .lit (.int .u8 1), .lit (.int .u8 1), .lit (.int .u8 1), .lit (.int .u8 1), .lit (.int .u8 1), .lit (.int .u8 1), .lit (.int .u8 1), .lit (.int .u8 1), .lit (.int .u8 1), .lit (.int .u8 1), .lit (.int .u8 1), .lit (.int .u8 1), .lit (.int .u8 1), .lit (.int .u8 1), .lit (.int .u8 1), .lit (.int .u8 1), .lit (.int .u8 1), .lit (.int .u8 1), .lit (.int .u8 1), .lit (.int .u8 1), .lit (.int .u8 1), .lit (.int .u8 16), .lit (.int .u8 130), .lit (.int .u8 136), .lit (.int .u8 136), .lit (.int .u8 136), .lit (.int .u8 136), .lit (.int .u8 136), .lit (.int .u8 130), .lit (.int .u8 136), .lit (.int .u8 136), .lit (.int .u8 224), .lit (.int .u8 130), .lit (.int .u8 136), .lit (.int .u8 0), .lit (.int .u8 136), .lit (.int .u8 136), .lit (.int .u8 136), .lit (.int .u8 136), .lit (.int .u8 132), .lit (.int .u8 132), .lit (.int .u8 136), .lit (.int .u8 192), .lit (.int .u8 130), .lit (.int .u8 130), .lit (.int .u8 136), .lit (.int .u8 132), .lit (.int .u8 224), .lit (.int .u8 130), .lit (.int .u8 132), .lit (.int .u8 132), .lit (.int .u8 132), .lit (.int .u8 130), .lit (.int .u8 160), .lit (.int .u8 160), .lit (.int .u8 160), .lit (.int .u8 160), .lit (.int .u8 160), .lit (.int .u8 160), .lit (.int .u8 160), .lit (.int .u8 160), .lit (.int .u8 160), .lit (.int .u8 160), .lit (.int .u8 160), .lit (.int .u8 160), .lit (.int .u8 160), .lit (.int .u8 160), .lit (.int .u8 160), .lit (.int .u8 160), .lit (.int .u8 160), .lit (.int .u8 160), .lit (.int .u8 160), .lit (.int .u8 160), .lit (.int .u8 160), .lit (.int .u8 160), .lit (.int .u8 160), .lit (.int .u8 136), .lit (.int .u8 160), .lit (.int .u8 160), .lit (.int .u8 160), .lit (.int .u8 160), .lit (.int .u8 160), .lit (.int .u8 160), .lit (.int .u8 160), .lit (.int .u8 192), .lit (.int .u8 192), .lit (.int .u8 192), .lit (.int .u8 192), .lit (.int .u8 192), .lit (.int .u8 192), .lit (.int .u8 192), .lit (.int .u8 192), .lit (.int .u8 192), .lit (.int .u8 192), .lit (.int .u8 192), .lit (.int .u8 192), .lit (.int .u8 192), .lit (.int .u8 192), .lit (.int .u8 192), .lit (.int .u8 192), .lit (.int .u8 192), .lit (.int .u8 192), .lit (.int .u8 192), .lit (.int .u8 192), .lit (.int .u8 192), .lit (.int .u8 192), .lit (.int .u8 192), .lit (.int .u8 192), .lit (.int .u8 136), .lit (.int .u8 192), .lit (.int .u8 192), .lit (.int .u8 192), .lit (.int .u8 192), .lit (.int .u8 192), .lit (.int .u8 192), .lit (.int .u8 192), .lit (.int .u8 192)]
def laid_timekeeper_flow_statements {H : Type} : DataW H := .agg [.agg [.lit (.string [87, 79, 82, 75, 70, 76, 79, 87]), .lit (.int .i64 1), .lit (.int .i64 0), .lit (.int .i64 0)], .agg [.lit (.string [68, 69, 65, 68, 76, 73, 78, 69]), .lit (.int .i64 1), .lit (.int .i64 0), .lit (.int .i64 1099511627775)], .agg [.lit (.string [80, 82, 73, 79, 82, 73, 84, 89]), .lit (.int .i64 1), .lit (.int .i64 0), .lit (.int .i64 1000)], .agg [.lit (.string [74, 79, 66]), .lit (.int .i64 1), .lit (.int .i64 0), .lit (.int .i64 0)], .agg [.lit (.string [78, 79, 68, 69, 83]), .lit (.int .i64 2), .lit (.int .i64 1), .lit (.int .i64 10000)], .agg [.lit (.string [87, 65, 76, 76, 84, 73, 77, 69]), .lit (.int .i64 2), .lit (.int .i64 1), .lit (.int .i64 1099511627775)], .agg [.lit (.string [82, 69, 84, 82, 89]), .lit (.int .i64 2), .lit (.int .i64 0), .lit (.int .i64 20)], .agg [.lit (.string [68, 79, 78, 69]), .lit (.int .i64 1), .lit (.int .i64 0), .lit (.int .i64 0)], .agg [.lit (.string [80, 65, 82, 69, 78, 84]), .lit (.int .i64 (-1)), .lit (.int .i64 0), .lit (.int .i64 0)]]
/-- One of Go's own tables, pinned by name: the form's constant. -/
def laid_unicode_Digit : DataW Unit := Go.Pinned.digit
/-- One of Go's own tables, pinned by name: the form's constant. -/
def laid_unicode_Letter : DataW Unit := Go.Pinned.letter

/-- 'timekeeperlaw13.LifeTurns': WHATEVER THE INPUT: true; the input reads as it did. -/
def lifeTurnsSpec : ChangeSpec := { name := "lifeTurns", fn := fun _ => fun
  | [d1, d2, d3, d4] => { results := [.lit (.bool true)], args := [d1, d2, d3, d4] }
  | _ => none }
def lifeTurnsRow : OpenClaim := { program := "ytgejonmjmieglaadoor", sum := "68e097b544ffc82adab2a057f9ceaf2b4581f788d2acb49698ae42ea5bd75c1d", func := "timekeeper/timekeeperlaw13.LifeTurns", spec := "lifeTurns", unfollowed := true, recurses := true, named := ["unicode.properties", "unicode.Letter", "unicode.Digit", "timekeeper/flow.statements", "math/bits.deBruijn64tab"], apart := false, laid := [("math/bits.deBruijn64tab", laid_math_bits_deBruijn64tab), ("unicode.properties", laid_unicode_properties), ("timekeeper/flow.statements", laid_timekeeper_flow_statements), ("unicode.Digit", laid_unicode_Digit), ("unicode.Letter", laid_unicode_Letter)] }
def LifeTurnsSaid : Prop := lifeTurnsRow.holds Tryd.pinned (OpenSpec.ofChange lifeTurnsSpec)

/-- ITS FALSE NEIGHBOUR: 'it returns false'. Refute it at one input. -/
def lifeTurnsWrong : ChangeSpec := { name := "lifeTurns", fn := fun _ => fun
  | [d1, d2, d3, d4] => { results := [.lit (.bool false)], args := [d1, d2, d3, d4] }
  | _ => none }
def LifeTurnsWrongFalsely : Prop := lifeTurnsRow.holds Tryd.pinned (OpenSpec.ofChange lifeTurnsWrong)

/-- 'timekeeperlaw13.LifeTells': WHATEVER THE INPUT: true; the input reads as it did. -/
def lifeTellsSpec : ChangeSpec := { name := "lifeTells", fn := fun _ => fun
  | [d1, d2] => { results := [.lit (.bool true)], args := [d1, d2] }
  | _ => none }
def lifeTellsRow : OpenClaim := { program := "ytgejonmjmieglaadoor", sum := "68e097b544ffc82adab2a057f9ceaf2b4581f788d2acb49698ae42ea5bd75c1d", func := "timekeeper/timekeeperlaw13.LifeTells", spec := "lifeTells", unfollowed := true, recurses := true, named := ["unicode.properties", "unicode.Letter", "unicode.Digit", "timekeeper/flow.statements", "math/bits.deBruijn64tab"], apart := false, laid := [("math/bits.deBruijn64tab", laid_math_bits_deBruijn64tab), ("unicode.properties", laid_unicode_properties), ("timekeeper/flow.statements", laid_timekeeper_flow_statements), ("unicode.Digit", laid_unicode_Digit), ("unicode.Letter", laid_unicode_Letter)] }
def LifeTellsSaid : Prop := lifeTellsRow.holds Tryd.pinned (OpenSpec.ofChange lifeTellsSpec)

/-- ITS FALSE NEIGHBOUR: 'it returns false'. Refute it at one input. -/
def lifeTellsWrong : ChangeSpec := { name := "lifeTells", fn := fun _ => fun
  | [d1, d2] => { results := [.lit (.bool false)], args := [d1, d2] }
  | _ => none }
def LifeTellsWrongFalsely : Prop := lifeTellsRow.holds Tryd.pinned (OpenSpec.ofChange lifeTellsWrong)

/-- 'timekeeperlaw13.LifeGoes': WHATEVER THE INPUT: true; the input reads as it did. -/
def lifeGoesSpec : ChangeSpec := { name := "lifeGoes", fn := fun _ => fun
  | [d1, d2] => { results := [.lit (.bool true)], args := [d1, d2] }
  | _ => none }
def lifeGoesRow : OpenClaim := { program := "ytgejonmjmieglaadoor", sum := "68e097b544ffc82adab2a057f9ceaf2b4581f788d2acb49698ae42ea5bd75c1d", func := "timekeeper/timekeeperlaw13.LifeGoes", spec := "lifeGoes", unfollowed := true, recurses := true, named := ["unicode.properties", "unicode.Letter", "unicode.Digit", "timekeeper/flow.statements", "math/bits.deBruijn64tab"], apart := false, laid := [("math/bits.deBruijn64tab", laid_math_bits_deBruijn64tab), ("unicode.properties", laid_unicode_properties), ("timekeeper/flow.statements", laid_timekeeper_flow_statements), ("unicode.Digit", laid_unicode_Digit), ("unicode.Letter", laid_unicode_Letter)] }
def LifeGoesSaid : Prop := lifeGoesRow.holds Tryd.pinned (OpenSpec.ofChange lifeGoesSpec)

/-- ITS FALSE NEIGHBOUR: 'it returns false'. Refute it at one input. -/
def lifeGoesWrong : ChangeSpec := { name := "lifeGoes", fn := fun _ => fun
  | [d1, d2] => { results := [.lit (.bool false)], args := [d1, d2] }
  | _ => none }
def LifeGoesWrongFalsely : Prop := lifeGoesRow.holds Tryd.pinned (OpenSpec.ofChange lifeGoesWrong)

/-- 'timekeeperlaw13.LifeDead': WHATEVER THE INPUT: true; the input reads as it did. -/
def lifeDeadSpec : ChangeSpec := { name := "lifeDead", fn := fun _ => fun
  | [d1, d2] => { results := [.lit (.bool true)], args := [d1, d2] }
  | _ => none }
def lifeDeadRow : OpenClaim := { program := "ytgejonmjmieglaadoor", sum := "68e097b544ffc82adab2a057f9ceaf2b4581f788d2acb49698ae42ea5bd75c1d", func := "timekeeper/timekeeperlaw13.LifeDead", spec := "lifeDead", unfollowed := true, recurses := true, named := ["unicode.properties", "unicode.Letter", "unicode.Digit", "timekeeper/flow.statements", "math/bits.deBruijn64tab"], apart := false, laid := [("math/bits.deBruijn64tab", laid_math_bits_deBruijn64tab), ("unicode.properties", laid_unicode_properties), ("timekeeper/flow.statements", laid_timekeeper_flow_statements), ("unicode.Digit", laid_unicode_Digit), ("unicode.Letter", laid_unicode_Letter)] }
def LifeDeadSaid : Prop := lifeDeadRow.holds Tryd.pinned (OpenSpec.ofChange lifeDeadSpec)

/-- ITS FALSE NEIGHBOUR: 'it returns false'. Refute it at one input. -/
def lifeDeadWrong : ChangeSpec := { name := "lifeDead", fn := fun _ => fun
  | [d1, d2] => { results := [.lit (.bool false)], args := [d1, d2] }
  | _ => none }
def LifeDeadWrongFalsely : Prop := lifeDeadRow.holds Tryd.pinned (OpenSpec.ofChange lifeDeadWrong)

/-- 'timekeeperlaw13.LifeAgain': WHATEVER THE INPUT: true; the input reads as it did. -/
def lifeAgainSpec : ChangeSpec := { name := "lifeAgain", fn := fun _ => fun
  | [d1, d2, d3] => { results := [.lit (.bool true)], args := [d1, d2, d3] }
  | _ => none }
def lifeAgainRow : OpenClaim := { program := "ytgejonmjmieglaadoor", sum := "68e097b544ffc82adab2a057f9ceaf2b4581f788d2acb49698ae42ea5bd75c1d", func := "timekeeper/timekeeperlaw13.LifeAgain", spec := "lifeAgain", unfollowed := true, recurses := true, named := ["unicode.properties", "unicode.Letter", "unicode.Digit", "timekeeper/flow.statements", "math/bits.deBruijn64tab"], apart := false, laid := [("math/bits.deBruijn64tab", laid_math_bits_deBruijn64tab), ("unicode.properties", laid_unicode_properties), ("timekeeper/flow.statements", laid_timekeeper_flow_statements), ("unicode.Digit", laid_unicode_Digit), ("unicode.Letter", laid_unicode_Letter)] }
def LifeAgainSaid : Prop := lifeAgainRow.holds Tryd.pinned (OpenSpec.ofChange lifeAgainSpec)

/-- ITS FALSE NEIGHBOUR: 'it returns false'. Refute it at one input. -/
def lifeAgainWrong : ChangeSpec := { name := "lifeAgain", fn := fun _ => fun
  | [d1, d2, d3] => { results := [.lit (.bool false)], args := [d1, d2, d3] }
  | _ => none }
def LifeAgainWrongFalsely : Prop := lifeAgainRow.holds Tryd.pinned (OpenSpec.ofChange lifeAgainWrong)

/-- 'timekeeperlaw13.LifeBegins': WHATEVER THE INPUT: true; the input reads as it did. -/
def lifeBeginsSpec : ChangeSpec := { name := "lifeBegins", fn := fun _ => fun
  | [d] => { results := [.lit (.bool true)], args := [d] }
  | _ => none }
def lifeBeginsRow : OpenClaim := { program := "ytgejonmjmieglaadoor", sum := "68e097b544ffc82adab2a057f9ceaf2b4581f788d2acb49698ae42ea5bd75c1d", func := "timekeeper/timekeeperlaw13.LifeBegins", spec := "lifeBegins", unfollowed := true, recurses := true, named := ["unicode.properties", "unicode.Letter", "unicode.Digit", "timekeeper/flow.statements", "math/bits.deBruijn64tab"], apart := false, laid := [("math/bits.deBruijn64tab", laid_math_bits_deBruijn64tab), ("unicode.properties", laid_unicode_properties), ("timekeeper/flow.statements", laid_timekeeper_flow_statements), ("unicode.Digit", laid_unicode_Digit), ("unicode.Letter", laid_unicode_Letter)] }
def LifeBeginsSaid : Prop := lifeBeginsRow.holds Tryd.pinned (OpenSpec.ofChange lifeBeginsSpec)

/-- ITS FALSE NEIGHBOUR: 'it returns false'. Refute it at one input. -/
def lifeBeginsWrong : ChangeSpec := { name := "lifeBegins", fn := fun _ => fun
  | [d] => { results := [.lit (.bool false)], args := [d] }
  | _ => none }
def LifeBeginsWrongFalsely : Prop := lifeBeginsRow.holds Tryd.pinned (OpenSpec.ofChange lifeBeginsWrong)

/-- 'timekeeperlaw13.LifeReady': WHATEVER THE INPUT: true; the input reads as it did. -/
def lifeReadySpec : ChangeSpec := { name := "lifeReady", fn := fun _ => fun
  | [d1, d2, d3] => { results := [.lit (.bool true)], args := [d1, d2, d3] }
  | _ => none }
def lifeReadyRow : OpenClaim := { program := "ytgejonmjmieglaadoor", sum := "68e097b544ffc82adab2a057f9ceaf2b4581f788d2acb49698ae42ea5bd75c1d", func := "timekeeper/timekeeperlaw13.LifeReady", spec := "lifeReady", unfollowed := true, recurses := true, named := ["unicode.properties", "unicode.Letter", "unicode.Digit", "timekeeper/flow.statements", "math/bits.deBruijn64tab"], apart := false, laid := [("math/bits.deBruijn64tab", laid_math_bits_deBruijn64tab), ("unicode.properties", laid_unicode_properties), ("timekeeper/flow.statements", laid_timekeeper_flow_statements), ("unicode.Digit", laid_unicode_Digit), ("unicode.Letter", laid_unicode_Letter)] }
def LifeReadySaid : Prop := lifeReadyRow.holds Tryd.pinned (OpenSpec.ofChange lifeReadySpec)

/-- ITS FALSE NEIGHBOUR: 'it returns false'. Refute it at one input. -/
def lifeReadyWrong : ChangeSpec := { name := "lifeReady", fn := fun _ => fun
  | [d1, d2, d3] => { results := [.lit (.bool false)], args := [d1, d2, d3] }
  | _ => none }
def LifeReadyWrongFalsely : Prop := lifeReadyRow.holds Tryd.pinned (OpenSpec.ofChange lifeReadyWrong)

/- THE SECOND FORM. 'bulk': how many values and letters a reading holds, each counted each time it is reached (what is shared counts as often as it is met; a slice's spare places count too). A statement '..UptoSaid' is the law's where the arguments, and the package variables that the reading takes, are together of bulk at most 1048576: NARROWER than '..Said'. Prove '..Said' where nothing that the law and all that it calls make is longer than what came in: it says more and counts as full. Else prove '..UptoSaid'. A law counts once. -/
mutual
def uptoBulk {H : Type} : DataW H → Nat
  | .lit (.string bytes) => bytes.length + 1
  | .lit _ => 1
  | .nil => 1
  | .ptr d => uptoBulk d + 1
  | .slice elems spare => uptoBulkAll elems + uptoBulkAll spare + 1
  | .agg parts => uptoBulkAll parts + 1
  | .iface _ d => uptoBulk d + 1
  | .map entries => uptoBulkEntries entries + 1
  | .held _ => 1
def uptoBulkAll {H : Type} : List (DataW H) → Nat
  | [] => 0
  | d :: r => uptoBulk d + uptoBulkAll r
def uptoBulkEntries {H : Type} : List (Lit × DataW H) → Nat
  | [] => 0
  | x :: r => uptoBulkEntry x + uptoBulkEntries r
def uptoBulkEntry {H : Type} : Lit × DataW H → Nat
  | (.string bytes, d) => bytes.length + uptoBulk d + 1
  | (_, d) => uptoBulk d + 1
 end
def uptoSmall : (H : Type) → List (DataW H) → Bool := fun _ ds => decide (uptoBulkAll ds ≤ 1048576)
def OpenSpec.upto (s : _root_.Go.ChangeSpec) : _root_.Go.OpenSpec := { _root_.Go.OpenSpec.ofChange s with cond := some uptoSmall }

/-- 'timekeeperlaw13.LifeTurns', WHERE WHAT IT READS IS OF BULK AT MOST 1048576: true; the input reads as it did. -/
def lifeTurnsUptoRow : OpenClaim := { program := "ytgejonmjmieglaadoor", sum := "68e097b544ffc82adab2a057f9ceaf2b4581f788d2acb49698ae42ea5bd75c1d", func := "timekeeper/timekeeperlaw13.LifeTurns", spec := "lifeTurns", unfollowed := true, recurses := true, named := ["unicode.properties", "unicode.Letter", "unicode.Digit", "timekeeper/flow.statements", "math/bits.deBruijn64tab"], apart := false, laid := [("math/bits.deBruijn64tab", laid_math_bits_deBruijn64tab), ("unicode.properties", laid_unicode_properties), ("timekeeper/flow.statements", laid_timekeeper_flow_statements), ("unicode.Digit", laid_unicode_Digit), ("unicode.Letter", laid_unicode_Letter)], narrowed := true }
def LifeTurnsUptoSaid : Prop := lifeTurnsUptoRow.holds Tryd.pinned (OpenSpec.upto lifeTurnsSpec)

/-- 'timekeeperlaw13.LifeTells', WHERE WHAT IT READS IS OF BULK AT MOST 1048576: true; the input reads as it did. -/
def lifeTellsUptoRow : OpenClaim := { program := "ytgejonmjmieglaadoor", sum := "68e097b544ffc82adab2a057f9ceaf2b4581f788d2acb49698ae42ea5bd75c1d", func := "timekeeper/timekeeperlaw13.LifeTells", spec := "lifeTells", unfollowed := true, recurses := true, named := ["unicode.properties", "unicode.Letter", "unicode.Digit", "timekeeper/flow.statements", "math/bits.deBruijn64tab"], apart := false, laid := [("math/bits.deBruijn64tab", laid_math_bits_deBruijn64tab), ("unicode.properties", laid_unicode_properties), ("timekeeper/flow.statements", laid_timekeeper_flow_statements), ("unicode.Digit", laid_unicode_Digit), ("unicode.Letter", laid_unicode_Letter)], narrowed := true }
def LifeTellsUptoSaid : Prop := lifeTellsUptoRow.holds Tryd.pinned (OpenSpec.upto lifeTellsSpec)

/-- 'timekeeperlaw13.LifeGoes', WHERE WHAT IT READS IS OF BULK AT MOST 1048576: true; the input reads as it did. -/
def lifeGoesUptoRow : OpenClaim := { program := "ytgejonmjmieglaadoor", sum := "68e097b544ffc82adab2a057f9ceaf2b4581f788d2acb49698ae42ea5bd75c1d", func := "timekeeper/timekeeperlaw13.LifeGoes", spec := "lifeGoes", unfollowed := true, recurses := true, named := ["unicode.properties", "unicode.Letter", "unicode.Digit", "timekeeper/flow.statements", "math/bits.deBruijn64tab"], apart := false, laid := [("math/bits.deBruijn64tab", laid_math_bits_deBruijn64tab), ("unicode.properties", laid_unicode_properties), ("timekeeper/flow.statements", laid_timekeeper_flow_statements), ("unicode.Digit", laid_unicode_Digit), ("unicode.Letter", laid_unicode_Letter)], narrowed := true }
def LifeGoesUptoSaid : Prop := lifeGoesUptoRow.holds Tryd.pinned (OpenSpec.upto lifeGoesSpec)

/-- 'timekeeperlaw13.LifeDead', WHERE WHAT IT READS IS OF BULK AT MOST 1048576: true; the input reads as it did. -/
def lifeDeadUptoRow : OpenClaim := { program := "ytgejonmjmieglaadoor", sum := "68e097b544ffc82adab2a057f9ceaf2b4581f788d2acb49698ae42ea5bd75c1d", func := "timekeeper/timekeeperlaw13.LifeDead", spec := "lifeDead", unfollowed := true, recurses := true, named := ["unicode.properties", "unicode.Letter", "unicode.Digit", "timekeeper/flow.statements", "math/bits.deBruijn64tab"], apart := false, laid := [("math/bits.deBruijn64tab", laid_math_bits_deBruijn64tab), ("unicode.properties", laid_unicode_properties), ("timekeeper/flow.statements", laid_timekeeper_flow_statements), ("unicode.Digit", laid_unicode_Digit), ("unicode.Letter", laid_unicode_Letter)], narrowed := true }
def LifeDeadUptoSaid : Prop := lifeDeadUptoRow.holds Tryd.pinned (OpenSpec.upto lifeDeadSpec)

/-- 'timekeeperlaw13.LifeAgain', WHERE WHAT IT READS IS OF BULK AT MOST 1048576: true; the input reads as it did. -/
def lifeAgainUptoRow : OpenClaim := { program := "ytgejonmjmieglaadoor", sum := "68e097b544ffc82adab2a057f9ceaf2b4581f788d2acb49698ae42ea5bd75c1d", func := "timekeeper/timekeeperlaw13.LifeAgain", spec := "lifeAgain", unfollowed := true, recurses := true, named := ["unicode.properties", "unicode.Letter", "unicode.Digit", "timekeeper/flow.statements", "math/bits.deBruijn64tab"], apart := false, laid := [("math/bits.deBruijn64tab", laid_math_bits_deBruijn64tab), ("unicode.properties", laid_unicode_properties), ("timekeeper/flow.statements", laid_timekeeper_flow_statements), ("unicode.Digit", laid_unicode_Digit), ("unicode.Letter", laid_unicode_Letter)], narrowed := true }
def LifeAgainUptoSaid : Prop := lifeAgainUptoRow.holds Tryd.pinned (OpenSpec.upto lifeAgainSpec)

/-- 'timekeeperlaw13.LifeBegins', WHERE WHAT IT READS IS OF BULK AT MOST 1048576: true; the input reads as it did. -/
def lifeBeginsUptoRow : OpenClaim := { program := "ytgejonmjmieglaadoor", sum := "68e097b544ffc82adab2a057f9ceaf2b4581f788d2acb49698ae42ea5bd75c1d", func := "timekeeper/timekeeperlaw13.LifeBegins", spec := "lifeBegins", unfollowed := true, recurses := true, named := ["unicode.properties", "unicode.Letter", "unicode.Digit", "timekeeper/flow.statements", "math/bits.deBruijn64tab"], apart := false, laid := [("math/bits.deBruijn64tab", laid_math_bits_deBruijn64tab), ("unicode.properties", laid_unicode_properties), ("timekeeper/flow.statements", laid_timekeeper_flow_statements), ("unicode.Digit", laid_unicode_Digit), ("unicode.Letter", laid_unicode_Letter)], narrowed := true }
def LifeBeginsUptoSaid : Prop := lifeBeginsUptoRow.holds Tryd.pinned (OpenSpec.upto lifeBeginsSpec)

/-- 'timekeeperlaw13.LifeReady', WHERE WHAT IT READS IS OF BULK AT MOST 1048576: true; the input reads as it did. -/
def lifeReadyUptoRow : OpenClaim := { program := "ytgejonmjmieglaadoor", sum := "68e097b544ffc82adab2a057f9ceaf2b4581f788d2acb49698ae42ea5bd75c1d", func := "timekeeper/timekeeperlaw13.LifeReady", spec := "lifeReady", unfollowed := true, recurses := true, named := ["unicode.properties", "unicode.Letter", "unicode.Digit", "timekeeper/flow.statements", "math/bits.deBruijn64tab"], apart := false, laid := [("math/bits.deBruijn64tab", laid_math_bits_deBruijn64tab), ("unicode.properties", laid_unicode_properties), ("timekeeper/flow.statements", laid_timekeeper_flow_statements), ("unicode.Digit", laid_unicode_Digit), ("unicode.Letter", laid_unicode_Letter)], narrowed := true }
def LifeReadyUptoSaid : Prop := lifeReadyUptoRow.holds Tryd.pinned (OpenSpec.upto lifeReadySpec)

end Rows
end Go.Proofs.YtgejonmjmieglaaDoor
