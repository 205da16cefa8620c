/-
  NARROWER THAN 'FOR EVERY INPUT', by the rows' own cells (each row's printed sentence says how): RankStands: laid · RankLongest: laid · RankDone: laid · RankLinks: laid.
  DERIVED. THE GIVEN ROWS OF THIS SEAT. 4 by the template 'for every input the law returns true; each argument reads behind the call as it read before'; 0 by the template 'total and deterministic' (their statements: YtaiolhanbjndcaaDoorTotals.lean).
  GIVEN WITH THE SEED: the statements are not yours to turn. If you find one false, say at which input.
  Laid BY PROGRAM, IN A SANDBOX (cutbox-rows.mjs): the forced cells as the released guide's own fill.sh prints them over the translation 08db45957a0ce38b… (all of the seat's roots in one cut). By AI agents, Wed Nov 11 2026. No macro, syntax, notation, axiom, sorry.
-/
import Derived.Test.YtaiolhanbjndcaaDoorChecked
import GoSem.PinnedTables
import GoSem.Claim
import GoSem.ClaimJoined
import GoSem.ClaimMapViews
import Derived.JoinedTies
import Derived.KernelRfl
namespace Go.Proofs.YtaiolhanbjndcaaDoor
/- THE CELL 'sum', in the pinned program and in every row, IS THE sha256 OF THE DUMP (.gsa) THAT YtaiolhanbjndcaaDoorProg.lean LOADS. Nothing in Lean hashes anything: it is a label: what it is worth is what the hold of that sum in a sandbox is worth. -/
noncomputable def Tryd.pinned : Pinned := { name := "ytaiolhanbjndcaadoor", sum := "08db45957a0ce38b1945c90f432b053e0813715a8dc07fec9e652f324535f4a9", checked := Tryd.checked }
namespace Rows
def none {H : Type} : Left H := { results := [], args := [] }

/- WHAT THE LISTED PACKAGE-LEVEL VARIABLES READ AS WHEN THE CALL BEGINS. Each datum BY PROGRAM (the guide's laid-datum.mjs) off the statement by which the dump's own 'gosem.cut.vars' lays the variable. In a bare row this is a premise. The card (YtaiolhanbjndcaaDoorCards.lean) ties it to the program's text. -/
def laid_math_bits_deBruijn64tab {H : Type} : DataW H := .agg [.lit (.int .u8 0), .lit (.int .u8 1), .lit (.int .u8 56), .lit (.int .u8 2), .lit (.int .u8 57), .lit (.int .u8 49), .lit (.int .u8 28), .lit (.int .u8 3), .lit (.int .u8 61), .lit (.int .u8 58), .lit (.int .u8 42), .lit (.int .u8 50), .lit (.int .u8 38), .lit (.int .u8 29), .lit (.int .u8 17), .lit (.int .u8 4), .lit (.int .u8 62), .lit (.int .u8 47), .lit (.int .u8 59), .lit (.int .u8 36), .lit (.int .u8 45), .lit (.int .u8 43), .lit (.int .u8 51), .lit (.int .u8 22), .lit (.int .u8 53), .lit (.int .u8 39), .lit (.int .u8 33), .lit (.int .u8 30), .lit (.int .u8 24), .lit (.int .u8 18), .lit (.int .u8 12), .lit (.int .u8 5), .lit (.int .u8 63), .lit (.int .u8 55), .lit (.int .u8 48), .lit (.int .u8 27), .lit (.int .u8 60), .lit (.int .u8 41), .lit (.int .u8 37), .lit (.int .u8 16), .lit (.int .u8 46), .lit (.int .u8 35), .lit (.int .u8 44), .lit (.int .u8 21), .lit (.int .u8 52), .lit (.int .u8 32), .lit (.int .u8 23), .lit (.int .u8 11), .lit (.int .u8 54), .lit (.int .u8 26), .lit (.int .u8 40), .lit (.int .u8 15), .lit (.int .u8 34), .lit (.int .u8 20), .lit (.int .u8 31), .lit (.int .u8 10), .lit (.int .u8 25), .lit (.int .u8 14), .lit (.int .u8 19), .lit (.int .u8 9), .lit (.int .u8 13), .lit (.int .u8 8), .lit (.int .u8 7), .lit (.int .u8 6)]
def laid_unicode_properties {H : Type} : DataW H := .agg [.lit (.int .u8 1), .lit (.int .u8 1), .lit (.int .u8 1), .lit (.int .u8 1), .lit (.int .u8 1), .lit (.int .u8 1), .lit (.int .u8 1), .lit (.int .u8 1), .lit (.int .u8 1), .lit (.int .u8 1), .lit (.int .u8 1), .lit (.int .u8 1), .lit (.int .u8 1), .lit (.int .u8 1), .lit (.int .u8 1), .lit (.int .u8 1), .lit (.int .u8 1), .lit (.int .u8 1), .lit (.int .u8 1), .lit (.int .u8 1), .lit (.int .u8 1), .lit (.int .u8 1), .lit (.int .u8 1), .lit (.int .u8 1), .lit (.int .u8 1), .lit (.int .u8 1), .lit (.int .u8 1), .lit (.int .u8 1), .lit (.int .u8 1), .lit (.int .u8 1), .lit (.int .u8 1), .lit (.int .u8 1), .lit (.int .u8 144), .lit (.int .u8 130), .lit (.int .u8 130), .lit (.int .u8 130), .lit (.int .u8 136), .lit (.int .u8 130), .lit (.int .u8 130), .lit (.int .u8 130), .lit (.int .u8 130), .lit (.int .u8 130), .lit (.int .u8 130), .lit (.int .u8 136), .lit (.int .u8 130), .lit (.int .u8 130), .lit (.int .u8 130), .lit (.int .u8 130), .lit (.int .u8 132), .lit (.int .u8 132), .lit (.int .u8 132), .lit (.int .u8 132), .lit (.int .u8 132), .lit (.int .u8 132), .lit (.int .u8 132), .lit (.int .u8 132), .lit (.int .u8 132), .lit (.int .u8 132), .lit (.int .u8 130), .lit (.int .u8 130), .lit (.int .u8 136), .lit (.int .u8 136), .lit (.int .u8 136), .lit (.int .u8 130), .lit (.int .u8 130), .lit (.int .u8 160), .lit (.int .u8 160), .lit (.int .u8 160), .lit (.int .u8 160), .lit (.int .u8 160), .lit (.int .u8 160), .lit (.int .u8 160), .lit (.int .u8 160), .lit (.int .u8 160), .lit (.int .u8 160), .lit (.int .u8 160), .lit (.int .u8 160), .lit (.int .u8 160), .lit (.int .u8 160), .lit (.int .u8 160), .lit (.int .u8 160), .lit (.int .u8 160), .lit (.int .u8 160), .lit (.int .u8 160), .lit (.int .u8 160), .lit (.int .u8 160), .lit (.int .u8 160), .lit (.int .u8 160), .lit (.int .u8 160), .lit (.int .u8 160), .lit (.int .u8 160), .lit (.int .u8 130), .lit (.int .u8 130), .lit (.int .u8 130), .lit (.int .u8 136), .lit (.int .u8 130), .lit (.int .u8 136), .lit (.int .u8 192), .lit (.int .u8 192), .lit (.int .u8 192), .lit (.int .u8 192), .lit (.int .u8 192), .lit (.int .u8 192), .lit (.int .u8 192), .lit (.int .u8 192), .lit (.int .u8 192), .lit (.int .u8 192), .lit (.int .u8 192), .lit (.int .u8 192), .lit (.int .u8 192), .lit (.int .u8 192), .lit (.int .u8 192), .lit (.int .u8 192), .lit (.int .u8 192), .lit (.int .u8 192), .lit (.int .u8 192), .lit (.int .u8 192), .lit (.int .u8 192), .lit (.int .u8 192), .lit (.int .u8 192), .lit (.int .u8 192), .lit (.int .u8 192), .lit (.int .u8 192), .lit (.int .u8 130), .lit (.int .u8 136), .lit (.int .u8 130), .lit (.int .u8 136), .lit (.int .u8 1), .lit (.int .u8 1), .lit (.int .u8 1), .lit (.int .u8 1), .lit (.int .u8 1), .lit (.int .u8 1), .lit (.int .u8 1), .lit (.int .u8 1), .lit (.int .u8 1), .lit (.int .u8 1), .lit (.int .u8 1), .lit (.int .u8 1), .lit (.int .u8 1), .lit (.int .u8 1), .lit (.int .u8 1), .lit (.int .u8 1), .lit (.int .u8 1), .lit (.int .u8 1), .lit (.int .u8 1), .lit (.int .u8 1), .lit (.int .u8 1), .lit (.int .u8 1), .lit (.int .u8 1), .lit (.int .u8 1), .lit (.int .u8 1), .lit (.int .u8 1), .lit (.int .u8 1), .lit (.int .u8 1), .lit (.int .u8 1), .lit (.int .u8 1), .lit (.int .u8 1), .lit (.int .u8 1), .lit (.int .u8 1), .lit (.int .u8 16), .lit (.int .u8 130), .lit (.int .u8 136), .lit (.int .u8 136), .lit (.int .u8 136), .lit (.int .u8 136), .lit (.int .u8 136), .lit (.int .u8 130), .lit (.int .u8 136), .lit (.int .u8 136), .lit (.int .u8 224), .lit (.int .u8 130), .lit (.int .u8 136), .lit (.int .u8 0), .lit (.int .u8 136), .lit (.int .u8 136), .lit (.int .u8 136), .lit (.int .u8 136), .lit (.int .u8 132), .lit (.int .u8 132), .lit (.int .u8 136), .lit (.int .u8 192), .lit (.int .u8 130), .lit (.int .u8 130), .lit (.int .u8 136), .lit (.int .u8 132), .lit (.int .u8 224), .lit (.int .u8 130), .lit (.int .u8 132), .lit (.int .u8 132), .lit (.int .u8 132), .lit (.int .u8 130), .lit (.int .u8 160), .lit (.int .u8 160), .lit (.int .u8 160), .lit (.int .u8 160), .lit (.int .u8 160), .lit (.int .u8 160), .lit (.int .u8 160), .lit (.int .u8 160), .lit (.int .u8 160), .lit (.int .u8 160), .lit (.int .u8 160), .lit (.int .u8 160), .lit (.int .u8 160), .lit (.int .u8 160), .lit (.int .u8 160), .lit (.int .u8 160), .lit (.int .u8 160), .lit (.int .u8 160), .lit (.int .u8 160), .lit (.int .u8 160), .lit (.int .u8 160), .lit (.int .u8 160), .lit (.int .u8 160), .lit (.int .u8 136), .lit (.int .u8 160), .lit (.int .u8 160), .lit (.int .u8 160), .lit (.int .u8 160), .lit (.int .u8 160), .lit (.int .u8 160), .lit (.int .u8 160), .lit (.int .u8 192), .lit (.int .u8 192), .lit (.int .u8 192), .lit (.int .u8 192), .lit (.int .u8 192), .lit (.int .u8 192), .lit (.int .u8 192), .lit (.int .u8 192), .lit (.int .u8 192), .lit (.int .u8 192), .lit (.int .u8 192), .lit (.int .u8 192), .lit (.int .u8 192), .lit (.int .u8 192), .lit (.int .u8 192), .lit (.int .u8 192), .lit (.int .u8 192), .lit (.int .u8 192), .lit (.int .u8 192), .lit (.int .u8 192), .lit (.int .u8 192), .lit (.int .u8 192), .lit (.int .u8 192), .lit (.int .u8 192), .lit (.int .u8 136), .lit (.int .u8 192), .lit (.int .u8 192), .lit (.int .u8 192), .lit (.int .u8 192), .lit (.int .u8 192), .lit (.int .u8 192), .lit (.int .u8 192), .lit (.int .u8 192)]
def laid_timekeeper_flow_statements {H : Type} : DataW H := .agg [.agg [.lit (.string [87, 79, 82, 75, 70, 76, 79, 87]), .lit (.int .i64 1), .lit (.int .i64 0), .lit (.int .i64 0)], .agg [.lit (.string [68, 69, 65, 68, 76, 73, 78, 69]), .lit (.int .i64 1), .lit (.int .i64 0), .lit (.int .i64 1099511627775)], .agg [.lit (.string [80, 82, 73, 79, 82, 73, 84, 89]), .lit (.int .i64 1), .lit (.int .i64 0), .lit (.int .i64 1000)], .agg [.lit (.string [74, 79, 66]), .lit (.int .i64 1), .lit (.int .i64 0), .lit (.int .i64 0)], .agg [.lit (.string [78, 79, 68, 69, 83]), .lit (.int .i64 2), .lit (.int .i64 1), .lit (.int .i64 10000)], .agg [.lit (.string [87, 65, 76, 76, 84, 73, 77, 69]), .lit (.int .i64 2), .lit (.int .i64 1), .lit (.int .i64 1099511627775)], .agg [.lit (.string [82, 69, 84, 82, 89]), .lit (.int .i64 2), .lit (.int .i64 0), .lit (.int .i64 20)], .agg [.lit (.string [68, 79, 78, 69]), .lit (.int .i64 1), .lit (.int .i64 0), .lit (.int .i64 0)], .agg [.lit (.string [80, 65, 82, 69, 78, 84]), .lit (.int .i64 (-1)), .lit (.int .i64 0), .lit (.int .i64 0)]]
/-- One of Go's own tables, pinned by name: the form's constant. -/
def laid_unicode_Digit : DataW Unit := Go.Pinned.digit
/-- One of Go's own tables, pinned by name: the form's constant. -/
def laid_unicode_Letter : DataW Unit := Go.Pinned.letter

/-- 'timekeeperlaw07.RankStands': WHATEVER THE INPUT: true; the input reads as it did. -/
def rankStandsSpec : ChangeSpec := { name := "rankStands", fn := fun _ => fun
  | [d] => { results := [.lit (.bool true)], args := [d] }
  | _ => none }
def rankStandsRow : OpenClaim := { program := "ytaiolhanbjndcaadoor", sum := "08db45957a0ce38b1945c90f432b053e0813715a8dc07fec9e652f324535f4a9", func := "timekeeper/timekeeperlaw07.RankStands", spec := "rankStands", unfollowed := true, recurses := true, named := ["unicode.properties", "unicode.Letter", "unicode.Digit", "timekeeper/flow.statements", "math/bits.deBruijn64tab"], apart := false, laid := [("math/bits.deBruijn64tab", laid_math_bits_deBruijn64tab), ("unicode.properties", laid_unicode_properties), ("timekeeper/flow.statements", laid_timekeeper_flow_statements), ("unicode.Digit", laid_unicode_Digit), ("unicode.Letter", laid_unicode_Letter)] }
def RankStandsSaid : Prop := rankStandsRow.holds Tryd.pinned (OpenSpec.ofChange rankStandsSpec)

/-- ITS FALSE NEIGHBOUR: 'it returns false'. Refute it at one input. -/
def rankStandsWrong : ChangeSpec := { name := "rankStands", fn := fun _ => fun
  | [d] => { results := [.lit (.bool false)], args := [d] }
  | _ => none }
def RankStandsWrongFalsely : Prop := rankStandsRow.holds Tryd.pinned (OpenSpec.ofChange rankStandsWrong)

/-- 'timekeeperlaw07.RankLongest': WHATEVER THE INPUT: true; the input reads as it did. -/
def rankLongestSpec : ChangeSpec := { name := "rankLongest", fn := fun _ => fun
  | [d] => { results := [.lit (.bool true)], args := [d] }
  | _ => none }
def rankLongestRow : OpenClaim := { program := "ytaiolhanbjndcaadoor", sum := "08db45957a0ce38b1945c90f432b053e0813715a8dc07fec9e652f324535f4a9", func := "timekeeper/timekeeperlaw07.RankLongest", spec := "rankLongest", unfollowed := true, recurses := true, named := ["unicode.properties", "unicode.Letter", "unicode.Digit", "timekeeper/flow.statements", "math/bits.deBruijn64tab"], apart := false, laid := [("math/bits.deBruijn64tab", laid_math_bits_deBruijn64tab), ("unicode.properties", laid_unicode_properties), ("timekeeper/flow.statements", laid_timekeeper_flow_statements), ("unicode.Digit", laid_unicode_Digit), ("unicode.Letter", laid_unicode_Letter)] }
def RankLongestSaid : Prop := rankLongestRow.holds Tryd.pinned (OpenSpec.ofChange rankLongestSpec)

/-- ITS FALSE NEIGHBOUR: 'it returns false'. Refute it at one input. -/
def rankLongestWrong : ChangeSpec := { name := "rankLongest", fn := fun _ => fun
  | [d] => { results := [.lit (.bool false)], args := [d] }
  | _ => none }
def RankLongestWrongFalsely : Prop := rankLongestRow.holds Tryd.pinned (OpenSpec.ofChange rankLongestWrong)

/-- 'timekeeperlaw07.RankDone': WHATEVER THE INPUT: true; the input reads as it did. -/
def rankDoneSpec : ChangeSpec := { name := "rankDone", fn := fun _ => fun
  | [d1, d2] => { results := [.lit (.bool true)], args := [d1, d2] }
  | _ => none }
def rankDoneRow : OpenClaim := { program := "ytaiolhanbjndcaadoor", sum := "08db45957a0ce38b1945c90f432b053e0813715a8dc07fec9e652f324535f4a9", func := "timekeeper/timekeeperlaw07.RankDone", spec := "rankDone", unfollowed := true, recurses := true, named := ["unicode.properties", "unicode.Letter", "unicode.Digit", "timekeeper/flow.statements", "math/bits.deBruijn64tab"], apart := false, laid := [("math/bits.deBruijn64tab", laid_math_bits_deBruijn64tab), ("unicode.properties", laid_unicode_properties), ("timekeeper/flow.statements", laid_timekeeper_flow_statements), ("unicode.Digit", laid_unicode_Digit), ("unicode.Letter", laid_unicode_Letter)] }
def RankDoneSaid : Prop := rankDoneRow.holds Tryd.pinned (OpenSpec.ofChange rankDoneSpec)

/-- ITS FALSE NEIGHBOUR: 'it returns false'. Refute it at one input. -/
def rankDoneWrong : ChangeSpec := { name := "rankDone", fn := fun _ => fun
  | [d1, d2] => { results := [.lit (.bool false)], args := [d1, d2] }
  | _ => none }
def RankDoneWrongFalsely : Prop := rankDoneRow.holds Tryd.pinned (OpenSpec.ofChange rankDoneWrong)

/-- 'timekeeperlaw07.RankLinks': WHATEVER THE INPUT: true; the input reads as it did. -/
def rankLinksSpec : ChangeSpec := { name := "rankLinks", fn := fun _ => fun
  | [d1, d2] => { results := [.lit (.bool true)], args := [d1, d2] }
  | _ => none }
def rankLinksRow : OpenClaim := { program := "ytaiolhanbjndcaadoor", sum := "08db45957a0ce38b1945c90f432b053e0813715a8dc07fec9e652f324535f4a9", func := "timekeeper/timekeeperlaw07.RankLinks", spec := "rankLinks", unfollowed := true, recurses := true, named := ["unicode.properties", "unicode.Letter", "unicode.Digit", "timekeeper/flow.statements", "math/bits.deBruijn64tab"], apart := false, laid := [("math/bits.deBruijn64tab", laid_math_bits_deBruijn64tab), ("unicode.properties", laid_unicode_properties), ("timekeeper/flow.statements", laid_timekeeper_flow_statements), ("unicode.Digit", laid_unicode_Digit), ("unicode.Letter", laid_unicode_Letter)] }
def RankLinksSaid : Prop := rankLinksRow.holds Tryd.pinned (OpenSpec.ofChange rankLinksSpec)

/-- ITS FALSE NEIGHBOUR: 'it returns false'. Refute it at one input. -/
def rankLinksWrong : ChangeSpec := { name := "rankLinks", fn := fun _ => fun
  | [d1, d2] => { results := [.lit (.bool false)], args := [d1, d2] }
  | _ => none }
def RankLinksWrongFalsely : Prop := rankLinksRow.holds Tryd.pinned (OpenSpec.ofChange rankLinksWrong)

/- THE SECOND FORM. 'bulk': how many values and letters a reading holds, each counted each time it is reached (what is shared counts as often as it is met; a slice's spare places count too). A statement '..UptoSaid' is the law's where the arguments, and the package variables that the reading takes, are together of bulk at most 1048576: NARROWER than '..Said'. Prove '..Said' where nothing that the law and all that it calls make is longer than what came in: it says more and counts as full. Else prove '..UptoSaid'. A law counts once. -/
mutual
def uptoBulk {H : Type} : DataW H → Nat
  | .lit (.string bytes) => bytes.length + 1
  | .lit _ => 1
  | .nil => 1
  | .ptr d => uptoBulk d + 1
  | .slice elems spare => uptoBulkAll elems + uptoBulkAll spare + 1
  | .agg parts => uptoBulkAll parts + 1
  | .iface _ d => uptoBulk d + 1
  | .map entries => uptoBulkEntries entries + 1
  | .held _ => 1
def uptoBulkAll {H : Type} : List (DataW H) → Nat
  | [] => 0
  | d :: r => uptoBulk d + uptoBulkAll r
def uptoBulkEntries {H : Type} : List (Lit × DataW H) → Nat
  | [] => 0
  | x :: r => uptoBulkEntry x + uptoBulkEntries r
def uptoBulkEntry {H : Type} : Lit × DataW H → Nat
  | (.string bytes, d) => bytes.length + uptoBulk d + 1
  | (_, d) => uptoBulk d + 1
 end
def uptoSmall : (H : Type) → List (DataW H) → Bool := fun _ ds => decide (uptoBulkAll ds ≤ 1048576)
def OpenSpec.upto (s : _root_.Go.ChangeSpec) : _root_.Go.OpenSpec := { _root_.Go.OpenSpec.ofChange s with cond := some uptoSmall }

/-- 'timekeeperlaw07.RankStands', WHERE WHAT IT READS IS OF BULK AT MOST 1048576: true; the input reads as it did. -/
def rankStandsUptoRow : OpenClaim := { program := "ytaiolhanbjndcaadoor", sum := "08db45957a0ce38b1945c90f432b053e0813715a8dc07fec9e652f324535f4a9", func := "timekeeper/timekeeperlaw07.RankStands", spec := "rankStands", unfollowed := true, recurses := true, named := ["unicode.properties", "unicode.Letter", "unicode.Digit", "timekeeper/flow.statements", "math/bits.deBruijn64tab"], apart := false, laid := [("math/bits.deBruijn64tab", laid_math_bits_deBruijn64tab), ("unicode.properties", laid_unicode_properties), ("timekeeper/flow.statements", laid_timekeeper_flow_statements), ("unicode.Digit", laid_unicode_Digit), ("unicode.Letter", laid_unicode_Letter)], narrowed := true }
def RankStandsUptoSaid : Prop := rankStandsUptoRow.holds Tryd.pinned (OpenSpec.upto rankStandsSpec)

/-- 'timekeeperlaw07.RankLongest', WHERE WHAT IT READS IS OF BULK AT MOST 1048576: true; the input reads as it did. -/
def rankLongestUptoRow : OpenClaim := { program := "ytaiolhanbjndcaadoor", sum := "08db45957a0ce38b1945c90f432b053e0813715a8dc07fec9e652f324535f4a9", func := "timekeeper/timekeeperlaw07.RankLongest", spec := "rankLongest", unfollowed := true, recurses := true, named := ["unicode.properties", "unicode.Letter", "unicode.Digit", "timekeeper/flow.statements", "math/bits.deBruijn64tab"], apart := false, laid := [("math/bits.deBruijn64tab", laid_math_bits_deBruijn64tab), ("unicode.properties", laid_unicode_properties), ("timekeeper/flow.statements", laid_timekeeper_flow_statements), ("unicode.Digit", laid_unicode_Digit), ("unicode.Letter", laid_unicode_Letter)], narrowed := true }
def RankLongestUptoSaid : Prop := rankLongestUptoRow.holds Tryd.pinned (OpenSpec.upto rankLongestSpec)

/-- 'timekeeperlaw07.RankDone', WHERE WHAT IT READS IS OF BULK AT MOST 1048576: true; the input reads as it did. -/
def rankDoneUptoRow : OpenClaim := { program := "ytaiolhanbjndcaadoor", sum := "08db45957a0ce38b1945c90f432b053e0813715a8dc07fec9e652f324535f4a9", func := "timekeeper/timekeeperlaw07.RankDone", spec := "rankDone", unfollowed := true, recurses := true, named := ["unicode.properties", "unicode.Letter", "unicode.Digit", "timekeeper/flow.statements", "math/bits.deBruijn64tab"], apart := false, laid := [("math/bits.deBruijn64tab", laid_math_bits_deBruijn64tab), ("unicode.properties", laid_unicode_properties), ("timekeeper/flow.statements", laid_timekeeper_flow_statements), ("unicode.Digit", laid_unicode_Digit), ("unicode.Letter", laid_unicode_Letter)], narrowed := true }
def RankDoneUptoSaid : Prop := rankDoneUptoRow.holds Tryd.pinned (OpenSpec.upto rankDoneSpec)

/-- 'timekeeperlaw07.RankLinks', WHERE WHAT IT READS IS OF BULK AT MOST 1048576: true; the input reads as it did. -/
def rankLinksUptoRow : OpenClaim := { program := "ytaiolhanbjndcaadoor", sum := "08db45957a0ce38b1945c90f432b053e0813715a8dc07fec9e652f324535f4a9", func := "timekeeper/timekeeperlaw07.RankLinks", spec := "rankLinks", unfollowed := true, recurses := true, named := ["unicode.properties", "unicode.Letter", "unicode.Digit", "timekeeper/flow.statements", "math/bits.deBruijn64tab"], apart := false, laid := [("math/bits.deBruijn64tab", laid_math_bits_deBruijn64tab), ("unicode.properties", laid_unicode_properties), ("timekeeper/flow.statements", laid_timekeeper_flow_statements), ("unicode.Digit", laid_unicode_Digit), ("unicode.Letter", laid_unicode_Letter)], narrowed := true }
def RankLinksUptoSaid : Prop := rankLinksUptoRow.holds Tryd.pinned (OpenSpec.upto rankLinksSpec)

end Rows
end Go.Proofs.YtaiolhanbjndcaaDoor
