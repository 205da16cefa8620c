/-
  DERIVED. GIVEN WITH THE SEED: THE CARDS: each row of YtdcfakbelnpljaaGreatDoorRows.lean that lists a variable, with what it lists TIED to the program's text (the seventh form; the later family's looks); each row that meets fmt, with fmt's text TOLD by the authors' own Lean function (tested against real Go, not proved from fmt's source: count such statements apart). THE CARD IS WHAT COUNTS. Prove the row's statement (the work); the ties are given (YtdcfakbelnpljaaGreatDoorTie.lean); close each card by the builder's one call (the guide's Derived/Test/ToyasCard.lean, 'card_holds'). Laid BY PROGRAM, IN A SANDBOX (cutbox-door.mjs). By AI agents, Wed Nov 11 2026. No macro, syntax, notation, axiom, sorry.
-/
import Derived.Test.YtdcfakbelnpljaaGreatDoorRows
import GoSem.ClaimSeven
namespace Go.Proofs.YtdcfakbelnpljaaGreatDoor
namespace Rows

/-- THE TIED CARD OF 'timekeeperlaw06.FlowParses'. -/
def flowParsesCard : Claim7 := { stood := { row := flowParsesRow, standIns := [], harness := (true, "c421c601d5abf8e360d282b8292cf7b7e117cbbeb0e3afe5566a6574a4021320"), looks := false }, kinds := [], alts := [], laidByText := true, laidKinds := [.data, .data, .data, .wider, .pinned, .pinned, .pinned], laidTests := true, laidLooks := .later }
def FlowParsesCardSaid : Prop := Claim7.holds Tryz.pinned (.plain (OpenSpec.ofChange flowParsesSpec)) flowParsesCard

/-- THE TIED CARD OF 'timekeeperlaw06.FlowPrints'. -/
def flowPrintsCard : Claim7 := { stood := { row := flowPrintsRow, standIns := [], harness := (true, "c421c601d5abf8e360d282b8292cf7b7e117cbbeb0e3afe5566a6574a4021320"), looks := false }, kinds := [], alts := [], laidByText := true, laidKinds := [.data, .data, .data, .wider, .pinned, .pinned, .pinned], laidTests := true, laidLooks := .later }
def FlowPrintsCardSaid : Prop := Claim7.holds Tryz.pinned (.plain (OpenSpec.ofChange flowPrintsSpec)) flowPrintsCard

/-- THE TIED CARD OF 'timekeeperlaw06.FlowBack'. -/
def flowBackCard : Claim7 := { stood := { row := flowBackRow, standIns := [], harness := (true, "c421c601d5abf8e360d282b8292cf7b7e117cbbeb0e3afe5566a6574a4021320"), looks := false }, kinds := [], alts := [], laidByText := true, laidKinds := [.data, .data, .data, .wider, .pinned, .pinned, .pinned], laidTests := true, laidLooks := .later }
def FlowBackCardSaid : Prop := Claim7.holds Tryz.pinned (.plain (OpenSpec.ofChange flowBackSpec)) flowBackCard

/-- THE TIED CARD OF 'timekeeperlaw06.FlowLines'. -/
def flowLinesCard : Claim7 := { stood := { row := flowLinesRow, standIns := [], harness := (true, "c421c601d5abf8e360d282b8292cf7b7e117cbbeb0e3afe5566a6574a4021320"), looks := false }, kinds := [], alts := [], laidByText := true, laidKinds := [.data, .data, .data, .wider, .pinned, .pinned, .pinned], laidTests := true, laidLooks := .later }
def FlowLinesCardSaid : Prop := Claim7.holds Tryz.pinned (.plain (OpenSpec.ofChange flowLinesSpec)) flowLinesCard

/-- THE TIED CARD OF 'timekeeperlaw06.FlowFinds'. -/
def flowFindsCard : Claim7 := { stood := { row := flowFindsRow, standIns := [], harness := (true, "c421c601d5abf8e360d282b8292cf7b7e117cbbeb0e3afe5566a6574a4021320"), looks := false }, kinds := [], alts := [], laidByText := true, laidKinds := [.data, .data, .data, .wider, .pinned, .pinned, .pinned], laidTests := true, laidLooks := .later }
def FlowFindsCardSaid : Prop := Claim7.holds Tryz.pinned (.plain (OpenSpec.ofChange flowFindsSpec)) flowFindsCard

/-- THE TIED CARD OF 'timekeeperlaw06.FlowSame'. -/
def flowSameCard : Claim7 := { stood := { row := flowSameRow, standIns := [], harness := (true, "c421c601d5abf8e360d282b8292cf7b7e117cbbeb0e3afe5566a6574a4021320"), looks := false }, kinds := [], alts := [], laidByText := true, laidKinds := [.data, .data, .data, .wider, .pinned, .pinned, .pinned], laidTests := true, laidLooks := .later }
def FlowSameCardSaid : Prop := Claim7.holds Tryz.pinned (.plain (OpenSpec.ofChange flowSameSpec)) flowSameCard

/-- THE TIED CARD OF 'timekeeperlaw06.FlowSpaces'. -/
def flowSpacesCard : Claim7 := { stood := { row := flowSpacesRow, standIns := [], harness := (true, "c421c601d5abf8e360d282b8292cf7b7e117cbbeb0e3afe5566a6574a4021320"), looks := false }, kinds := [], alts := [], laidByText := true, laidKinds := [.data, .data, .data, .wider, .pinned, .pinned, .pinned], laidTests := true, laidLooks := .later }
def FlowSpacesCardSaid : Prop := Claim7.holds Tryz.pinned (.plain (OpenSpec.ofChange flowSpacesSpec)) flowSpacesCard

/-- THE TIED CARD OF 'timekeeperlaw06.FlowChecks'. -/
def flowChecksCard : Claim7 := { stood := { row := flowChecksRow, standIns := [], harness := (true, "c421c601d5abf8e360d282b8292cf7b7e117cbbeb0e3afe5566a6574a4021320"), looks := false }, kinds := [], alts := [], laidByText := true, laidKinds := [.data, .data, .data, .wider, .pinned, .pinned, .pinned], laidTests := true, laidLooks := .later }
def FlowChecksCardSaid : Prop := Claim7.holds Tryz.pinned (.plain (OpenSpec.ofChange flowChecksSpec)) flowChecksCard

/-- THE TIED CARD OF 'timekeeperlaw06.FlowTwice'. -/
def flowTwiceCard : Claim7 := { stood := { row := flowTwiceRow, standIns := [], harness := (true, "c421c601d5abf8e360d282b8292cf7b7e117cbbeb0e3afe5566a6574a4021320"), looks := false }, kinds := [], alts := [], laidByText := true, laidKinds := [.data, .data, .data, .wider, .pinned, .pinned, .pinned], laidTests := true, laidLooks := .later }
def FlowTwiceCardSaid : Prop := Claim7.holds Tryz.pinned (.plain (OpenSpec.ofChange flowTwiceSpec)) flowTwiceCard

/-- THE SECOND FORM's CARD OF 'timekeeperlaw06.FlowParses'. -/
def flowParsesUptoCard : Claim7 := { stood := { row := flowParsesUptoRow, standIns := [], harness := (true, "c421c601d5abf8e360d282b8292cf7b7e117cbbeb0e3afe5566a6574a4021320"), looks := false }, kinds := [], alts := [], laidByText := true, laidKinds := [.data, .data, .data, .wider, .pinned, .pinned, .pinned], laidTests := true, laidLooks := .later }
def FlowParsesUptoCardSaid : Prop := Claim7.holds Tryz.pinned (.plain (OpenSpec.upto flowParsesSpec)) flowParsesUptoCard

/-- THE SECOND FORM's CARD OF 'timekeeperlaw06.FlowPrints'. -/
def flowPrintsUptoCard : Claim7 := { stood := { row := flowPrintsUptoRow, standIns := [], harness := (true, "c421c601d5abf8e360d282b8292cf7b7e117cbbeb0e3afe5566a6574a4021320"), looks := false }, kinds := [], alts := [], laidByText := true, laidKinds := [.data, .data, .data, .wider, .pinned, .pinned, .pinned], laidTests := true, laidLooks := .later }
def FlowPrintsUptoCardSaid : Prop := Claim7.holds Tryz.pinned (.plain (OpenSpec.upto flowPrintsSpec)) flowPrintsUptoCard

/-- THE SECOND FORM's CARD OF 'timekeeperlaw06.FlowBack'. -/
def flowBackUptoCard : Claim7 := { stood := { row := flowBackUptoRow, standIns := [], harness := (true, "c421c601d5abf8e360d282b8292cf7b7e117cbbeb0e3afe5566a6574a4021320"), looks := false }, kinds := [], alts := [], laidByText := true, laidKinds := [.data, .data, .data, .wider, .pinned, .pinned, .pinned], laidTests := true, laidLooks := .later }
def FlowBackUptoCardSaid : Prop := Claim7.holds Tryz.pinned (.plain (OpenSpec.upto flowBackSpec)) flowBackUptoCard

/-- THE SECOND FORM's CARD OF 'timekeeperlaw06.FlowLines'. -/
def flowLinesUptoCard : Claim7 := { stood := { row := flowLinesUptoRow, standIns := [], harness := (true, "c421c601d5abf8e360d282b8292cf7b7e117cbbeb0e3afe5566a6574a4021320"), looks := false }, kinds := [], alts := [], laidByText := true, laidKinds := [.data, .data, .data, .wider, .pinned, .pinned, .pinned], laidTests := true, laidLooks := .later }
def FlowLinesUptoCardSaid : Prop := Claim7.holds Tryz.pinned (.plain (OpenSpec.upto flowLinesSpec)) flowLinesUptoCard

/-- THE SECOND FORM's CARD OF 'timekeeperlaw06.FlowFinds'. -/
def flowFindsUptoCard : Claim7 := { stood := { row := flowFindsUptoRow, standIns := [], harness := (true, "c421c601d5abf8e360d282b8292cf7b7e117cbbeb0e3afe5566a6574a4021320"), looks := false }, kinds := [], alts := [], laidByText := true, laidKinds := [.data, .data, .data, .wider, .pinned, .pinned, .pinned], laidTests := true, laidLooks := .later }
def FlowFindsUptoCardSaid : Prop := Claim7.holds Tryz.pinned (.plain (OpenSpec.upto flowFindsSpec)) flowFindsUptoCard

/-- THE SECOND FORM's CARD OF 'timekeeperlaw06.FlowSame'. -/
def flowSameUptoCard : Claim7 := { stood := { row := flowSameUptoRow, standIns := [], harness := (true, "c421c601d5abf8e360d282b8292cf7b7e117cbbeb0e3afe5566a6574a4021320"), looks := false }, kinds := [], alts := [], laidByText := true, laidKinds := [.data, .data, .data, .wider, .pinned, .pinned, .pinned], laidTests := true, laidLooks := .later }
def FlowSameUptoCardSaid : Prop := Claim7.holds Tryz.pinned (.plain (OpenSpec.upto flowSameSpec)) flowSameUptoCard

/-- THE SECOND FORM's CARD OF 'timekeeperlaw06.FlowSpaces'. -/
def flowSpacesUptoCard : Claim7 := { stood := { row := flowSpacesUptoRow, standIns := [], harness := (true, "c421c601d5abf8e360d282b8292cf7b7e117cbbeb0e3afe5566a6574a4021320"), looks := false }, kinds := [], alts := [], laidByText := true, laidKinds := [.data, .data, .data, .wider, .pinned, .pinned, .pinned], laidTests := true, laidLooks := .later }
def FlowSpacesUptoCardSaid : Prop := Claim7.holds Tryz.pinned (.plain (OpenSpec.upto flowSpacesSpec)) flowSpacesUptoCard

/-- THE SECOND FORM's CARD OF 'timekeeperlaw06.FlowChecks'. -/
def flowChecksUptoCard : Claim7 := { stood := { row := flowChecksUptoRow, standIns := [], harness := (true, "c421c601d5abf8e360d282b8292cf7b7e117cbbeb0e3afe5566a6574a4021320"), looks := false }, kinds := [], alts := [], laidByText := true, laidKinds := [.data, .data, .data, .wider, .pinned, .pinned, .pinned], laidTests := true, laidLooks := .later }
def FlowChecksUptoCardSaid : Prop := Claim7.holds Tryz.pinned (.plain (OpenSpec.upto flowChecksSpec)) flowChecksUptoCard

/-- THE SECOND FORM's CARD OF 'timekeeperlaw06.FlowTwice'. -/
def flowTwiceUptoCard : Claim7 := { stood := { row := flowTwiceUptoRow, standIns := [], harness := (true, "c421c601d5abf8e360d282b8292cf7b7e117cbbeb0e3afe5566a6574a4021320"), looks := false }, kinds := [], alts := [], laidByText := true, laidKinds := [.data, .data, .data, .wider, .pinned, .pinned, .pinned], laidTests := true, laidLooks := .later }
def FlowTwiceUptoCardSaid : Prop := Claim7.holds Tryz.pinned (.plain (OpenSpec.upto flowTwiceSpec)) flowTwiceUptoCard
end Rows
end Go.Proofs.YtdcfakbelnpljaaGreatDoor
