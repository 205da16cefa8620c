/-
  DERIVED. GIVEN WITH THE SEED: THE CARDS: each row of YtkicanegjkemoaaDoorRows.lean that lists a variable, with what it lists TIED to the program's text (the seventh form; the later family's looks); each row that meets fmt, with fmt's text TOLD by the authors' own Lean function (tested against real Go, not proved from fmt's source: count such statements apart). THE CARD IS WHAT COUNTS. Prove the row's statement (the work); the ties are given (YtkicanegjkemoaaDoorTie.lean); close each card by the builder's one call (the guide's Derived/Test/ToyasCard.lean, 'card_holds'). Laid BY PROGRAM, IN A SANDBOX (cutbox-door.mjs). By AI agents, Wed Nov 11 2026. No macro, syntax, notation, axiom, sorry.
-/
import Derived.Test.YtkicanegjkemoaaDoorRows
import GoSem.ClaimSeven
namespace Go.Proofs.YtkicanegjkemoaaDoor
namespace Rows

/-- THE TIED CARD OF 'timekeeperlaw08.SplitWindows'. -/
def splitWindowsCard : Claim7 := { stood := { row := splitWindowsRow, standIns := [], harness := (true, "18ce101c01ed508e15a1719c0af8c45dc2292cf201263fdb9bfcf4ed642d91e7"), looks := false }, kinds := [], alts := [], laidByText := true, laidKinds := [.data, .data, .wider, .pinned, .pinned], laidTests := true, laidLooks := .later }
def SplitWindowsCardSaid : Prop := Claim7.holds Tryd.pinned (.plain (OpenSpec.ofChange splitWindowsSpec)) splitWindowsCard

/-- THE TIED CARD OF 'timekeeperlaw08.SplitHolds'. -/
def splitHoldsCard : Claim7 := { stood := { row := splitHoldsRow, standIns := [], harness := (true, "18ce101c01ed508e15a1719c0af8c45dc2292cf201263fdb9bfcf4ed642d91e7"), looks := false }, kinds := [], alts := [], laidByText := true, laidKinds := [.data, .data, .wider, .pinned, .pinned], laidTests := true, laidLooks := .later }
def SplitHoldsCardSaid : Prop := Claim7.holds Tryd.pinned (.plain (OpenSpec.ofChange splitHoldsSpec)) splitHoldsCard

/-- THE TIED CARD OF 'timekeeperlaw08.SplitWider'. -/
def splitWiderCard : Claim7 := { stood := { row := splitWiderRow, standIns := [], harness := (true, "18ce101c01ed508e15a1719c0af8c45dc2292cf201263fdb9bfcf4ed642d91e7"), looks := false }, kinds := [], alts := [], laidByText := true, laidKinds := [.data, .data, .wider, .pinned, .pinned], laidTests := true, laidLooks := .later }
def SplitWiderCardSaid : Prop := Claim7.holds Tryd.pinned (.plain (OpenSpec.ofChange splitWiderSpec)) splitWiderCard

/-- THE SECOND FORM's CARD OF 'timekeeperlaw08.SplitWindows'. -/
def splitWindowsUptoCard : Claim7 := { stood := { row := splitWindowsUptoRow, standIns := [], harness := (true, "18ce101c01ed508e15a1719c0af8c45dc2292cf201263fdb9bfcf4ed642d91e7"), looks := false }, kinds := [], alts := [], laidByText := true, laidKinds := [.data, .data, .wider, .pinned, .pinned], laidTests := true, laidLooks := .later }
def SplitWindowsUptoCardSaid : Prop := Claim7.holds Tryd.pinned (.plain (OpenSpec.upto splitWindowsSpec)) splitWindowsUptoCard

/-- THE SECOND FORM's CARD OF 'timekeeperlaw08.SplitHolds'. -/
def splitHoldsUptoCard : Claim7 := { stood := { row := splitHoldsUptoRow, standIns := [], harness := (true, "18ce101c01ed508e15a1719c0af8c45dc2292cf201263fdb9bfcf4ed642d91e7"), looks := false }, kinds := [], alts := [], laidByText := true, laidKinds := [.data, .data, .wider, .pinned, .pinned], laidTests := true, laidLooks := .later }
def SplitHoldsUptoCardSaid : Prop := Claim7.holds Tryd.pinned (.plain (OpenSpec.upto splitHoldsSpec)) splitHoldsUptoCard

/-- THE SECOND FORM's CARD OF 'timekeeperlaw08.SplitWider'. -/
def splitWiderUptoCard : Claim7 := { stood := { row := splitWiderUptoRow, standIns := [], harness := (true, "18ce101c01ed508e15a1719c0af8c45dc2292cf201263fdb9bfcf4ed642d91e7"), looks := false }, kinds := [], alts := [], laidByText := true, laidKinds := [.data, .data, .wider, .pinned, .pinned], laidTests := true, laidLooks := .later }
def SplitWiderUptoCardSaid : Prop := Claim7.holds Tryd.pinned (.plain (OpenSpec.upto splitWiderSpec)) splitWiderUptoCard
end Rows
end Go.Proofs.YtkicanegjkemoaaDoor
