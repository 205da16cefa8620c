/-
  DERIVED. GIVEN WITH THE SEED: THE CARDS: each row of YtaokbjacfdipmaaDoorRows.lean that lists a variable, with what it lists TIED to the program's text (the seventh form; the later family's looks); each row that meets fmt, with fmt's text TOLD by the authors' own Lean function (tested against real Go, not proved from fmt's source: count such statements apart). THE CARD IS WHAT COUNTS. Prove the row's statement (the work); the ties are given (YtaokbjacfdipmaaDoorTie.lean); close each card by the builder's one call (the guide's Derived/Test/ToyasCard.lean, 'card_holds'). Laid BY PROGRAM, IN A SANDBOX (cutbox-door.mjs). By AI agents, Wed Nov 11 2026. No macro, syntax, notation, axiom, sorry.
-/
import Derived.Test.YtaokbjacfdipmaaDoorRows
import GoSem.ClaimSeven
namespace Go.Proofs.YtaokbjacfdipmaaDoor
namespace Rows

/-- THE TIED CARD OF 'timekeeperlaw05.DagNear'. -/
def dagNearCard : Claim7 := { stood := { row := dagNearRow, standIns := [], harness := (true, "af32f2df9add70a193d8f2a7f67a705989f43a75c6d89d28736c6be8d945a92c"), looks := false }, kinds := [], alts := [], laidByText := true, laidKinds := [.data], laidTests := true, laidLooks := .later }
def DagNearCardSaid : Prop := Claim7.holds Tryd.pinned (.plain (OpenSpec.ofChange dagNearSpec)) dagNearCard

/-- THE TIED CARD OF 'timekeeperlaw05.DagFar'. -/
def dagFarCard : Claim7 := { stood := { row := dagFarRow, standIns := [], harness := (true, "af32f2df9add70a193d8f2a7f67a705989f43a75c6d89d28736c6be8d945a92c"), looks := false }, kinds := [], alts := [], laidByText := true, laidKinds := [.data], laidTests := true, laidLooks := .later }
def DagFarCardSaid : Prop := Claim7.holds Tryd.pinned (.plain (OpenSpec.ofChange dagFarSpec)) dagFarCard

/-- THE TIED CARD OF 'timekeeperlaw05.DagBare'. -/
def dagBareCard : Claim7 := { stood := { row := dagBareRow, standIns := [], harness := (true, "af32f2df9add70a193d8f2a7f67a705989f43a75c6d89d28736c6be8d945a92c"), looks := false }, kinds := [], alts := [], laidByText := true, laidKinds := [.data], laidTests := true, laidLooks := .later }
def DagBareCardSaid : Prop := Claim7.holds Tryd.pinned (.plain (OpenSpec.ofChange dagBareSpec)) dagBareCard

/-- THE TIED CARD OF 'timekeeperlaw05.DagPaths'. -/
def dagPathsCard : Claim7 := { stood := { row := dagPathsRow, standIns := [], harness := (true, "af32f2df9add70a193d8f2a7f67a705989f43a75c6d89d28736c6be8d945a92c"), looks := false }, kinds := [], alts := [], laidByText := true, laidKinds := [.data], laidTests := true, laidLooks := .later }
def DagPathsCardSaid : Prop := Claim7.holds Tryd.pinned (.plain (OpenSpec.ofChange dagPathsSpec)) dagPathsCard

/-- THE TIED CARD OF 'timekeeperlaw05.DagStands'. -/
def dagStandsCard : Claim7 := { stood := { row := dagStandsRow, standIns := [], harness := (true, "af32f2df9add70a193d8f2a7f67a705989f43a75c6d89d28736c6be8d945a92c"), looks := false }, kinds := [], alts := [], laidByText := true, laidKinds := [.data], laidTests := true, laidLooks := .later }
def DagStandsCardSaid : Prop := Claim7.holds Tryd.pinned (.plain (OpenSpec.ofChange dagStandsSpec)) dagStandsCard

/-- THE TIED CARD OF 'timekeeperlaw05.DagBoth'. -/
def dagBothCard : Claim7 := { stood := { row := dagBothRow, standIns := [], harness := (true, "af32f2df9add70a193d8f2a7f67a705989f43a75c6d89d28736c6be8d945a92c"), looks := false }, kinds := [], alts := [], laidByText := true, laidKinds := [.data], laidTests := true, laidLooks := .later }
def DagBothCardSaid : Prop := Claim7.holds Tryd.pinned (.plain (OpenSpec.ofChange dagBothSpec)) dagBothCard

/-- THE SECOND FORM's CARD OF 'timekeeperlaw05.DagNear'. -/
def dagNearUptoCard : Claim7 := { stood := { row := dagNearUptoRow, standIns := [], harness := (true, "af32f2df9add70a193d8f2a7f67a705989f43a75c6d89d28736c6be8d945a92c"), looks := false }, kinds := [], alts := [], laidByText := true, laidKinds := [.data], laidTests := true, laidLooks := .later }
def DagNearUptoCardSaid : Prop := Claim7.holds Tryd.pinned (.plain (OpenSpec.upto dagNearSpec)) dagNearUptoCard

/-- THE SECOND FORM's CARD OF 'timekeeperlaw05.DagFar'. -/
def dagFarUptoCard : Claim7 := { stood := { row := dagFarUptoRow, standIns := [], harness := (true, "af32f2df9add70a193d8f2a7f67a705989f43a75c6d89d28736c6be8d945a92c"), looks := false }, kinds := [], alts := [], laidByText := true, laidKinds := [.data], laidTests := true, laidLooks := .later }
def DagFarUptoCardSaid : Prop := Claim7.holds Tryd.pinned (.plain (OpenSpec.upto dagFarSpec)) dagFarUptoCard

/-- THE SECOND FORM's CARD OF 'timekeeperlaw05.DagBare'. -/
def dagBareUptoCard : Claim7 := { stood := { row := dagBareUptoRow, standIns := [], harness := (true, "af32f2df9add70a193d8f2a7f67a705989f43a75c6d89d28736c6be8d945a92c"), looks := false }, kinds := [], alts := [], laidByText := true, laidKinds := [.data], laidTests := true, laidLooks := .later }
def DagBareUptoCardSaid : Prop := Claim7.holds Tryd.pinned (.plain (OpenSpec.upto dagBareSpec)) dagBareUptoCard

/-- THE SECOND FORM's CARD OF 'timekeeperlaw05.DagPaths'. -/
def dagPathsUptoCard : Claim7 := { stood := { row := dagPathsUptoRow, standIns := [], harness := (true, "af32f2df9add70a193d8f2a7f67a705989f43a75c6d89d28736c6be8d945a92c"), looks := false }, kinds := [], alts := [], laidByText := true, laidKinds := [.data], laidTests := true, laidLooks := .later }
def DagPathsUptoCardSaid : Prop := Claim7.holds Tryd.pinned (.plain (OpenSpec.upto dagPathsSpec)) dagPathsUptoCard

/-- THE SECOND FORM's CARD OF 'timekeeperlaw05.DagStands'. -/
def dagStandsUptoCard : Claim7 := { stood := { row := dagStandsUptoRow, standIns := [], harness := (true, "af32f2df9add70a193d8f2a7f67a705989f43a75c6d89d28736c6be8d945a92c"), looks := false }, kinds := [], alts := [], laidByText := true, laidKinds := [.data], laidTests := true, laidLooks := .later }
def DagStandsUptoCardSaid : Prop := Claim7.holds Tryd.pinned (.plain (OpenSpec.upto dagStandsSpec)) dagStandsUptoCard

/-- THE SECOND FORM's CARD OF 'timekeeperlaw05.DagBoth'. -/
def dagBothUptoCard : Claim7 := { stood := { row := dagBothUptoRow, standIns := [], harness := (true, "af32f2df9add70a193d8f2a7f67a705989f43a75c6d89d28736c6be8d945a92c"), looks := false }, kinds := [], alts := [], laidByText := true, laidKinds := [.data], laidTests := true, laidLooks := .later }
def DagBothUptoCardSaid : Prop := Claim7.holds Tryd.pinned (.plain (OpenSpec.upto dagBothSpec)) dagBothUptoCard
end Rows
end Go.Proofs.YtaokbjacfdipmaaDoor
