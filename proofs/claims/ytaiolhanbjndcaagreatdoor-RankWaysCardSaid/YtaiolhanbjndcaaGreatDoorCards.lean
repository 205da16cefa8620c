/-
  DERIVED. GIVEN WITH THE SEED: THE CARDS: each row of YtaiolhanbjndcaaGreatDoorRows.lean that lists a variable, with what it lists TIED to the program's text (the seventh form; the later family's looks); each row that meets fmt, with fmt's text TOLD by the authors' own Lean function (tested against real Go, not proved from fmt's source: count such statements apart). THE CARD IS WHAT COUNTS. Prove the row's statement (the work); the ties are given (YtaiolhanbjndcaaGreatDoorTie.lean); close each card by the builder's one call (the guide's Derived/Test/ToyasCard.lean, 'card_holds'). Laid BY PROGRAM, IN A SANDBOX (cutbox-door.mjs). By AI agents, Wed Nov 11 2026. No macro, syntax, notation, axiom, sorry.
-/
import Derived.Test.YtaiolhanbjndcaaGreatDoorRows
import GoSem.ClaimSeven
namespace Go.Proofs.YtaiolhanbjndcaaGreatDoor
namespace Rows

/-- THE TIED CARD OF 'timekeeperlaw07.RankUps'. -/
def rankUpsCard : Claim7 := { stood := { row := rankUpsRow, standIns := [], harness := (true, "c1a75160e4601c076d2713b8b632a5d495ada7904bcffd419401110ca55245db"), looks := false }, kinds := [], alts := [], laidByText := true, laidKinds := [.data, .data, .wider, .pinned, .pinned], laidTests := true, laidLooks := .later }
def RankUpsCardSaid : Prop := Claim7.holds Tryz.pinned (.plain (OpenSpec.ofChange rankUpsSpec)) rankUpsCard

/-- THE TIED CARD OF 'timekeeperlaw07.RankWays'. -/
def rankWaysCard : Claim7 := { stood := { row := rankWaysRow, standIns := [], harness := (true, "c1a75160e4601c076d2713b8b632a5d495ada7904bcffd419401110ca55245db"), looks := false }, kinds := [], alts := [], laidByText := true, laidKinds := [.data, .data, .wider, .pinned, .pinned], laidTests := true, laidLooks := .later }
def RankWaysCardSaid : Prop := Claim7.holds Tryz.pinned (.plain (OpenSpec.ofChange rankWaysSpec)) rankWaysCard

/-- THE TIED CARD OF 'timekeeperlaw07.RankSums'. -/
def rankSumsCard : Claim7 := { stood := { row := rankSumsRow, standIns := [], harness := (true, "c1a75160e4601c076d2713b8b632a5d495ada7904bcffd419401110ca55245db"), looks := false }, kinds := [], alts := [], laidByText := true, laidKinds := [.data, .data, .wider, .pinned, .pinned], laidTests := true, laidLooks := .later }
def RankSumsCardSaid : Prop := Claim7.holds Tryz.pinned (.plain (OpenSpec.ofChange rankSumsSpec)) rankSumsCard

/-- THE TIED CARD OF 'timekeeperlaw07.RankPaths'. -/
def rankPathsCard : Claim7 := { stood := { row := rankPathsRow, standIns := [], harness := (true, "c1a75160e4601c076d2713b8b632a5d495ada7904bcffd419401110ca55245db"), looks := false }, kinds := [], alts := [], laidByText := true, laidKinds := [.data, .data, .wider, .pinned, .pinned], laidTests := true, laidLooks := .later }
def RankPathsCardSaid : Prop := Claim7.holds Tryz.pinned (.plain (OpenSpec.ofChange rankPathsSpec)) rankPathsCard

/-- THE SECOND FORM's CARD OF 'timekeeperlaw07.RankUps'. -/
def rankUpsUptoCard : Claim7 := { stood := { row := rankUpsUptoRow, standIns := [], harness := (true, "c1a75160e4601c076d2713b8b632a5d495ada7904bcffd419401110ca55245db"), looks := false }, kinds := [], alts := [], laidByText := true, laidKinds := [.data, .data, .wider, .pinned, .pinned], laidTests := true, laidLooks := .later }
def RankUpsUptoCardSaid : Prop := Claim7.holds Tryz.pinned (.plain (OpenSpec.upto rankUpsSpec)) rankUpsUptoCard

/-- THE SECOND FORM's CARD OF 'timekeeperlaw07.RankWays'. -/
def rankWaysUptoCard : Claim7 := { stood := { row := rankWaysUptoRow, standIns := [], harness := (true, "c1a75160e4601c076d2713b8b632a5d495ada7904bcffd419401110ca55245db"), looks := false }, kinds := [], alts := [], laidByText := true, laidKinds := [.data, .data, .wider, .pinned, .pinned], laidTests := true, laidLooks := .later }
def RankWaysUptoCardSaid : Prop := Claim7.holds Tryz.pinned (.plain (OpenSpec.upto rankWaysSpec)) rankWaysUptoCard

/-- THE SECOND FORM's CARD OF 'timekeeperlaw07.RankSums'. -/
def rankSumsUptoCard : Claim7 := { stood := { row := rankSumsUptoRow, standIns := [], harness := (true, "c1a75160e4601c076d2713b8b632a5d495ada7904bcffd419401110ca55245db"), looks := false }, kinds := [], alts := [], laidByText := true, laidKinds := [.data, .data, .wider, .pinned, .pinned], laidTests := true, laidLooks := .later }
def RankSumsUptoCardSaid : Prop := Claim7.holds Tryz.pinned (.plain (OpenSpec.upto rankSumsSpec)) rankSumsUptoCard

/-- THE SECOND FORM's CARD OF 'timekeeperlaw07.RankPaths'. -/
def rankPathsUptoCard : Claim7 := { stood := { row := rankPathsUptoRow, standIns := [], harness := (true, "c1a75160e4601c076d2713b8b632a5d495ada7904bcffd419401110ca55245db"), looks := false }, kinds := [], alts := [], laidByText := true, laidKinds := [.data, .data, .wider, .pinned, .pinned], laidTests := true, laidLooks := .later }
def RankPathsUptoCardSaid : Prop := Claim7.holds Tryz.pinned (.plain (OpenSpec.upto rankPathsSpec)) rankPathsUptoCard
end Rows
end Go.Proofs.YtaiolhanbjndcaaGreatDoor
