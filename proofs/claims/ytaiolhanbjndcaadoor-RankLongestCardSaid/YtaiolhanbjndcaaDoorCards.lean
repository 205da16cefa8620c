/-
  DERIVED. GIVEN WITH THE SEED: THE CARDS: each row of YtaiolhanbjndcaaDoorRows.lean that lists a variable, with what it lists TIED to the program's text (the seventh form; the later family's looks); each row that meets fmt, with fmt's text TOLD by the authors' own Lean function (tested against real Go, not proved from fmt's source: count such statements apart). THE CARD IS WHAT COUNTS. Prove the row's statement (the work); the ties are given (YtaiolhanbjndcaaDoorTie.lean); close each card by the builder's one call (the guide's Derived/Test/ToyasCard.lean, 'card_holds'). Laid BY PROGRAM, IN A SANDBOX (cutbox-door.mjs). By AI agents, Wed Nov 11 2026. No macro, syntax, notation, axiom, sorry.
-/
import Derived.Test.YtaiolhanbjndcaaDoorRows
import GoSem.ClaimSeven
namespace Go.Proofs.YtaiolhanbjndcaaDoor
namespace Rows

/-- THE TIED CARD OF 'timekeeperlaw07.RankStands'. -/
def rankStandsCard : Claim7 := { stood := { row := rankStandsRow, standIns := [], harness := (true, "6666a4df566bc7a03fd45a39b14b785df9541d278be5d217ae62528cfff5766b"), looks := false }, kinds := [], alts := [], laidByText := true, laidKinds := [.data, .data, .wider, .pinned, .pinned], laidTests := true, laidLooks := .later }
def RankStandsCardSaid : Prop := Claim7.holds Tryd.pinned (.plain (OpenSpec.ofChange rankStandsSpec)) rankStandsCard

/-- THE TIED CARD OF 'timekeeperlaw07.RankLongest'. -/
def rankLongestCard : Claim7 := { stood := { row := rankLongestRow, standIns := [], harness := (true, "6666a4df566bc7a03fd45a39b14b785df9541d278be5d217ae62528cfff5766b"), looks := false }, kinds := [], alts := [], laidByText := true, laidKinds := [.data, .data, .wider, .pinned, .pinned], laidTests := true, laidLooks := .later }
def RankLongestCardSaid : Prop := Claim7.holds Tryd.pinned (.plain (OpenSpec.ofChange rankLongestSpec)) rankLongestCard

/-- THE TIED CARD OF 'timekeeperlaw07.RankDone'. -/
def rankDoneCard : Claim7 := { stood := { row := rankDoneRow, standIns := [], harness := (true, "6666a4df566bc7a03fd45a39b14b785df9541d278be5d217ae62528cfff5766b"), looks := false }, kinds := [], alts := [], laidByText := true, laidKinds := [.data, .data, .wider, .pinned, .pinned], laidTests := true, laidLooks := .later }
def RankDoneCardSaid : Prop := Claim7.holds Tryd.pinned (.plain (OpenSpec.ofChange rankDoneSpec)) rankDoneCard

/-- THE TIED CARD OF 'timekeeperlaw07.RankLinks'. -/
def rankLinksCard : Claim7 := { stood := { row := rankLinksRow, standIns := [], harness := (true, "6666a4df566bc7a03fd45a39b14b785df9541d278be5d217ae62528cfff5766b"), looks := false }, kinds := [], alts := [], laidByText := true, laidKinds := [.data, .data, .wider, .pinned, .pinned], laidTests := true, laidLooks := .later }
def RankLinksCardSaid : Prop := Claim7.holds Tryd.pinned (.plain (OpenSpec.ofChange rankLinksSpec)) rankLinksCard

/-- THE SECOND FORM's CARD OF 'timekeeperlaw07.RankStands'. -/
def rankStandsUptoCard : Claim7 := { stood := { row := rankStandsUptoRow, standIns := [], harness := (true, "6666a4df566bc7a03fd45a39b14b785df9541d278be5d217ae62528cfff5766b"), looks := false }, kinds := [], alts := [], laidByText := true, laidKinds := [.data, .data, .wider, .pinned, .pinned], laidTests := true, laidLooks := .later }
def RankStandsUptoCardSaid : Prop := Claim7.holds Tryd.pinned (.plain (OpenSpec.upto rankStandsSpec)) rankStandsUptoCard

/-- THE SECOND FORM's CARD OF 'timekeeperlaw07.RankLongest'. -/
def rankLongestUptoCard : Claim7 := { stood := { row := rankLongestUptoRow, standIns := [], harness := (true, "6666a4df566bc7a03fd45a39b14b785df9541d278be5d217ae62528cfff5766b"), looks := false }, kinds := [], alts := [], laidByText := true, laidKinds := [.data, .data, .wider, .pinned, .pinned], laidTests := true, laidLooks := .later }
def RankLongestUptoCardSaid : Prop := Claim7.holds Tryd.pinned (.plain (OpenSpec.upto rankLongestSpec)) rankLongestUptoCard

/-- THE SECOND FORM's CARD OF 'timekeeperlaw07.RankDone'. -/
def rankDoneUptoCard : Claim7 := { stood := { row := rankDoneUptoRow, standIns := [], harness := (true, "6666a4df566bc7a03fd45a39b14b785df9541d278be5d217ae62528cfff5766b"), looks := false }, kinds := [], alts := [], laidByText := true, laidKinds := [.data, .data, .wider, .pinned, .pinned], laidTests := true, laidLooks := .later }
def RankDoneUptoCardSaid : Prop := Claim7.holds Tryd.pinned (.plain (OpenSpec.upto rankDoneSpec)) rankDoneUptoCard

/-- THE SECOND FORM's CARD OF 'timekeeperlaw07.RankLinks'. -/
def rankLinksUptoCard : Claim7 := { stood := { row := rankLinksUptoRow, standIns := [], harness := (true, "6666a4df566bc7a03fd45a39b14b785df9541d278be5d217ae62528cfff5766b"), looks := false }, kinds := [], alts := [], laidByText := true, laidKinds := [.data, .data, .wider, .pinned, .pinned], laidTests := true, laidLooks := .later }
def RankLinksUptoCardSaid : Prop := Claim7.holds Tryd.pinned (.plain (OpenSpec.upto rankLinksSpec)) rankLinksUptoCard
end Rows
end Go.Proofs.YtaiolhanbjndcaaDoor
