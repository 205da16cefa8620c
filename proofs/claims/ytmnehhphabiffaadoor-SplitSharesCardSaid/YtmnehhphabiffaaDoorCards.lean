/-
  DERIVED. GIVEN WITH THE SEED: THE CARDS: each row of YtmnehhphabiffaaDoorRows.lean that lists a variable, with what it lists TIED to the program's text (the seventh form; the later family's looks); each row that meets fmt, with fmt's text TOLD by the authors' own Lean function (tested against real Go, not proved from fmt's source: count such statements apart). THE CARD IS WHAT COUNTS. Prove the row's statement (the work); the ties are given (YtmnehhphabiffaaDoorTie.lean); close each card by the builder's one call (the guide's Derived/Test/ToyasCard.lean, 'card_holds'). Laid BY PROGRAM, IN A SANDBOX (cutbox-door.mjs). By AI agents, Wed Nov 11 2026. No macro, syntax, notation, axiom, sorry.
-/
import Derived.Test.YtmnehhphabiffaaDoorRows
import GoSem.ClaimSeven
namespace Go.Proofs.YtmnehhphabiffaaDoor
namespace Rows

/-- THE TIED CARD OF 'timekeeperlaw07.RankStands'. -/
def rankStandsCard : Claim7 := { stood := { row := rankStandsRow, standIns := [], harness := (true, "6c98aabb5e9501f0b540c194cc1cf36d521fc3891eeae7f1975be7a571e56dc9"), looks := false }, kinds := [], alts := [], laidByText := true, laidKinds := [.data, .data, .wider, .pinned, .pinned], laidTests := true, laidLooks := .later }
def RankStandsCardSaid : Prop := Claim7.holds Tryd.pinned (.plain (OpenSpec.ofChange rankStandsSpec)) rankStandsCard

/-- THE TIED CARD OF 'timekeeperlaw07.RankLongest'. -/
def rankLongestCard : Claim7 := { stood := { row := rankLongestRow, standIns := [], harness := (true, "6c98aabb5e9501f0b540c194cc1cf36d521fc3891eeae7f1975be7a571e56dc9"), looks := false }, kinds := [], alts := [], laidByText := true, laidKinds := [.data, .data, .wider, .pinned, .pinned], laidTests := true, laidLooks := .later }
def RankLongestCardSaid : Prop := Claim7.holds Tryd.pinned (.plain (OpenSpec.ofChange rankLongestSpec)) rankLongestCard

/-- THE TIED CARD OF 'timekeeperlaw07.RankDone'. -/
def rankDoneCard : Claim7 := { stood := { row := rankDoneRow, standIns := [], harness := (true, "6c98aabb5e9501f0b540c194cc1cf36d521fc3891eeae7f1975be7a571e56dc9"), looks := false }, kinds := [], alts := [], laidByText := true, laidKinds := [.data, .data, .wider, .pinned, .pinned], laidTests := true, laidLooks := .later }
def RankDoneCardSaid : Prop := Claim7.holds Tryd.pinned (.plain (OpenSpec.ofChange rankDoneSpec)) rankDoneCard

/-- THE TIED CARD OF 'timekeeperlaw07.RankLinks'. -/
def rankLinksCard : Claim7 := { stood := { row := rankLinksRow, standIns := [], harness := (true, "6c98aabb5e9501f0b540c194cc1cf36d521fc3891eeae7f1975be7a571e56dc9"), looks := false }, kinds := [], alts := [], laidByText := true, laidKinds := [.data, .data, .wider, .pinned, .pinned], laidTests := true, laidLooks := .later }
def RankLinksCardSaid : Prop := Claim7.holds Tryd.pinned (.plain (OpenSpec.ofChange rankLinksSpec)) rankLinksCard

/-- THE TIED CARD OF 'timekeeperlaw08.SplitWindows'. -/
def splitWindowsCard : Claim7 := { stood := { row := splitWindowsRow, standIns := [], harness := (true, "6c98aabb5e9501f0b540c194cc1cf36d521fc3891eeae7f1975be7a571e56dc9"), looks := false }, kinds := [], alts := [], laidByText := true, laidKinds := [.data, .data, .wider, .pinned, .pinned], laidTests := true, laidLooks := .later }
def SplitWindowsCardSaid : Prop := Claim7.holds Tryd.pinned (.plain (OpenSpec.ofChange splitWindowsSpec)) splitWindowsCard

/-- THE TIED CARD OF 'timekeeperlaw08.SplitEarliest'. -/
def splitEarliestCard : Claim7 := { stood := { row := splitEarliestRow, standIns := [], harness := (true, "6c98aabb5e9501f0b540c194cc1cf36d521fc3891eeae7f1975be7a571e56dc9"), looks := false }, kinds := [], alts := [], laidByText := true, laidKinds := [.data, .data, .wider, .pinned, .pinned], laidTests := true, laidLooks := .later }
def SplitEarliestCardSaid : Prop := Claim7.holds Tryd.pinned (.plain (OpenSpec.ofChange splitEarliestSpec)) splitEarliestCard

/-- THE TIED CARD OF 'timekeeperlaw08.SplitHolds'. -/
def splitHoldsCard : Claim7 := { stood := { row := splitHoldsRow, standIns := [], harness := (true, "6c98aabb5e9501f0b540c194cc1cf36d521fc3891eeae7f1975be7a571e56dc9"), looks := false }, kinds := [], alts := [], laidByText := true, laidKinds := [.data, .data, .wider, .pinned, .pinned], laidTests := true, laidLooks := .later }
def SplitHoldsCardSaid : Prop := Claim7.holds Tryd.pinned (.plain (OpenSpec.ofChange splitHoldsSpec)) splitHoldsCard

/-- THE TIED CARD OF 'timekeeperlaw08.SplitShares'. -/
def splitSharesCard : Claim7 := { stood := { row := splitSharesRow, standIns := [], harness := (true, "6c98aabb5e9501f0b540c194cc1cf36d521fc3891eeae7f1975be7a571e56dc9"), looks := false }, kinds := [], alts := [], laidByText := true, laidKinds := [.data, .data, .wider, .pinned, .pinned], laidTests := true, laidLooks := .later }
def SplitSharesCardSaid : Prop := Claim7.holds Tryd.pinned (.plain (OpenSpec.ofChange splitSharesSpec)) splitSharesCard

/-- THE TIED CARD OF 'timekeeperlaw08.SplitSlack'. -/
def splitSlackCard : Claim7 := { stood := { row := splitSlackRow, standIns := [], harness := (true, "6c98aabb5e9501f0b540c194cc1cf36d521fc3891eeae7f1975be7a571e56dc9"), looks := false }, kinds := [], alts := [], laidByText := true, laidKinds := [.data, .data, .wider, .pinned, .pinned], laidTests := true, laidLooks := .later }
def SplitSlackCardSaid : Prop := Claim7.holds Tryd.pinned (.plain (OpenSpec.ofChange splitSlackSpec)) splitSlackCard

/-- THE TIED CARD OF 'timekeeperlaw08.SplitMore'. -/
def splitMoreCard : Claim7 := { stood := { row := splitMoreRow, standIns := [], harness := (true, "6c98aabb5e9501f0b540c194cc1cf36d521fc3891eeae7f1975be7a571e56dc9"), looks := false }, kinds := [], alts := [], laidByText := true, laidKinds := [.data, .data, .wider, .pinned, .pinned], laidTests := true, laidLooks := .later }
def SplitMoreCardSaid : Prop := Claim7.holds Tryd.pinned (.plain (OpenSpec.ofChange splitMoreSpec)) splitMoreCard

/-- THE TIED CARD OF 'timekeeperlaw08.SplitWider'. -/
def splitWiderCard : Claim7 := { stood := { row := splitWiderRow, standIns := [], harness := (true, "6c98aabb5e9501f0b540c194cc1cf36d521fc3891eeae7f1975be7a571e56dc9"), looks := false }, kinds := [], alts := [], laidByText := true, laidKinds := [.data, .data, .wider, .pinned, .pinned], laidTests := true, laidLooks := .later }
def SplitWiderCardSaid : Prop := Claim7.holds Tryd.pinned (.plain (OpenSpec.ofChange splitWiderSpec)) splitWiderCard

/-- THE SECOND FORM's CARD OF 'timekeeperlaw07.RankStands'. -/
def rankStandsUptoCard : Claim7 := { stood := { row := rankStandsUptoRow, standIns := [], harness := (true, "6c98aabb5e9501f0b540c194cc1cf36d521fc3891eeae7f1975be7a571e56dc9"), looks := false }, kinds := [], alts := [], laidByText := true, laidKinds := [.data, .data, .wider, .pinned, .pinned], laidTests := true, laidLooks := .later }
def RankStandsUptoCardSaid : Prop := Claim7.holds Tryd.pinned (.plain (OpenSpec.upto rankStandsSpec)) rankStandsUptoCard

/-- THE SECOND FORM's CARD OF 'timekeeperlaw07.RankLongest'. -/
def rankLongestUptoCard : Claim7 := { stood := { row := rankLongestUptoRow, standIns := [], harness := (true, "6c98aabb5e9501f0b540c194cc1cf36d521fc3891eeae7f1975be7a571e56dc9"), looks := false }, kinds := [], alts := [], laidByText := true, laidKinds := [.data, .data, .wider, .pinned, .pinned], laidTests := true, laidLooks := .later }
def RankLongestUptoCardSaid : Prop := Claim7.holds Tryd.pinned (.plain (OpenSpec.upto rankLongestSpec)) rankLongestUptoCard

/-- THE SECOND FORM's CARD OF 'timekeeperlaw07.RankDone'. -/
def rankDoneUptoCard : Claim7 := { stood := { row := rankDoneUptoRow, standIns := [], harness := (true, "6c98aabb5e9501f0b540c194cc1cf36d521fc3891eeae7f1975be7a571e56dc9"), looks := false }, kinds := [], alts := [], laidByText := true, laidKinds := [.data, .data, .wider, .pinned, .pinned], laidTests := true, laidLooks := .later }
def RankDoneUptoCardSaid : Prop := Claim7.holds Tryd.pinned (.plain (OpenSpec.upto rankDoneSpec)) rankDoneUptoCard

/-- THE SECOND FORM's CARD OF 'timekeeperlaw07.RankLinks'. -/
def rankLinksUptoCard : Claim7 := { stood := { row := rankLinksUptoRow, standIns := [], harness := (true, "6c98aabb5e9501f0b540c194cc1cf36d521fc3891eeae7f1975be7a571e56dc9"), looks := false }, kinds := [], alts := [], laidByText := true, laidKinds := [.data, .data, .wider, .pinned, .pinned], laidTests := true, laidLooks := .later }
def RankLinksUptoCardSaid : Prop := Claim7.holds Tryd.pinned (.plain (OpenSpec.upto rankLinksSpec)) rankLinksUptoCard

/-- THE SECOND FORM's CARD OF 'timekeeperlaw08.SplitWindows'. -/
def splitWindowsUptoCard : Claim7 := { stood := { row := splitWindowsUptoRow, standIns := [], harness := (true, "6c98aabb5e9501f0b540c194cc1cf36d521fc3891eeae7f1975be7a571e56dc9"), looks := false }, kinds := [], alts := [], laidByText := true, laidKinds := [.data, .data, .wider, .pinned, .pinned], laidTests := true, laidLooks := .later }
def SplitWindowsUptoCardSaid : Prop := Claim7.holds Tryd.pinned (.plain (OpenSpec.upto splitWindowsSpec)) splitWindowsUptoCard

/-- THE SECOND FORM's CARD OF 'timekeeperlaw08.SplitEarliest'. -/
def splitEarliestUptoCard : Claim7 := { stood := { row := splitEarliestUptoRow, standIns := [], harness := (true, "6c98aabb5e9501f0b540c194cc1cf36d521fc3891eeae7f1975be7a571e56dc9"), looks := false }, kinds := [], alts := [], laidByText := true, laidKinds := [.data, .data, .wider, .pinned, .pinned], laidTests := true, laidLooks := .later }
def SplitEarliestUptoCardSaid : Prop := Claim7.holds Tryd.pinned (.plain (OpenSpec.upto splitEarliestSpec)) splitEarliestUptoCard

/-- THE SECOND FORM's CARD OF 'timekeeperlaw08.SplitHolds'. -/
def splitHoldsUptoCard : Claim7 := { stood := { row := splitHoldsUptoRow, standIns := [], harness := (true, "6c98aabb5e9501f0b540c194cc1cf36d521fc3891eeae7f1975be7a571e56dc9"), looks := false }, kinds := [], alts := [], laidByText := true, laidKinds := [.data, .data, .wider, .pinned, .pinned], laidTests := true, laidLooks := .later }
def SplitHoldsUptoCardSaid : Prop := Claim7.holds Tryd.pinned (.plain (OpenSpec.upto splitHoldsSpec)) splitHoldsUptoCard

/-- THE SECOND FORM's CARD OF 'timekeeperlaw08.SplitShares'. -/
def splitSharesUptoCard : Claim7 := { stood := { row := splitSharesUptoRow, standIns := [], harness := (true, "6c98aabb5e9501f0b540c194cc1cf36d521fc3891eeae7f1975be7a571e56dc9"), looks := false }, kinds := [], alts := [], laidByText := true, laidKinds := [.data, .data, .wider, .pinned, .pinned], laidTests := true, laidLooks := .later }
def SplitSharesUptoCardSaid : Prop := Claim7.holds Tryd.pinned (.plain (OpenSpec.upto splitSharesSpec)) splitSharesUptoCard

/-- THE SECOND FORM's CARD OF 'timekeeperlaw08.SplitSlack'. -/
def splitSlackUptoCard : Claim7 := { stood := { row := splitSlackUptoRow, standIns := [], harness := (true, "6c98aabb5e9501f0b540c194cc1cf36d521fc3891eeae7f1975be7a571e56dc9"), looks := false }, kinds := [], alts := [], laidByText := true, laidKinds := [.data, .data, .wider, .pinned, .pinned], laidTests := true, laidLooks := .later }
def SplitSlackUptoCardSaid : Prop := Claim7.holds Tryd.pinned (.plain (OpenSpec.upto splitSlackSpec)) splitSlackUptoCard

/-- THE SECOND FORM's CARD OF 'timekeeperlaw08.SplitMore'. -/
def splitMoreUptoCard : Claim7 := { stood := { row := splitMoreUptoRow, standIns := [], harness := (true, "6c98aabb5e9501f0b540c194cc1cf36d521fc3891eeae7f1975be7a571e56dc9"), looks := false }, kinds := [], alts := [], laidByText := true, laidKinds := [.data, .data, .wider, .pinned, .pinned], laidTests := true, laidLooks := .later }
def SplitMoreUptoCardSaid : Prop := Claim7.holds Tryd.pinned (.plain (OpenSpec.upto splitMoreSpec)) splitMoreUptoCard

/-- THE SECOND FORM's CARD OF 'timekeeperlaw08.SplitWider'. -/
def splitWiderUptoCard : Claim7 := { stood := { row := splitWiderUptoRow, standIns := [], harness := (true, "6c98aabb5e9501f0b540c194cc1cf36d521fc3891eeae7f1975be7a571e56dc9"), looks := false }, kinds := [], alts := [], laidByText := true, laidKinds := [.data, .data, .wider, .pinned, .pinned], laidTests := true, laidLooks := .later }
def SplitWiderUptoCardSaid : Prop := Claim7.holds Tryd.pinned (.plain (OpenSpec.upto splitWiderSpec)) splitWiderUptoCard
end Rows
end Go.Proofs.YtmnehhphabiffaaDoor
