/-
  DERIVED. GIVEN WITH THE SEED: THE CARDS: each row of YtgejonmjmieglaaDoorRows.lean that lists a variable, with what it lists TIED to the program's text (the seventh form; the later family's looks); each row that meets fmt, with fmt's text TOLD by the authors' own Lean function (tested against real Go, not proved from fmt's source: count such statements apart). THE CARD IS WHAT COUNTS. Prove the row's statement (the work); the ties are given (YtgejonmjmieglaaDoorTie.lean); close each card by the builder's one call (the guide's Derived/Test/ToyasCard.lean, 'card_holds'). Laid BY PROGRAM, IN A SANDBOX (cutbox-door.mjs). By AI agents, Wed Nov 11 2026. No macro, syntax, notation, axiom, sorry.
-/
import Derived.Test.YtgejonmjmieglaaDoorRows
import GoSem.ClaimSeven
namespace Go.Proofs.YtgejonmjmieglaaDoor
namespace Rows

/-- THE TIED CARD OF 'timekeeperlaw13.LifeTurns'. -/
def lifeTurnsCard : Claim7 := { stood := { row := lifeTurnsRow, standIns := [], harness := (true, "b719c9f034a7c5489cc3d384e85db59e3d127211f9714b0fc886d8d5d525b0c1"), looks := false }, kinds := [], alts := [], laidByText := true, laidKinds := [.data, .data, .wider, .pinned, .pinned], laidTests := true, laidLooks := .later }
def LifeTurnsCardSaid : Prop := Claim7.holds Tryd.pinned (.plain (OpenSpec.ofChange lifeTurnsSpec)) lifeTurnsCard

/-- THE TIED CARD OF 'timekeeperlaw13.LifeTells'. -/
def lifeTellsCard : Claim7 := { stood := { row := lifeTellsRow, standIns := [], harness := (true, "b719c9f034a7c5489cc3d384e85db59e3d127211f9714b0fc886d8d5d525b0c1"), looks := false }, kinds := [], alts := [], laidByText := true, laidKinds := [.data, .data, .wider, .pinned, .pinned], laidTests := true, laidLooks := .later }
def LifeTellsCardSaid : Prop := Claim7.holds Tryd.pinned (.plain (OpenSpec.ofChange lifeTellsSpec)) lifeTellsCard

/-- THE TIED CARD OF 'timekeeperlaw13.LifeGoes'. -/
def lifeGoesCard : Claim7 := { stood := { row := lifeGoesRow, standIns := [], harness := (true, "b719c9f034a7c5489cc3d384e85db59e3d127211f9714b0fc886d8d5d525b0c1"), looks := false }, kinds := [], alts := [], laidByText := true, laidKinds := [.data, .data, .wider, .pinned, .pinned], laidTests := true, laidLooks := .later }
def LifeGoesCardSaid : Prop := Claim7.holds Tryd.pinned (.plain (OpenSpec.ofChange lifeGoesSpec)) lifeGoesCard

/-- THE TIED CARD OF 'timekeeperlaw13.LifeDead'. -/
def lifeDeadCard : Claim7 := { stood := { row := lifeDeadRow, standIns := [], harness := (true, "b719c9f034a7c5489cc3d384e85db59e3d127211f9714b0fc886d8d5d525b0c1"), looks := false }, kinds := [], alts := [], laidByText := true, laidKinds := [.data, .data, .wider, .pinned, .pinned], laidTests := true, laidLooks := .later }
def LifeDeadCardSaid : Prop := Claim7.holds Tryd.pinned (.plain (OpenSpec.ofChange lifeDeadSpec)) lifeDeadCard

/-- THE TIED CARD OF 'timekeeperlaw13.LifeAgain'. -/
def lifeAgainCard : Claim7 := { stood := { row := lifeAgainRow, standIns := [], harness := (true, "b719c9f034a7c5489cc3d384e85db59e3d127211f9714b0fc886d8d5d525b0c1"), looks := false }, kinds := [], alts := [], laidByText := true, laidKinds := [.data, .data, .wider, .pinned, .pinned], laidTests := true, laidLooks := .later }
def LifeAgainCardSaid : Prop := Claim7.holds Tryd.pinned (.plain (OpenSpec.ofChange lifeAgainSpec)) lifeAgainCard

/-- THE TIED CARD OF 'timekeeperlaw13.LifeBegins'. -/
def lifeBeginsCard : Claim7 := { stood := { row := lifeBeginsRow, standIns := [], harness := (true, "b719c9f034a7c5489cc3d384e85db59e3d127211f9714b0fc886d8d5d525b0c1"), looks := false }, kinds := [], alts := [], laidByText := true, laidKinds := [.data, .data, .wider, .pinned, .pinned], laidTests := true, laidLooks := .later }
def LifeBeginsCardSaid : Prop := Claim7.holds Tryd.pinned (.plain (OpenSpec.ofChange lifeBeginsSpec)) lifeBeginsCard

/-- THE TIED CARD OF 'timekeeperlaw13.LifeReady'. -/
def lifeReadyCard : Claim7 := { stood := { row := lifeReadyRow, standIns := [], harness := (true, "b719c9f034a7c5489cc3d384e85db59e3d127211f9714b0fc886d8d5d525b0c1"), looks := false }, kinds := [], alts := [], laidByText := true, laidKinds := [.data, .data, .wider, .pinned, .pinned], laidTests := true, laidLooks := .later }
def LifeReadyCardSaid : Prop := Claim7.holds Tryd.pinned (.plain (OpenSpec.ofChange lifeReadySpec)) lifeReadyCard

/-- THE SECOND FORM's CARD OF 'timekeeperlaw13.LifeTurns'. -/
def lifeTurnsUptoCard : Claim7 := { stood := { row := lifeTurnsUptoRow, standIns := [], harness := (true, "b719c9f034a7c5489cc3d384e85db59e3d127211f9714b0fc886d8d5d525b0c1"), looks := false }, kinds := [], alts := [], laidByText := true, laidKinds := [.data, .data, .wider, .pinned, .pinned], laidTests := true, laidLooks := .later }
def LifeTurnsUptoCardSaid : Prop := Claim7.holds Tryd.pinned (.plain (OpenSpec.upto lifeTurnsSpec)) lifeTurnsUptoCard

/-- THE SECOND FORM's CARD OF 'timekeeperlaw13.LifeTells'. -/
def lifeTellsUptoCard : Claim7 := { stood := { row := lifeTellsUptoRow, standIns := [], harness := (true, "b719c9f034a7c5489cc3d384e85db59e3d127211f9714b0fc886d8d5d525b0c1"), looks := false }, kinds := [], alts := [], laidByText := true, laidKinds := [.data, .data, .wider, .pinned, .pinned], laidTests := true, laidLooks := .later }
def LifeTellsUptoCardSaid : Prop := Claim7.holds Tryd.pinned (.plain (OpenSpec.upto lifeTellsSpec)) lifeTellsUptoCard

/-- THE SECOND FORM's CARD OF 'timekeeperlaw13.LifeGoes'. -/
def lifeGoesUptoCard : Claim7 := { stood := { row := lifeGoesUptoRow, standIns := [], harness := (true, "b719c9f034a7c5489cc3d384e85db59e3d127211f9714b0fc886d8d5d525b0c1"), looks := false }, kinds := [], alts := [], laidByText := true, laidKinds := [.data, .data, .wider, .pinned, .pinned], laidTests := true, laidLooks := .later }
def LifeGoesUptoCardSaid : Prop := Claim7.holds Tryd.pinned (.plain (OpenSpec.upto lifeGoesSpec)) lifeGoesUptoCard

/-- THE SECOND FORM's CARD OF 'timekeeperlaw13.LifeDead'. -/
def lifeDeadUptoCard : Claim7 := { stood := { row := lifeDeadUptoRow, standIns := [], harness := (true, "b719c9f034a7c5489cc3d384e85db59e3d127211f9714b0fc886d8d5d525b0c1"), looks := false }, kinds := [], alts := [], laidByText := true, laidKinds := [.data, .data, .wider, .pinned, .pinned], laidTests := true, laidLooks := .later }
def LifeDeadUptoCardSaid : Prop := Claim7.holds Tryd.pinned (.plain (OpenSpec.upto lifeDeadSpec)) lifeDeadUptoCard

/-- THE SECOND FORM's CARD OF 'timekeeperlaw13.LifeAgain'. -/
def lifeAgainUptoCard : Claim7 := { stood := { row := lifeAgainUptoRow, standIns := [], harness := (true, "b719c9f034a7c5489cc3d384e85db59e3d127211f9714b0fc886d8d5d525b0c1"), looks := false }, kinds := [], alts := [], laidByText := true, laidKinds := [.data, .data, .wider, .pinned, .pinned], laidTests := true, laidLooks := .later }
def LifeAgainUptoCardSaid : Prop := Claim7.holds Tryd.pinned (.plain (OpenSpec.upto lifeAgainSpec)) lifeAgainUptoCard

/-- THE SECOND FORM's CARD OF 'timekeeperlaw13.LifeBegins'. -/
def lifeBeginsUptoCard : Claim7 := { stood := { row := lifeBeginsUptoRow, standIns := [], harness := (true, "b719c9f034a7c5489cc3d384e85db59e3d127211f9714b0fc886d8d5d525b0c1"), looks := false }, kinds := [], alts := [], laidByText := true, laidKinds := [.data, .data, .wider, .pinned, .pinned], laidTests := true, laidLooks := .later }
def LifeBeginsUptoCardSaid : Prop := Claim7.holds Tryd.pinned (.plain (OpenSpec.upto lifeBeginsSpec)) lifeBeginsUptoCard

/-- THE SECOND FORM's CARD OF 'timekeeperlaw13.LifeReady'. -/
def lifeReadyUptoCard : Claim7 := { stood := { row := lifeReadyUptoRow, standIns := [], harness := (true, "b719c9f034a7c5489cc3d384e85db59e3d127211f9714b0fc886d8d5d525b0c1"), looks := false }, kinds := [], alts := [], laidByText := true, laidKinds := [.data, .data, .wider, .pinned, .pinned], laidTests := true, laidLooks := .later }
def LifeReadyUptoCardSaid : Prop := Claim7.holds Tryd.pinned (.plain (OpenSpec.upto lifeReadySpec)) lifeReadyUptoCard
end Rows
end Go.Proofs.YtgejonmjmieglaaDoor
