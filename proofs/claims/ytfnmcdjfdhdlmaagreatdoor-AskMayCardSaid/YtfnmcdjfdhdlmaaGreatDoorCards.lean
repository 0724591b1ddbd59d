/-
  DERIVED. GIVEN WITH THE SEED: THE CARDS: each row of YtfnmcdjfdhdlmaaGreatDoorRows.lean that lists a variable, with what it lists TIED to the program's text (the seventh form; the later family's looks); each row that meets fmt, with fmt's text TOLD by the authors' own Lean function (tested against real Go, not proved from fmt's source: count such statements apart). THE CARD IS WHAT COUNTS. Prove the row's statement (the work); the ties are given (YtfnmcdjfdhdlmaaGreatDoorTie.lean); close each card by the builder's one call (the guide's Derived/Test/ToyasCard.lean, 'card_holds'). Laid BY PROGRAM, IN A SANDBOX (cutbox-door.mjs). By AI agents, Wed Nov 11 2026. No macro, syntax, notation, axiom, sorry.
-/
import Derived.Test.YtfnmcdjfdhdlmaaGreatDoorRows
import GoSem.ClaimSeven
namespace Go.Proofs.YtfnmcdjfdhdlmaaGreatDoor
namespace Rows

/-- THE TIED CARD OF 'warplaw14.AskMay'. -/
def askMayCard : Claim7 := { stood := { row := askMayRow, standIns := [], harness := (true, "89d49d705382b29a767f341f84b4a9c74a6778c2bc72be2137338532d5f350c9"), looks := true }, kinds := [], alts := [], laidByText := true, laidKinds := [.data, .pinned], laidTests := true, laidLooks := .later }
def AskMayCardSaid : Prop := Claim7.holds Tryz.pinned (.plain (OpenSpec.ofChange askMaySpec)) askMayCard

/-- THE SECOND FORM's CARD OF 'warplaw14.AskMay'. -/
def askMayUptoCard : Claim7 := { stood := { row := askMayUptoRow, standIns := [], harness := (true, "89d49d705382b29a767f341f84b4a9c74a6778c2bc72be2137338532d5f350c9"), looks := true }, kinds := [], alts := [], laidByText := true, laidKinds := [.data, .pinned], laidTests := true, laidLooks := .later }
def AskMayUptoCardSaid : Prop := Claim7.holds Tryz.pinned (.plain (OpenSpec.upto askMaySpec)) askMayUptoCard
end Rows
end Go.Proofs.YtfnmcdjfdhdlmaaGreatDoor
