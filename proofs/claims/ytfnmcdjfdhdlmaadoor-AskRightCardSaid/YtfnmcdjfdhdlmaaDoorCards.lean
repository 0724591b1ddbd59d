/-
  DERIVED. GIVEN WITH THE SEED: THE CARDS: each row of YtfnmcdjfdhdlmaaDoorRows.lean that lists a variable, with what it lists TIED to the program's text (the seventh form; the later family's looks); each row that meets fmt, with fmt's text TOLD by the authors' own Lean function (tested against real Go, not proved from fmt's source: count such statements apart). THE CARD IS WHAT COUNTS. Prove the row's statement (the work); the ties are given (YtfnmcdjfdhdlmaaDoorTie.lean); close each card by the builder's one call (the guide's Derived/Test/ToyasCard.lean, 'card_holds'). Laid BY PROGRAM, IN A SANDBOX (cutbox-door.mjs). By AI agents, Wed Nov 11 2026. No macro, syntax, notation, axiom, sorry.
-/
import Derived.Test.YtfnmcdjfdhdlmaaDoorRows
import GoSem.ClaimSeven
namespace Go.Proofs.YtfnmcdjfdhdlmaaDoor
namespace Rows

/-- THE TIED CARD OF 'warplaw14.AskRight'. -/
def askRightCard : Claim7 := { stood := { row := askRightRow, standIns := [], harness := (true, "7854e6a594470f9832f579add707fd84ea335ee581937dbc47fe13e27dc39e3a"), looks := true }, kinds := [], alts := [], laidByText := true, laidKinds := [.data, .pinned], laidTests := true, laidLooks := .later }
def AskRightCardSaid : Prop := Claim7.holds Tryd.pinned (.plain (OpenSpec.ofChange askRightSpec)) askRightCard

/-- THE TIED CARD OF 'warplaw14.AskEval'. -/
def askEvalCard : Claim7 := { stood := { row := askEvalRow, standIns := [], harness := (true, "7854e6a594470f9832f579add707fd84ea335ee581937dbc47fe13e27dc39e3a"), looks := true }, kinds := [], alts := [], laidByText := true, laidKinds := [.data, .pinned], laidTests := true, laidLooks := .later }
def AskEvalCardSaid : Prop := Claim7.holds Tryd.pinned (.plain (OpenSpec.ofChange askEvalSpec)) askEvalCard

/-- THE SECOND FORM's CARD OF 'warplaw14.AskRight'. -/
def askRightUptoCard : Claim7 := { stood := { row := askRightUptoRow, standIns := [], harness := (true, "7854e6a594470f9832f579add707fd84ea335ee581937dbc47fe13e27dc39e3a"), looks := true }, kinds := [], alts := [], laidByText := true, laidKinds := [.data, .pinned], laidTests := true, laidLooks := .later }
def AskRightUptoCardSaid : Prop := Claim7.holds Tryd.pinned (.plain (OpenSpec.upto askRightSpec)) askRightUptoCard

/-- THE SECOND FORM's CARD OF 'warplaw14.AskEval'. -/
def askEvalUptoCard : Claim7 := { stood := { row := askEvalUptoRow, standIns := [], harness := (true, "7854e6a594470f9832f579add707fd84ea335ee581937dbc47fe13e27dc39e3a"), looks := true }, kinds := [], alts := [], laidByText := true, laidKinds := [.data, .pinned], laidTests := true, laidLooks := .later }
def AskEvalUptoCardSaid : Prop := Claim7.holds Tryd.pinned (.plain (OpenSpec.upto askEvalSpec)) askEvalUptoCard
end Rows
end Go.Proofs.YtfnmcdjfdhdlmaaDoor
