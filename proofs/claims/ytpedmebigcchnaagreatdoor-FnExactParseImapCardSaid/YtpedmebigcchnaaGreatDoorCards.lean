/-
  DERIVED. GIVEN WITH THE SEED: THE CARDS: each row of YtpedmebigcchnaaGreatDoorRows.lean that lists a variable, with what it lists TIED to the program's text (the seventh form; the later family's looks); each row that meets fmt, with fmt's text TOLD by the authors' own Lean function (tested against real Go, not proved from fmt's source: count such statements apart). THE CARD IS WHAT COUNTS. Prove the row's statement (the work); the ties are given (YtpedmebigcchnaaGreatDoorTie.lean); close each card by the builder's one call (the guide's Derived/Test/ToyasCard.lean, 'card_holds'). Laid BY PROGRAM, IN A SANDBOX (cutbox-door.mjs). By AI agents, Wed Nov 11 2026. No macro, syntax, notation, axiom, sorry.
-/
import Derived.Test.YtpedmebigcchnaaGreatDoorRows
import GoSem.ClaimSeven
namespace Go.Proofs.YtpedmebigcchnaaGreatDoor
namespace Rows

/-- THE TIED CARD OF 'laws.FnExactParseImap'. -/
def fnExactParseImapCard : Claim7 := { stood := { row := fnExactParseImapRow, standIns := [], harness := (true, "c0662a513d1b6fedf6f336916f9676a9b1c757a68eba3f4db50f2dd5b9c36d3e"), looks := true }, kinds := [], alts := [], laidByText := true, laidKinds := [.data, .data, .data, .data, .sentinel, .sentinel, .pinned], laidTests := true, laidLooks := .later }
def FnExactParseImapCardSaid : Prop := Claim7.holds Tryz.pinned (.plain (OpenSpec.ofChange fnExactParseImapSpec)) fnExactParseImapCard

/-- THE SECOND FORM's CARD OF 'laws.FnExactParseImap'. -/
def fnExactParseImapUptoCard : Claim7 := { stood := { row := fnExactParseImapUptoRow, standIns := [], harness := (true, "c0662a513d1b6fedf6f336916f9676a9b1c757a68eba3f4db50f2dd5b9c36d3e"), looks := true }, kinds := [], alts := [], laidByText := true, laidKinds := [.data, .data, .data, .data, .sentinel, .sentinel, .pinned], laidTests := true, laidLooks := .later }
def FnExactParseImapUptoCardSaid : Prop := Claim7.holds Tryz.pinned (.plain (OpenSpec.upto fnExactParseImapSpec)) fnExactParseImapUptoCard
end Rows
end Go.Proofs.YtpedmebigcchnaaGreatDoor
