/-
  DERIVED. GIVEN WITH THE SEED: THE CARDS: each row of YtpdbolihakojcaaGreatDoorRows.lean that lists a variable, with what it lists TIED to the program's text (the seventh form; the later family's looks); each row that meets fmt, with fmt's text TOLD by the authors' own Lean function (tested against real Go, not proved from fmt's source: count such statements apart). THE CARD IS WHAT COUNTS. Prove the row's statement (the work); the ties are given (YtpdbolihakojcaaGreatDoorTie.lean); close each card by the builder's one call (the guide's Derived/Test/ToyasCard.lean, 'card_holds'). Laid BY PROGRAM, IN A SANDBOX (cutbox-door.mjs). By AI agents, Wed Nov 11 2026. No macro, syntax, notation, axiom, sorry.
-/
import Derived.Test.YtpdbolihakojcaaGreatDoorRows
import GoSem.ClaimSeven
namespace Go.Proofs.YtpdbolihakojcaaGreatDoor
namespace Rows

/-- THE TIED CARD OF 'laws.FnExactLook'. -/
def fnExactLookCard : Claim7 := { stood := { row := fnExactLookRow, standIns := [], harness := (true, "71de39935643f6f01861421bd5084ec8cdb4e424a56e9812d235e4cddf9e6bbd"), looks := true }, kinds := [], alts := [], laidByText := true, laidKinds := [.data, .data, .data, .data, .handle, .sentinel, .sentinel, .sentinel, .sentinel, .pinned], laidTests := true, laidLooks := .later }
def FnExactLookCardSaid : Prop := Claim7.holds Tryz.pinned (.plain (OpenSpec.ofChange fnExactLookSpec)) fnExactLookCard

/-- THE SECOND FORM's CARD OF 'laws.FnExactLook'. -/
def fnExactLookUptoCard : Claim7 := { stood := { row := fnExactLookUptoRow, standIns := [], harness := (true, "71de39935643f6f01861421bd5084ec8cdb4e424a56e9812d235e4cddf9e6bbd"), looks := true }, kinds := [], alts := [], laidByText := true, laidKinds := [.data, .data, .data, .data, .handle, .sentinel, .sentinel, .sentinel, .sentinel, .pinned], laidTests := true, laidLooks := .later }
def FnExactLookUptoCardSaid : Prop := Claim7.holds Tryz.pinned (.plain (OpenSpec.upto fnExactLookSpec)) fnExactLookUptoCard
end Rows
end Go.Proofs.YtpdbolihakojcaaGreatDoor
