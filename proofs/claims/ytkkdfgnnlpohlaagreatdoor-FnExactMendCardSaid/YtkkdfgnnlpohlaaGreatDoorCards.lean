/-
  DERIVED. GIVEN WITH THE SEED: THE CARDS: each row of YtkkdfgnnlpohlaaGreatDoorRows.lean that lists a variable, with what it lists TIED to the program's text (the seventh form; the later family's looks); each row that meets fmt, with fmt's text TOLD by the authors' own Lean function (tested against real Go, not proved from fmt's source: count such statements apart). THE CARD IS WHAT COUNTS. Prove the row's statement (the work); the ties are given (YtkkdfgnnlpohlaaGreatDoorTie.lean); close each card by the builder's one call (the guide's Derived/Test/ToyasCard.lean, 'card_holds'). Laid BY PROGRAM, IN A SANDBOX (cutbox-door.mjs). By AI agents, Wed Nov 11 2026. No macro, syntax, notation, axiom, sorry.
-/
import Derived.Test.YtkkdfgnnlpohlaaGreatDoorRows
import GoSem.ClaimSeven
namespace Go.Proofs.YtkkdfgnnlpohlaaGreatDoor
namespace Rows

/-- THE TIED CARD OF 'laws.FnExactMend'. -/
def fnExactMendCard : Claim7 := { stood := { row := fnExactMendRow, standIns := [], harness := (true, "d527e738d84498ef00f7da87f67a8013c0477ec871a32c246f71c540f5290b96"), looks := true }, kinds := [], alts := [], laidByText := true, laidKinds := [.data, .data, .data, .data, .sentinel, .sentinel, .sentinel, .sentinel, .pinned], laidTests := true, laidLooks := .later }
def FnExactMendCardSaid : Prop := Claim7.holds Tryz.pinned (.plain (OpenSpec.ofChange fnExactMendSpec)) fnExactMendCard

/-- THE SECOND FORM's CARD OF 'laws.FnExactMend'. -/
def fnExactMendUptoCard : Claim7 := { stood := { row := fnExactMendUptoRow, standIns := [], harness := (true, "d527e738d84498ef00f7da87f67a8013c0477ec871a32c246f71c540f5290b96"), looks := true }, kinds := [], alts := [], laidByText := true, laidKinds := [.data, .data, .data, .data, .sentinel, .sentinel, .sentinel, .sentinel, .pinned], laidTests := true, laidLooks := .later }
def FnExactMendUptoCardSaid : Prop := Claim7.holds Tryz.pinned (.plain (OpenSpec.upto fnExactMendSpec)) fnExactMendUptoCard
end Rows
end Go.Proofs.YtkkdfgnnlpohlaaGreatDoor
