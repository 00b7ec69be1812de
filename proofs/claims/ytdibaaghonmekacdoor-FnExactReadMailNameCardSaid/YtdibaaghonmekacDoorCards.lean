/-
  DERIVED. GIVEN WITH THE SEED: THE CARDS: each row of YtdibaaghonmekacDoorRows.lean that lists a variable, with what it lists TIED to the program's text (the seventh form; the later family's looks); each row that meets fmt, with fmt's text TOLD by the authors' own Lean function (tested against real Go, not proved from fmt's source: count such statements apart). THE CARD IS WHAT COUNTS. Prove the row's statement (the work); the ties are given (YtdibaaghonmekacDoorTie.lean); close each card by the builder's one call (the guide's Derived/Test/ToyasCard.lean, 'card_holds'). Laid BY PROGRAM, IN A SANDBOX (cutbox-door.mjs). By AI agents, Wed Nov 11 2026. No macro, syntax, notation, axiom, sorry.
-/
import Derived.Test.YtdibaaghonmekacDoorRows
import GoSem.ClaimSeven
namespace Go.Proofs.YtdibaaghonmekacDoor
namespace Rows

/-- THE TIED CARD OF 'laws.FnExactReadMailName'. -/
def fnExactReadMailNameCard : Claim7 := { stood := { row := fnExactReadMailNameRow, standIns := [], harness := (true, "6eac073e7809d0e9ee016a7e91503d550a3c0f850e80c1c0a9908394960df8ca"), looks := true }, kinds := [], alts := [], laidByText := true, laidKinds := [.data, .data, .data, .sentinel, .sentinel], laidTests := true, laidLooks := .later }
def FnExactReadMailNameCardSaid : Prop := Claim7.holds Tryd.pinned (.plain (OpenSpec.ofChange fnExactReadMailNameSpec)) fnExactReadMailNameCard

/-- THE SECOND FORM's CARD OF 'laws.FnExactReadMailName'. -/
def fnExactReadMailNameUptoCard : Claim7 := { stood := { row := fnExactReadMailNameUptoRow, standIns := [], harness := (true, "6eac073e7809d0e9ee016a7e91503d550a3c0f850e80c1c0a9908394960df8ca"), looks := true }, kinds := [], alts := [], laidByText := true, laidKinds := [.data, .data, .data, .sentinel, .sentinel], laidTests := true, laidLooks := .later }
def FnExactReadMailNameUptoCardSaid : Prop := Claim7.holds Tryd.pinned (.plain (OpenSpec.upto fnExactReadMailNameSpec)) fnExactReadMailNameUptoCard
end Rows
end Go.Proofs.YtdibaaghonmekacDoor
