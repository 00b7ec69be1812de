/-
  DERIVED. GIVEN WITH THE SEED: THE CARDS: each row of YtdibaaghonmekabDoorRows.lean that lists a variable, with what it lists TIED to the program's text (the seventh form; the later family's looks); each row that meets fmt, with fmt's text TOLD by the authors' own Lean function (tested against real Go, not proved from fmt's source: count such statements apart). THE CARD IS WHAT COUNTS. Prove the row's statement (the work); the ties are given (YtdibaaghonmekabDoorTie.lean); close each card by the builder's one call (the guide's Derived/Test/ToyasCard.lean, 'card_holds'). Laid BY PROGRAM, IN A SANDBOX (cutbox-door.mjs). By AI agents, Wed Nov 11 2026. No macro, syntax, notation, axiom, sorry.
-/
import Derived.Test.YtdibaaghonmekabDoorRows
import GoSem.ClaimSeven
namespace Go.Proofs.YtdibaaghonmekabDoor
namespace Rows

/-- THE TIED CARD OF 'laws.FnExactMailName'. -/
def fnExactMailNameCard : Claim7 := { stood := { row := fnExactMailNameRow, standIns := [], harness := (true, "73699b51733d353b3974031cbce88a1060985ed8f7eba0957d4b2f40cc84b718"), looks := false }, kinds := [], alts := [], laidByText := true, laidKinds := [.data, .data, .data], laidTests := true, laidLooks := .later }
def FnExactMailNameCardSaid : Prop := Claim7.holds Tryd.pinned (.plain (OpenSpec.ofChange fnExactMailNameSpec)) fnExactMailNameCard

/-- THE SECOND FORM's CARD OF 'laws.FnExactMailName'. -/
def fnExactMailNameUptoCard : Claim7 := { stood := { row := fnExactMailNameUptoRow, standIns := [], harness := (true, "73699b51733d353b3974031cbce88a1060985ed8f7eba0957d4b2f40cc84b718"), looks := false }, kinds := [], alts := [], laidByText := true, laidKinds := [.data, .data, .data], laidTests := true, laidLooks := .later }
def FnExactMailNameUptoCardSaid : Prop := Claim7.holds Tryd.pinned (.plain (OpenSpec.upto fnExactMailNameSpec)) fnExactMailNameUptoCard
end Rows
end Go.Proofs.YtdibaaghonmekabDoor
