/-
  DERIVED. GIVEN WITH THE SEED: THE CARDS: each row of YtokcdpamcbpaiabDoorRows.lean that lists a variable, with what it lists TIED to the program's text (the seventh form; the later family's looks); each row that meets fmt, with fmt's text TOLD by the authors' own Lean function (tested against real Go, not proved from fmt's source: count such statements apart). THE CARD IS WHAT COUNTS. Prove the row's statement (the work); the ties are given (YtokcdpamcbpaiabDoorTie.lean); close each card by the builder's one call (the guide's Derived/Test/ToyasCard.lean, 'card_holds'). Laid BY PROGRAM, IN A SANDBOX (cutbox-door.mjs). By AI agents, Wed Nov 11 2026. No macro, syntax, notation, axiom, sorry.
-/
import Derived.Test.YtokcdpamcbpaiabDoorRows
import GoSem.ClaimSeven
namespace Go.Proofs.YtokcdpamcbpaiabDoor
namespace Rows

/-- THE TIED CARD OF 'laws.FnExactMailName'. -/
def fnExactMailNameCard : Claim7 := { stood := { row := fnExactMailNameRow, standIns := [], harness := (true, "b80e5f2d17f18ce6fe0f879864ddca6a85c40a61d2a00bb02be938e79e452a3a"), looks := false }, kinds := [], alts := [], laidByText := true, laidKinds := [.data, .data, .data], laidTests := true, laidLooks := .later }
def FnExactMailNameCardSaid : Prop := Claim7.holds Tryd.pinned (.plain (OpenSpec.ofChange fnExactMailNameSpec)) fnExactMailNameCard

/-- THE TIED CARD OF 'laws.FnExactReadFlagList'. -/
def fnExactReadFlagListCard : Claim7 := { stood := { row := fnExactReadFlagListRow, standIns := [], harness := (true, "b80e5f2d17f18ce6fe0f879864ddca6a85c40a61d2a00bb02be938e79e452a3a"), looks := false }, kinds := [], alts := [], laidByText := true, laidKinds := [.data, .pinned], laidTests := true, laidLooks := .later }
def FnExactReadFlagListCardSaid : Prop := Claim7.holds Tryd.pinned (.plain (OpenSpec.ofChange fnExactReadFlagListSpec)) fnExactReadFlagListCard

/-- THE SECOND FORM's CARD OF 'laws.FnExactMailName'. -/
def fnExactMailNameUptoCard : Claim7 := { stood := { row := fnExactMailNameUptoRow, standIns := [], harness := (true, "b80e5f2d17f18ce6fe0f879864ddca6a85c40a61d2a00bb02be938e79e452a3a"), looks := false }, kinds := [], alts := [], laidByText := true, laidKinds := [.data, .data, .data], laidTests := true, laidLooks := .later }
def FnExactMailNameUptoCardSaid : Prop := Claim7.holds Tryd.pinned (.plain (OpenSpec.upto fnExactMailNameSpec)) fnExactMailNameUptoCard

/-- THE SECOND FORM's CARD OF 'laws.FnExactReadFlagList'. -/
def fnExactReadFlagListUptoCard : Claim7 := { stood := { row := fnExactReadFlagListUptoRow, standIns := [], harness := (true, "b80e5f2d17f18ce6fe0f879864ddca6a85c40a61d2a00bb02be938e79e452a3a"), looks := false }, kinds := [], alts := [], laidByText := true, laidKinds := [.data, .pinned], laidTests := true, laidLooks := .later }
def FnExactReadFlagListUptoCardSaid : Prop := Claim7.holds Tryd.pinned (.plain (OpenSpec.upto fnExactReadFlagListSpec)) fnExactReadFlagListUptoCard
end Rows
end Go.Proofs.YtokcdpamcbpaiabDoor
