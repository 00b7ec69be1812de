/-
  DERIVED. GIVEN WITH THE SEED: THE CARDS: each row of YtpbpidfjecejcaaGreatDoorRows.lean that lists a variable, with what it lists TIED to the program's text (the seventh form; the later family's looks); each row that meets fmt, with fmt's text TOLD by the authors' own Lean function (tested against real Go, not proved from fmt's source: count such statements apart). THE CARD IS WHAT COUNTS. Prove the row's statement (the work); the ties are given (YtpbpidfjecejcaaGreatDoorTie.lean); close each card by the builder's one call (the guide's Derived/Test/ToyasCard.lean, 'card_holds'). Laid BY PROGRAM, IN A SANDBOX (cutbox-door.mjs). By AI agents, Wed Nov 11 2026. No macro, syntax, notation, axiom, sorry.
-/
import Derived.Test.YtpbpidfjecejcaaGreatDoorRows
import GoSem.ClaimSeven
namespace Go.Proofs.YtpbpidfjecejcaaGreatDoor
namespace Rows

/-- THE TIED CARD OF 'laws.FnExactFormat'. -/
def fnExactFormatCard : Claim7 := { stood := { row := fnExactFormatRow, standIns := [], harness := (true, "09b04609f56fe64b5777a8b5484987e902d24807808bce0edd0d5f2c6cdc1211"), looks := true }, kinds := [], alts := [], laidByText := true, laidKinds := [.data, .data, .data, .handle], laidTests := true, laidLooks := .later }
def FnExactFormatCardSaid : Prop := Claim7.holds Tryz.pinned (.plain (OpenSpec.ofChange fnExactFormatSpec)) fnExactFormatCard

/-- THE TIED CARD OF 'laws.FnExactDiskDo'. -/
def fnExactDiskDoCard : Claim7 := { stood := { row := fnExactDiskDoRow, standIns := [], harness := (true, "09b04609f56fe64b5777a8b5484987e902d24807808bce0edd0d5f2c6cdc1211"), looks := true }, kinds := [], alts := [], laidByText := true, laidKinds := [.handle], laidTests := true, laidLooks := .later }
def FnExactDiskDoCardSaid : Prop := Claim7.holds Tryz.pinned (.plain (OpenSpec.ofChange fnExactDiskDoSpec)) fnExactDiskDoCard

/-- THE SECOND FORM's CARD OF 'laws.FnExactFormat'. -/
def fnExactFormatUptoCard : Claim7 := { stood := { row := fnExactFormatUptoRow, standIns := [], harness := (true, "09b04609f56fe64b5777a8b5484987e902d24807808bce0edd0d5f2c6cdc1211"), looks := true }, kinds := [], alts := [], laidByText := true, laidKinds := [.data, .data, .data, .handle], laidTests := true, laidLooks := .later }
def FnExactFormatUptoCardSaid : Prop := Claim7.holds Tryz.pinned (.plain (OpenSpec.upto fnExactFormatSpec)) fnExactFormatUptoCard

/-- THE SECOND FORM's CARD OF 'laws.FnExactDiskDo'. -/
def fnExactDiskDoUptoCard : Claim7 := { stood := { row := fnExactDiskDoUptoRow, standIns := [], harness := (true, "09b04609f56fe64b5777a8b5484987e902d24807808bce0edd0d5f2c6cdc1211"), looks := true }, kinds := [], alts := [], laidByText := true, laidKinds := [.handle], laidTests := true, laidLooks := .later }
def FnExactDiskDoUptoCardSaid : Prop := Claim7.holds Tryz.pinned (.plain (OpenSpec.upto fnExactDiskDoSpec)) fnExactDiskDoUptoCard
end Rows
end Go.Proofs.YtpbpidfjecejcaaGreatDoor
