/-
  DERIVED. GIVEN WITH THE SEED: THE CARDS: each row of YtledlicandlekaaDoorRows.lean that lists a variable, with what it lists TIED to the program's text (the seventh form; the later family's looks); each row that meets fmt, with fmt's text TOLD by the authors' own Lean function (tested against real Go, not proved from fmt's source: count such statements apart). THE CARD IS WHAT COUNTS. Prove the row's statement (the work); the ties are given (YtledlicandlekaaDoorTie.lean); close each card by the builder's one call (the guide's Derived/Test/ToyasCard.lean, 'card_holds'). Laid BY PROGRAM, IN A SANDBOX (cutbox-door.mjs). By AI agents, Wed Nov 11 2026. No macro, syntax, notation, axiom, sorry.
-/
import Derived.Test.YtledlicandlekaaDoorRows
import GoSem.ClaimSeven
namespace Go.Proofs.YtledlicandlekaaDoor
namespace Rows

/-- THE TIED CARD OF 'laws.FnExactCut'. -/
def fnExactCutCard : Claim7 := { stood := { row := fnExactCutRow, standIns := [], harness := (true, "6398728c848843130aa30bb43df76dd1d524189731e234e51eeb7ccf28fdab76"), looks := true }, kinds := [], alts := [], laidByText := true, laidKinds := [.data, .data, .data, .sentinel, .sentinel], laidTests := true, laidLooks := .later }
def FnExactCutCardSaid : Prop := Claim7.holds Tryd.pinned (.plain (OpenSpec.ofChange fnExactCutSpec)) fnExactCutCard

/-- THE TIED CARD OF 'laws.FnExactParsePop'. -/
def fnExactParsePopCard : Claim7 := { stood := { row := fnExactParsePopRow, standIns := [], harness := (true, "6398728c848843130aa30bb43df76dd1d524189731e234e51eeb7ccf28fdab76"), looks := true }, kinds := [], alts := [], laidByText := true, laidKinds := [.data, .data, .data, .sentinel, .sentinel], laidTests := true, laidLooks := .later }
def FnExactParsePopCardSaid : Prop := Claim7.holds Tryd.pinned (.plain (OpenSpec.ofChange fnExactParsePopSpec)) fnExactParsePopCard

/-- THE TIED CARD OF 'laws.FnPieces'. -/
def fnPiecesCard : Claim7 := { stood := { row := fnPiecesRow, standIns := [], harness := (true, "6398728c848843130aa30bb43df76dd1d524189731e234e51eeb7ccf28fdab76"), looks := true }, kinds := [], alts := [], laidByText := true, laidKinds := [.data, .data, .data, .sentinel, .sentinel], laidTests := true, laidLooks := .later }
def FnPiecesCardSaid : Prop := Claim7.holds Tryd.pinned (.plain (OpenSpec.ofChange fnPiecesSpec)) fnPiecesCard

/-- THE SECOND FORM's CARD OF 'laws.FnExactCut'. -/
def fnExactCutUptoCard : Claim7 := { stood := { row := fnExactCutUptoRow, standIns := [], harness := (true, "6398728c848843130aa30bb43df76dd1d524189731e234e51eeb7ccf28fdab76"), looks := true }, kinds := [], alts := [], laidByText := true, laidKinds := [.data, .data, .data, .sentinel, .sentinel], laidTests := true, laidLooks := .later }
def FnExactCutUptoCardSaid : Prop := Claim7.holds Tryd.pinned (.plain (OpenSpec.upto fnExactCutSpec)) fnExactCutUptoCard

/-- THE SECOND FORM's CARD OF 'laws.FnExactParsePop'. -/
def fnExactParsePopUptoCard : Claim7 := { stood := { row := fnExactParsePopUptoRow, standIns := [], harness := (true, "6398728c848843130aa30bb43df76dd1d524189731e234e51eeb7ccf28fdab76"), looks := true }, kinds := [], alts := [], laidByText := true, laidKinds := [.data, .data, .data, .sentinel, .sentinel], laidTests := true, laidLooks := .later }
def FnExactParsePopUptoCardSaid : Prop := Claim7.holds Tryd.pinned (.plain (OpenSpec.upto fnExactParsePopSpec)) fnExactParsePopUptoCard

/-- THE SECOND FORM's CARD OF 'laws.FnPieces'. -/
def fnPiecesUptoCard : Claim7 := { stood := { row := fnPiecesUptoRow, standIns := [], harness := (true, "6398728c848843130aa30bb43df76dd1d524189731e234e51eeb7ccf28fdab76"), looks := true }, kinds := [], alts := [], laidByText := true, laidKinds := [.data, .data, .data, .sentinel, .sentinel], laidTests := true, laidLooks := .later }
def FnPiecesUptoCardSaid : Prop := Claim7.holds Tryd.pinned (.plain (OpenSpec.upto fnPiecesSpec)) fnPiecesUptoCard
end Rows
end Go.Proofs.YtledlicandlekaaDoor
