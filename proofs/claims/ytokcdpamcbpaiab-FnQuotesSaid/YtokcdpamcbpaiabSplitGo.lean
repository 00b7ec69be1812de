import Derived.Test.YtokcdpamcbpaiabImplSplit
namespace Go.Proofs.Ytokcdpamcbpaiab
open Go.RowKit
def segB (d : List Nat) (cs at_ : Nat) : List Nat := (d.drop cs).take (at_ - cs)
def spanB (d : List Nat) (cs at_ : Nat) : Nat × Nat × List Nat := (cs, at_, unquoteOf (innerOf (segB d cs at_)))
def headL (d : List Nat) (x : Nat × Nat) : Bool := isFrom (pieceOf d x) && decide (marksOf (pieceOf d x) = 0)
/-- What the specification does with the lines that are left: cs where the piece began, at_ where it stands. -/
def specGo (d : List Nat) : List (Nat × Nat) → Nat → Nat → Option (List (Nat × Nat × List Nat))
  | [], cs, at_ => if 0 < at_ then (if okEntry (segB d cs at_) = true then some [spanB d cs at_] else none) else some []
  | x :: r, cs, at_ => if headL d x = true ∧ 0 < at_ then (if okEntry (segB d cs at_) = true then (specGo d r at_ (at_ + x.2)).map (spanB d cs at_ :: ·) else none) else specGo d r cs (at_ + x.2)
def specSplit (d : List Nat) : Option (List (Nat × Nat × List Nat)) := if 40000 < d.length then none else specGo d (spansOf d) 0 0
end Go.Proofs.Ytokcdpamcbpaiab
