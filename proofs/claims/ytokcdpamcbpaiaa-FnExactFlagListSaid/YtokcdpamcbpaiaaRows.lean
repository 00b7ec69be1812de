/-
  No cell of these rows narrows 'for every input' (looked for: loops, veiled, ifaces, maps, wideKeys, modest, calm, conditions, laid).
  DERIVED. THE GIVEN ROWS OF THIS SEAT. 6 by the template 'for every input the law returns true; each argument reads behind the call as it read before'; 0 by the template 'total and deterministic' (their statements: YtokcdpamcbpaiaaTotals.lean).
  GIVEN WITH THE SEED: the statements are not yours to turn. If you find one false, say at which input.
  Laid BY PROGRAM, IN A SANDBOX (cutbox-rows.mjs): the forced cells as the released guide's own fill.sh prints them over the translation 61bc532e89460db3… (all of the seat's roots in one cut). By AI agents, Wed Nov 11 2026. No macro, syntax, notation, axiom, sorry.
-/
import Derived.Test.YtokcdpamcbpaiaaChecked
import GoSem.Claim
import GoSem.ClaimJoined
import GoSem.ClaimMapViews
import Derived.JoinedTies
import Derived.KernelRfl
namespace Go.Proofs.Ytokcdpamcbpaiaa
/- THE CELL 'sum', in the pinned program and in every row, IS THE sha256 OF THE DUMP (.gsa) THAT YtokcdpamcbpaiaaProg.lean LOADS. Nothing in Lean hashes anything: it is a label: what it is worth is what the hold of that sum in a sandbox is worth. -/
noncomputable def Try.pinned : Pinned := { name := "ytokcdpamcbpaiaa", sum := "61bc532e89460db373c223ec4105772293dbb273f08dd12221aea1c9e8ad11cb", checked := Try.checked }
namespace Rows
def none {H : Type} : Left H := { results := [], args := [] }

/-- 'laws.FnExactCrc': WHATEVER THE INPUT: true; the input reads as it did. -/
def fnExactCrcSpec : ChangeSpec := { name := "fnExactCrc", fn := fun _ => fun
  | [d] => { results := [.lit (.bool true)], args := [d] }
  | _ => none }
def fnExactCrcRow : OpenClaim := { program := "ytokcdpamcbpaiaa", sum := "61bc532e89460db373c223ec4105772293dbb273f08dd12221aea1c9e8ad11cb", func := "loop.example/s02349/laws.FnExactCrc", spec := "fnExactCrc", apart := false }
def FnExactCrcSaid : Prop := fnExactCrcRow.holds Try.pinned (OpenSpec.ofChange fnExactCrcSpec)

/-- ITS FALSE NEIGHBOUR: 'it returns false'. Refute it at one input. -/
def fnExactCrcWrong : ChangeSpec := { name := "fnExactCrc", fn := fun _ => fun
  | [d] => { results := [.lit (.bool false)], args := [d] }
  | _ => none }
def FnExactCrcWrongFalsely : Prop := fnExactCrcRow.holds Try.pinned (OpenSpec.ofChange fnExactCrcWrong)

/-- 'laws.FnExactFlagLetters': WHATEVER THE INPUT: true; the input reads as it did. -/
def fnExactFlagLettersSpec : ChangeSpec := { name := "fnExactFlagLetters", fn := fun _ => fun
  | [d] => { results := [.lit (.bool true)], args := [d] }
  | _ => none }
def fnExactFlagLettersRow : OpenClaim := { program := "ytokcdpamcbpaiaa", sum := "61bc532e89460db373c223ec4105772293dbb273f08dd12221aea1c9e8ad11cb", func := "loop.example/s02349/laws.FnExactFlagLetters", spec := "fnExactFlagLetters", inPlace := ["internal/abi.NoEscape"], apart := false }
def FnExactFlagLettersSaid : Prop := fnExactFlagLettersRow.holds Try.pinned (OpenSpec.ofChange fnExactFlagLettersSpec)

/-- ITS FALSE NEIGHBOUR: 'it returns false'. Refute it at one input. -/
def fnExactFlagLettersWrong : ChangeSpec := { name := "fnExactFlagLetters", fn := fun _ => fun
  | [d] => { results := [.lit (.bool false)], args := [d] }
  | _ => none }
def FnExactFlagLettersWrongFalsely : Prop := fnExactFlagLettersRow.holds Try.pinned (OpenSpec.ofChange fnExactFlagLettersWrong)

/-- 'laws.FnExactFlagList': WHATEVER THE INPUT: true; the input reads as it did. -/
def fnExactFlagListSpec : ChangeSpec := { name := "fnExactFlagList", fn := fun _ => fun
  | [d] => { results := [.lit (.bool true)], args := [d] }
  | _ => none }
def fnExactFlagListRow : OpenClaim := { program := "ytokcdpamcbpaiaa", sum := "61bc532e89460db373c223ec4105772293dbb273f08dd12221aea1c9e8ad11cb", func := "loop.example/s02349/laws.FnExactFlagList", spec := "fnExactFlagList", inPlace := ["internal/abi.NoEscape", "internal/bytealg.MakeNoZero"], apart := false }
def FnExactFlagListSaid : Prop := fnExactFlagListRow.holds Try.pinned (OpenSpec.ofChange fnExactFlagListSpec)

/-- ITS FALSE NEIGHBOUR: 'it returns false'. Refute it at one input. -/
def fnExactFlagListWrong : ChangeSpec := { name := "fnExactFlagList", fn := fun _ => fun
  | [d] => { results := [.lit (.bool false)], args := [d] }
  | _ => none }
def FnExactFlagListWrongFalsely : Prop := fnExactFlagListRow.holds Try.pinned (OpenSpec.ofChange fnExactFlagListWrong)

/-- 'laws.FnExactInSet': WHATEVER THE INPUT: true; the input reads as it did. -/
def fnExactInSetSpec : ChangeSpec := { name := "fnExactInSet", fn := fun _ => fun
  | [d1, d2, d3] => { results := [.lit (.bool true)], args := [d1, d2, d3] }
  | _ => none }
def fnExactInSetRow : OpenClaim := { program := "ytokcdpamcbpaiaa", sum := "61bc532e89460db373c223ec4105772293dbb273f08dd12221aea1c9e8ad11cb", func := "loop.example/s02349/laws.FnExactInSet", spec := "fnExactInSet", apart := false }
def FnExactInSetSaid : Prop := fnExactInSetRow.holds Try.pinned (OpenSpec.ofChange fnExactInSetSpec)

/-- ITS FALSE NEIGHBOUR: 'it returns false'. Refute it at one input. -/
def fnExactInSetWrong : ChangeSpec := { name := "fnExactInSet", fn := fun _ => fun
  | [d1, d2, d3] => { results := [.lit (.bool false)], args := [d1, d2, d3] }
  | _ => none }
def FnExactInSetWrongFalsely : Prop := fnExactInSetRow.holds Try.pinned (OpenSpec.ofChange fnExactInSetWrong)

/-- 'laws.FnExactLetterFlags': WHATEVER THE INPUT: true; the input reads as it did. -/
def fnExactLetterFlagsSpec : ChangeSpec := { name := "fnExactLetterFlags", fn := fun _ => fun
  | [d] => { results := [.lit (.bool true)], args := [d] }
  | _ => none }
def fnExactLetterFlagsRow : OpenClaim := { program := "ytokcdpamcbpaiaa", sum := "61bc532e89460db373c223ec4105772293dbb273f08dd12221aea1c9e8ad11cb", func := "loop.example/s02349/laws.FnExactLetterFlags", spec := "fnExactLetterFlags", apart := false }
def FnExactLetterFlagsSaid : Prop := fnExactLetterFlagsRow.holds Try.pinned (OpenSpec.ofChange fnExactLetterFlagsSpec)

/-- ITS FALSE NEIGHBOUR: 'it returns false'. Refute it at one input. -/
def fnExactLetterFlagsWrong : ChangeSpec := { name := "fnExactLetterFlags", fn := fun _ => fun
  | [d] => { results := [.lit (.bool false)], args := [d] }
  | _ => none }
def FnExactLetterFlagsWrongFalsely : Prop := fnExactLetterFlagsRow.holds Try.pinned (OpenSpec.ofChange fnExactLetterFlagsWrong)

/-- 'laws.FnExactQuote': WHATEVER THE INPUT: true; the input reads as it did. -/
def fnExactQuoteSpec : ChangeSpec := { name := "fnExactQuote", fn := fun _ => fun
  | [d] => { results := [.lit (.bool true)], args := [d] }
  | _ => none }
def fnExactQuoteRow : OpenClaim := { program := "ytokcdpamcbpaiaa", sum := "61bc532e89460db373c223ec4105772293dbb273f08dd12221aea1c9e8ad11cb", func := "loop.example/s02349/laws.FnExactQuote", spec := "fnExactQuote", inPlace := ["internal/bytealg.IndexByte"], unfollowed := true, recurses := true, apart := false }
def FnExactQuoteSaid : Prop := fnExactQuoteRow.holds Try.pinned (OpenSpec.ofChange fnExactQuoteSpec)

/-- ITS FALSE NEIGHBOUR: 'it returns false'. Refute it at one input. -/
def fnExactQuoteWrong : ChangeSpec := { name := "fnExactQuote", fn := fun _ => fun
  | [d] => { results := [.lit (.bool false)], args := [d] }
  | _ => none }
def FnExactQuoteWrongFalsely : Prop := fnExactQuoteRow.holds Try.pinned (OpenSpec.ofChange fnExactQuoteWrong)

/- THE SECOND FORM. 'bulk': how many values and letters a reading holds, each counted each time it is reached (what is shared counts as often as it is met; a slice's spare places count too). A statement '..UptoSaid' is the law's where the arguments, and the package variables that the reading takes, are together of bulk at most 1048576: NARROWER than '..Said'. Prove '..Said' where nothing that the law and all that it calls make is longer than what came in: it says more and counts as full. Else prove '..UptoSaid'. A law counts once. -/
mutual
def uptoBulk {H : Type} : DataW H → Nat
  | .lit (.string bytes) => bytes.length + 1
  | .lit _ => 1
  | .nil => 1
  | .ptr d => uptoBulk d + 1
  | .slice elems spare => uptoBulkAll elems + uptoBulkAll spare + 1
  | .agg parts => uptoBulkAll parts + 1
  | .iface _ d => uptoBulk d + 1
  | .map entries => uptoBulkEntries entries + 1
  | .held _ => 1
def uptoBulkAll {H : Type} : List (DataW H) → Nat
  | [] => 0
  | d :: r => uptoBulk d + uptoBulkAll r
def uptoBulkEntries {H : Type} : List (Lit × DataW H) → Nat
  | [] => 0
  | x :: r => uptoBulkEntry x + uptoBulkEntries r
def uptoBulkEntry {H : Type} : Lit × DataW H → Nat
  | (.string bytes, d) => bytes.length + uptoBulk d + 1
  | (_, d) => uptoBulk d + 1
 end
def uptoSmall : (H : Type) → List (DataW H) → Bool := fun _ ds => decide (uptoBulkAll ds ≤ 1048576)
def OpenSpec.upto (s : _root_.Go.ChangeSpec) : _root_.Go.OpenSpec := { _root_.Go.OpenSpec.ofChange s with cond := some uptoSmall }

/-- 'laws.FnExactCrc', WHERE WHAT IT READS IS OF BULK AT MOST 1048576: true; the input reads as it did. -/
def fnExactCrcUptoRow : OpenClaim := { program := "ytokcdpamcbpaiaa", sum := "61bc532e89460db373c223ec4105772293dbb273f08dd12221aea1c9e8ad11cb", func := "loop.example/s02349/laws.FnExactCrc", spec := "fnExactCrc", apart := false, narrowed := true }
def FnExactCrcUptoSaid : Prop := fnExactCrcUptoRow.holds Try.pinned (OpenSpec.upto fnExactCrcSpec)

/-- 'laws.FnExactFlagLetters', WHERE WHAT IT READS IS OF BULK AT MOST 1048576: true; the input reads as it did. -/
def fnExactFlagLettersUptoRow : OpenClaim := { program := "ytokcdpamcbpaiaa", sum := "61bc532e89460db373c223ec4105772293dbb273f08dd12221aea1c9e8ad11cb", func := "loop.example/s02349/laws.FnExactFlagLetters", spec := "fnExactFlagLetters", inPlace := ["internal/abi.NoEscape"], apart := false, narrowed := true }
def FnExactFlagLettersUptoSaid : Prop := fnExactFlagLettersUptoRow.holds Try.pinned (OpenSpec.upto fnExactFlagLettersSpec)

/-- 'laws.FnExactFlagList', WHERE WHAT IT READS IS OF BULK AT MOST 1048576: true; the input reads as it did. -/
def fnExactFlagListUptoRow : OpenClaim := { program := "ytokcdpamcbpaiaa", sum := "61bc532e89460db373c223ec4105772293dbb273f08dd12221aea1c9e8ad11cb", func := "loop.example/s02349/laws.FnExactFlagList", spec := "fnExactFlagList", inPlace := ["internal/abi.NoEscape", "internal/bytealg.MakeNoZero"], apart := false, narrowed := true }
def FnExactFlagListUptoSaid : Prop := fnExactFlagListUptoRow.holds Try.pinned (OpenSpec.upto fnExactFlagListSpec)

/-- 'laws.FnExactInSet', WHERE WHAT IT READS IS OF BULK AT MOST 1048576: true; the input reads as it did. -/
def fnExactInSetUptoRow : OpenClaim := { program := "ytokcdpamcbpaiaa", sum := "61bc532e89460db373c223ec4105772293dbb273f08dd12221aea1c9e8ad11cb", func := "loop.example/s02349/laws.FnExactInSet", spec := "fnExactInSet", apart := false, narrowed := true }
def FnExactInSetUptoSaid : Prop := fnExactInSetUptoRow.holds Try.pinned (OpenSpec.upto fnExactInSetSpec)

/-- 'laws.FnExactLetterFlags', WHERE WHAT IT READS IS OF BULK AT MOST 1048576: true; the input reads as it did. -/
def fnExactLetterFlagsUptoRow : OpenClaim := { program := "ytokcdpamcbpaiaa", sum := "61bc532e89460db373c223ec4105772293dbb273f08dd12221aea1c9e8ad11cb", func := "loop.example/s02349/laws.FnExactLetterFlags", spec := "fnExactLetterFlags", apart := false, narrowed := true }
def FnExactLetterFlagsUptoSaid : Prop := fnExactLetterFlagsUptoRow.holds Try.pinned (OpenSpec.upto fnExactLetterFlagsSpec)

/-- 'laws.FnExactQuote', WHERE WHAT IT READS IS OF BULK AT MOST 1048576: true; the input reads as it did. -/
def fnExactQuoteUptoRow : OpenClaim := { program := "ytokcdpamcbpaiaa", sum := "61bc532e89460db373c223ec4105772293dbb273f08dd12221aea1c9e8ad11cb", func := "loop.example/s02349/laws.FnExactQuote", spec := "fnExactQuote", inPlace := ["internal/bytealg.IndexByte"], unfollowed := true, recurses := true, apart := false, narrowed := true }
def FnExactQuoteUptoSaid : Prop := fnExactQuoteUptoRow.holds Try.pinned (OpenSpec.upto fnExactQuoteSpec)

end Rows
end Go.Proofs.Ytokcdpamcbpaiaa
