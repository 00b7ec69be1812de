import Derived.Test.YtkkdfgnnlpohlaaGreatDoorRows
import Derived.ProofKit
import Derived.JoinedOf
import Derived.RowKitTokens
namespace Go.Proofs.YtkkdfgnnlpohlaaGreatDoor.MnRow
set_option maxRecDepth 20000
open Go.ChangeShapes Go.WideShapes Go.ChangeAt Go.RowKit
theorem MW:joinedFacts Tryz.pinned.checked.prog 3 Tryz.f3 Rows.fnExactMendSpec Rows.fnExactMendRow=true:=by kernel_rfl
end Go.Proofs.YtkkdfgnnlpohlaaGreatDoor.MnRow
