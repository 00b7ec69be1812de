import Derived.Test.YtpdbolihakojcaaGreatDoorRows
import Derived.ProofKit
import Derived.JoinedOf
import Derived.RowKitTokens
namespace Go.Proofs.YtpdbolihakojcaaGreatDoor.LkRow
set_option maxRecDepth 20000
open Go.ChangeShapes Go.WideShapes Go.ChangeAt Go.RowKit
theorem KZ:joinedFacts Tryz.pinned.checked.prog 3 Tryz.f3 Rows.fnExactLookSpec Rows.fnExactLookRow=true:=by kernel_rfl
end Go.Proofs.YtpdbolihakojcaaGreatDoor.LkRow
