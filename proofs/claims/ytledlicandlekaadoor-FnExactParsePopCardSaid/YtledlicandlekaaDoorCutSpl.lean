import Derived.Test.YtledlicandlekaaDoorCutSp
import Derived.Test.YtledlicandlekaaDoorStrRow
import Derived.Test.YtledlicandlekaaDoorSplMath
import Derived.Test.YtledlicandlekaaDoorBytL
namespace Go.Proofs.YtledlicandlekaaDoor
open Go.RowKit
def szS : Value → Nat
  | .string t => t.size
  | _ => 0
theorem cut_split {t a c : List UInt8} {b : UInt8} {ok : Bool} (h : CutIs t b a c ok) : (ok = true → splitOf b t = a :: splitOf b c ∧ c.length + 1 ≤ t.length) ∧ (ok = false → splitOf b t = [a]) := by
  rcases h with ⟨h1, h2, h3⟩ | ⟨h1, h2, h3, h4⟩
  · refine ⟨fun _ => ⟨?_, ?_⟩, (fun h => by rw [h1] at h; cases h)⟩
    · rw [h2, splitOf_at h3]
    · rw [h2]; simp
  · refine ⟨(fun h => by rw [h1] at h; cases h), fun _ => ?_⟩
    rw [h3, splitOf_no h2]
end Go.Proofs.YtledlicandlekaaDoor
