import Derived.Test.YtknnpgffdbkfnaaLinesIter
import Derived.Test.YtknnpgffdbkfnaaMarkB
namespace Go.Proofs.Ytknnpgffdbkfnaa
open Go.RowKit
theorem text_of_own {w : World} {base g n cap : Nat} {l : List Nat} (h : OwnB w base (.slice (some ⟨g, 0, none⟩) n cap) l) : TextAt w g 0 l := fun i hi => by
  rw [Nat.zero_add]
  exact h.cellAt i hi
theorem below_more {w w1 w2 : World} (h : Below w.heap.size w w1) (k : Below w1.heap.size w1 w2) : Below w.heap.size w w2 := h.trans (k.mono h.size)
theorem drewn_below {w w1 : World} {n : Nat} (h : w1 = w.drewN n) : Below w.heap.size w w1 := by rw [h]; exact below_drewN (Below.refl _ _) n
end Go.Proofs.Ytknnpgffdbkfnaa
