import Derived.Test.YtokcdpamcbpaiaaBytes
import Derived.Test.YtokcdpamcbpaiaaSpecCrc
import Derived.Test.YtokcdpamcbpaiaaImplCrc
namespace Go.Proofs.Ytokcdpamcbpaiaa
open Go.RowKit
theorem crc_small (a0 : Option Addr) (cap0 : Nat) (l : List Nat) (w : World) (hl : l.length ≤ 1048576) (hr : RowAt w a0 l) (hb : ∀ x ∈ l, x < 256) :
    Calls Try.prog 3 #[.slice a0 l.length cap0] w fun e w' => e = .returned (.bool true) ∧ Below w.heap.size w w' := by
  go_enter Try.func3, Try.ntmps3
  go_wp2_with fail
  refine (toByteS_any a0 cap0 l w hl hr).mono ?_
  rintro e w1 ⟨rfl, ho1, hb1⟩
  go_wp2_with fail
  refine (specCrc_any _ _ l w1 hl ho1.row hb).mono ?_
  rintro e w2 ⟨rfl, rfl⟩
  go_wp2_with fail
  refine (toByteS_any a0 cap0 l w2 hl (hr.below hb1)).mono ?_
  rintro e w3 ⟨rfl, ho3, hb3⟩
  go_wp2_with fail
  refine (implCrc_any _ _ l w3 hl ho3.row hb).mono ?_
  rintro e w4 ⟨rfl, rfl⟩
  go_wp2_with fail
  have hb4 : Below w.heap.size w w4 := hb1.trans (hb3.mono hb1.size)
  refine (toByteS_any a0 cap0 l w4 hl (hr.below hb4)).mono ?_
  rintro e w5 ⟨rfl, ho5, hb5⟩
  go_wp2_with fail
  refine (eqByteS_any _ _ _ _ l l w5 (by omega) (ho3.below hb5 (Nat.le_refl _)).row ho5.row).mono ?_
  rintro e w6 ⟨rfl, n6, rfl⟩
  rw [decide_eq_true (rfl : l = l)]
  go_wp2
  go_ret
  exact ⟨rfl, below_drewN (hb4.trans (hb5.mono hb4.size)) _⟩
end Go.Proofs.Ytokcdpamcbpaiaa
