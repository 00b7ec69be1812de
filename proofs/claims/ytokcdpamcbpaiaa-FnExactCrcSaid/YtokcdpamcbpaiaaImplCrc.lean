import Derived.Test.YtokcdpamcbpaiaaCrcOver
namespace Go.Proofs.Ytokcdpamcbpaiaa
open Go.RowKit
/-- impl.Crc gives the sum of the bytes and leaves the world as it was. -/
theorem implCrc_any (a : Option Addr) (cap : Nat) (l : List Nat) (w : World) (hl : l.length ≤ 1048576) (hr : RowAt w a l) (hb : ∀ x ∈ l, x < 256) :
    Calls Try.prog 11 #[.slice a l.length cap] w fun e w' => e = .returned (.int .u32 ((crcOf l : Nat) : Int)) ∧ w' = w := by
  have hcl : crcFold 4294967295 l < 4294967296 := crcFold_lt _ hb _ (by decide)
  go_enter Try.func11, Try.ntmps11
  go_wp2_with fail
  refine (crcOver_any 4294967295 a cap l w (by decide) hl hr hb).mono ?_
  rintro e w' ⟨rfl, rfl⟩
  go_wp2
  go_ret
  exact ⟨ret_int (by rw [out_eq _ hcl]; rfl), rfl⟩
end Go.Proofs.Ytokcdpamcbpaiaa
