import Derived.Test.YtknnpgffdbkfnaaDoorDrawNm
namespace Go.Proofs.YtknnpgffdbkfnaaDoor
open Go.RowKit
def DrawnPost (w : World) (e : Ending) (w' : World) : Prop := ∃ (u f : Nat) (s : Int), e = .returned (.tuple #[.int .u32 (u : Int), .int .i64 s, .int .u32 (f : Int)]) ∧ u < 4294967296 ∧ f < 2147483648 ∧ -1 ≤ s ∧ s < 2000000000000 ∧ Below w.heap.size w w'
set_option maxRecDepth 20000 in
set_option maxHeartbeats 1000000 in
theorem drawMailName_any (a : Option Addr) (cap : Nat) (code : List Nat) (w : World) (hc : CodeIn w a code) :
    Calls Tryd.prog 9 #[.slice a code.length cap] w (DrawnPost w) := by
  have hrd0 : RdIn w (w.alloc (.cells #[.slice a code.length cap, .int .i64 0] 55)) w.heap.size a cap code 0 := by
    have h := heap_alloc_new w (.cells #[.slice a code.length cap, .int .i64 0] 55)
    refine ⟨?_, (Below.refl _ _).alloc (Nat.le_refl _) _, Nat.le_refl _⟩
    unfold Rd
    rw [h]
    simp
  have H0 := hide hrd0
  have HC := hide hc
  clear hrd0 hc
  go_enter Tryd.func9, Tryd.ntmps9
  go_wp2_with fail
  refine (l4Uid_in HC.out H0.out).mono ?_
  rintro e w1 ⟨u, j1, rfl, hu0, hu1, h1⟩
  obtain ⟨u, rfl⟩ := Int.eq_ofNat_of_zero_le hu0
  have H1 := hide h1
  clear h1 H0
  go_wp2_with fail
  refine (l4Stamp_in HC.out H1.out).mono ?_
  rintro e w2 ⟨s, j2, rfl, hs0, hs1, h2⟩
  have H2 := hide h2
  clear h2 H1
  go_wp2_with fail
  refine (l4Flags_in HC.out H2.out).mono ?_
  rintro e w3 ⟨f, j3, rfl, hf0, hf1, h3⟩
  obtain ⟨f, rfl⟩ := Int.eq_ofNat_of_zero_le hf0
  have H3 := hide h3
  clear h3 H2
  go_wp2
  go_ret3
  exact ⟨u, f, s, rfl, by omega, by omega, hs0, hs1, H3.out.low⟩
end Go.Proofs.YtknnpgffdbkfnaaDoor
