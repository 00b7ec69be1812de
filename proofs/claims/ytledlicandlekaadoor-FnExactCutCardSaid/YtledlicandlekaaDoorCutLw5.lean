import Derived.Test.YtledlicandlekaaDoorCutLw4
namespace Go.Proofs.YtledlicandlekaaDoor
open Go.RowKit
set_option maxHeartbeats 1000000 in
theorem heldUnits_any (a p : Option Addr) (cap q k n : Nat) (us : List UnitM) (w : World) (hk : kAt k us us.length ≤ 4503599627370496) (hl : us.length ≤ 4503599627370496) (hn : n ≤ 1048576) (hr : UnAt w a (mus k us)) (hs : RowAt w p (marks (kAt k us us.length) n)) :
    Calls Tryd.prog 13 #[.agg #[.slice a us.length cap, .slice p n q], .int .i64 (k : Int)] w fun e w' => e = .returned (.int .i64 ((kAt k us us.length + n : Nat) : Int)) ∧ Below w.heap.size w w' := by
  have hb := (Below.refl w.heap.size w).alloc (Nat.le_refl _) (.cells #[.slice a us.length cap, .slice p n q] 25)
  have H1 := hide (heldUnitS_any a cap k us _ hk hl (hr.below hb))
  have H2 := hide (heldByteS_any p q (kAt k us us.length) n _ hk (by omega) (hs.below hb))
  have q1 : (w.alloc (.cells #[.slice a us.length cap, .slice p n q] 25)).cell? ⟨w.heap.size, 1, none⟩ = some (.slice p n q) := (blk_new w #[.slice a us.length cap, .slice p n q] 25).cell 1
  have HB := hide hb
  have hk0 : ¬ ((kAt k us us.length : Nat) : Int) < 0 := by omega
  have hk1 : ¬ ((kAt k us us.length + n : Nat) : Int) < 0 := by omega
  clear hr hs hb
  generalize hK : kAt k us us.length = K at *
  generalize hR : K + n = R at *
  clear hK hR
  go_enter Tryd.func13, Tryd.ntmps13
  go_wp2_with fail
  generalize w.alloc (.cells #[.slice a us.length cap, .slice p n q] 25) = w1 at H1 H2 HB q1 ⊢
  refine H1.out.mono ?_
  rintro e w2 ⟨rfl, rfl⟩
  go_wp2_with fail
  refine H2.out.mono ?_
  rintro e w3 ⟨rfl, rfl⟩
  go_wp2
  go_ret
  exact ⟨rfl, HB.out⟩
end Go.Proofs.YtledlicandlekaaDoor
