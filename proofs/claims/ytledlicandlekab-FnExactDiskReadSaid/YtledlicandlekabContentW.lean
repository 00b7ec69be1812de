import Derived.Test.YtledlicandlekabDiskRd
import Derived.Test.YtledlicandlekabMarkD4
import Derived.Test.YtledlicandlekabMarks
namespace Go.Proofs.Ytledlicandlekab
open Go.RowKit
theorem eqContent_any (a a' : Option Addr) (cap cap' : Nat) (f : Bool) (l : List Nat) (w : World) (hl : l.length ≤ 9223372036854775807) (hr : RowAt w a l) (hr' : RowAt w a' l) :
    Calls Try.prog 9 #[.agg #[.bool f, .slice a l.length cap], .agg #[.bool f, .slice a' l.length cap']] w fun e w' => e = .returned (.bool true) ∧ Below w.heap.size w w' := by
  have hb1 : Below w.heap.size w ((w.alloc (.cells #[.bool f, .slice a l.length cap] 30)).alloc (.cells #[.bool f, .slice a' l.length cap'] 30)) := ((Below.refl _ _).alloc (Nat.le_refl _) _).alloc (by simp) _
  have h1 := hr.below hb1
  have h2 := hr'.below hb1
  have hne : (f != f) = false := by simp
  go_enter Try.func9, Try.ntmps9
  go_wp2_with fail
  refine (eqByteS_any a a' cap cap' l l _ hl h1 h2).mono ?_
  rintro e w2 ⟨rfl, n2, rfl⟩
  rw [decide_eq_true (rfl : l = l)]
  go_wp2
  go_ret
  exact ⟨rfl, below_drewN hb1 _⟩
theorem markContent_any (base hi k : Nat) (a : Option Addr) (cap : Nat) (f : Bool) (l : List Nat) (w : World) (hk : k ≤ 4503599627370496) (hl : l.length ≤ 4503599627370496) (hown : OwnB w base (.slice a l.length cap) l) (hin : ∀ j, (Value.slice a l.length cap).ownBlock = some j → j < hi) :
    Calls Try.prog 12 #[.agg #[.bool f, .slice a l.length cap], .int .i64 (k : Int)] w fun e w' => e = .returned (.int .i64 ((k + l.length : Nat) : Int)) ∧ OwnB w' base (.slice a l.length cap) (marks k l.length) ∧ Out base hi w w' := by
  have hb1 : Below w.heap.size w (w.alloc (.cells #[.bool f, .slice a l.length cap] 30)) := (Below.refl _ _).alloc (Nat.le_refl _) _
  have HLT := hide (fun j hj => And.intro (World.ownsRow.lt hown j hj).1 (hin j hj))
  clear hin
  go_enter Try.func12, Try.ntmps12
  go_wp2_with fail
  refine (markByteS_any base a cap k l _ hk hl (hown.below hb1 (Nat.le_refl _))).mono ?_
  rintro e w2 ⟨rfl, o2, t2, _⟩
  go_wp2
  go_ret
  exact ⟨rfl, o2, (Out.of_below hb1).trans (Out.of_grown t2 (fun j hj => HLT.out j hj))⟩
theorem heldContent_any (a : Option Addr) (cap k n : Nat) (f : Bool) (w : World) (hk : k ≤ 4503599627370496) (hl : n ≤ 4503599627370496) (hr : RowAt w a (marks k n)) :
    Calls Try.prog 13 #[.agg #[.bool f, .slice a n cap], .int .i64 (k : Int)] w fun e w' => e = .returned (.int .i64 ((k + n : Nat) : Int)) ∧ Below w.heap.size w w' := by
  have hb1 : Below w.heap.size w (w.alloc (.cells #[.bool f, .slice a n cap] 30)) := (Below.refl _ _).alloc (Nat.le_refl _) _
  have h1 := hr.below hb1
  have hpos : ¬ (((k + n : Nat) : Int)) < 0 := by omega
  go_enter Try.func13, Try.ntmps13
  go_wp2_with fail
  refine (heldByteS_any a cap k n _ hk hl h1).mono ?_
  rintro e w2 ⟨rfl, rfl⟩
  generalize hz : ((k + n : Nat) : Int) = z at hpos ⊢
  have HZ := hide hz
  clear hz
  go_wp2
  go_ret
  exact ⟨by rw [HZ.out]; rfl, hb1⟩
end Go.Proofs.Ytledlicandlekab
