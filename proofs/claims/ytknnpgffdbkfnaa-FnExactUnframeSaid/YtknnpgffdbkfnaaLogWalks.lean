import Derived.Test.YtknnpgffdbkfnaaImplUnf2
import Derived.Test.YtknnpgffdbkfnaaListMarks
namespace Go.Proofs.Ytknnpgffdbkfnaa
open Go.RowKit
theorem eqLog_any (a a' : Option Addr) (cap cap' g : Nat) (ls : List (List Nat)) (w : World) (hl : ls.length ≤ 9223372036854775807) (hls : ∀ l ∈ ls, l.length ≤ 9223372036854775807) (hr : RowsAt w a ls) (hr' : RowsAt w a' ls) :
    Calls Try.prog 18 #[.agg #[.slice a ls.length cap, .int .i64 (g : Int)], .agg #[.slice a' ls.length cap', .int .i64 (g : Int)]] w fun e w' => e = .returned (.bool true) ∧ Below w.heap.size w w' := by
  have hb1 : Below w.heap.size w ((w.alloc (.cells #[.slice a ls.length cap, .int .i64 (g : Int)] 32)).alloc (.cells #[.slice a' ls.length cap', .int .i64 (g : Int)] 32)) := ((Below.refl _ _).alloc (Nat.le_refl _) _).alloc (by simp) _
  have h1 := hr.below hb1
  have h2 := hr'.below hb1
  have hne : ((g : Int) != (g : Int)) = false := by simp
  go_enter Try.func18, Try.ntmps18
  go_wp2_with fail
  refine (eqByteSS_any a a' cap cap' ls ls _ hl hls h1 h2).mono ?_
  rintro e w2 ⟨rfl, n2, rfl⟩
  rw [decide_eq_true (rfl : ls = ls)]
  go_wp2
  go_ret
  exact ⟨rfl, below_drewN hb1 _⟩
theorem markLog_any (lo hi k : Nat) (a : Option Addr) (cap g : Nat) (ls : List (List Nat)) (vs : List Value) (w : World) (hk : k + sumL ls ≤ 4503599627370496) (hl : ls.length ≤ 4503599627370496) (hown : OwnBV w lo (.slice a ls.length cap) vs ls) (hin : ∀ x ∈ vs, ∀ g, x.ownBlock = some g → g < hi) :
    Calls Try.prog 19 #[.agg #[.slice a ls.length cap, .int .i64 (g : Int)], .int .i64 (k : Int)] w fun e w' => e = .returned (.int .i64 ((k + sumL ls : Nat) : Int)) ∧ OwnBV w' lo (.slice a ls.length cap) vs (marksS k ls) ∧ Out lo hi w w' := by
  have hb1 : Below w.heap.size w (w.alloc (.cells #[.slice a ls.length cap, .int .i64 (g : Int)] 32)) := (Below.refl _ _).alloc (Nat.le_refl _) _
  go_enter Try.func19, Try.ntmps19
  go_wp2_with fail
  refine (markByteSS_any lo hi k a cap ls vs _ hk hl (hown.below hb1 (Nat.le_refl _)) hin).mono ?_
  rintro e w2 ⟨rfl, o2, t2, _⟩
  go_wp2
  go_ret
  exact ⟨rfl, o2, (Out.of_below hb1).trans t2⟩
theorem heldByteSS_any (k : Nat) (a : Option Addr) (cap : Nat) (ls : List (List Nat)) (w : World) (hk : k + sumL ls ≤ 4503599627370496) (hl : ls.length ≤ 4503599627370496) (hr : RowsAt w a (marksS k ls)) :
    Calls Try.prog 33 #[.slice a ls.length cap, .int .i64 (k : Int)] w fun e w' => e = .returned (.int .i64 ((k + sumL ls : Nat) : Int)) ∧ w' = w := by
  go_enter Try.func33, Try.ntmps33
  go_wp2
  go_loop [1, 5] (fun s i => ∃ j : Nat, j ≤ ls.length ∧ i = .int .i64 j ∧ s = .int .i64 ((k + sumL (ls.take j) : Nat) : Int)) (fun _ i => ls.length - (intOf i).toNat)
  case atStart => exact ⟨0, Nat.zero_le _, rfl, val_int (by simp [sumL])⟩
  case round =>
    obtain ⟨j, hj, rfl, rfl⟩ := hrel
    by_cases hlt : j < ls.length
    · have hml := marksS_length k ls
      obtain ⟨b, off, rfl, hc⟩ := hr (by omega)
      obtain ⟨ai, ci, hck, hri⟩ := hc j (by omega)
      have hat := marksS_at k ls j hlt (by omega)
      rw [hat] at hck hri
      rw [marks_length] at hck
      have hs1 := sumL_take_le ls (j + 1)
      have HS : Hid (sumL (ls.take (j + 1)) = sumL (ls.take j) + ls[j].length) := sumL_take_succ ls j hlt
      have hs2 : k + sumL (ls.take j) ≤ 4503599627370496 := by have := HS.out; omega
      have hs3 : ls[j].length ≤ 4503599627370496 := by have := HS.out; omega
      clear hc hr hml hat hs1
      generalize sumL (ls.take j) = s0 at *
      have hneg : ¬ (k : Int) + s0 + ls[j].length < 0 := by omega
      go_wp2_with fail
      refine (heldByteS_any ai ci (k + s0) ls[j].length w hs2 hs3 hri).mono ?_
      rintro e w1 ⟨rfl, rfl⟩
      go_wp2
      go_round
      case rel => exact ⟨j + 1, by omega, by go_num, val_int (by rw [HS.out]; omega)⟩
      case measure => simp [intOf]; omega
    · obtain rfl : j = ls.length := by omega
      go_wp2
      go_ret
      exact ⟨ret_int (by simp), rfl⟩
theorem heldLog_any (k : Nat) (a : Option Addr) (cap g : Nat) (ls : List (List Nat)) (w : World) (hk : k + sumL ls ≤ 4503599627370496) (hl : ls.length ≤ 4503599627370496) (hr : RowsAt w a (marksS k ls)) :
    Calls Try.prog 20 #[.agg #[.slice a ls.length cap, .int .i64 (g : Int)], .int .i64 (k : Int)] w fun e w' => e = .returned (.int .i64 ((k + sumL ls : Nat) : Int)) ∧ Below w.heap.size w w' := by
  have hb1 : Below w.heap.size w (w.alloc (.cells #[.slice a ls.length cap, .int .i64 (g : Int)] 32)) := (Below.refl _ _).alloc (Nat.le_refl _) _
  have hneg : ¬ (k : Int) + (sumL ls : Nat) < 0 := by omega
  go_enter Try.func20, Try.ntmps20
  go_wp2_with fail
  refine (heldByteSS_any k a cap ls _ hk hl (hr.below hb1)).mono ?_
  rintro e w2 ⟨rfl, rfl⟩
  go_wp2
  go_ret
  exact ⟨rfl, hb1⟩
end Go.Proofs.Ytknnpgffdbkfnaa
