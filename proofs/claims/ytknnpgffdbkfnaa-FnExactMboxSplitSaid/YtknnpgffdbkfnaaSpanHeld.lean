import Derived.Test.YtknnpgffdbkfnaaSpanMarks
namespace Go.Proofs.Ytknnpgffdbkfnaa
open Go.RowKit
theorem heldSpanS_any (k : Nat) (a : Option Addr) (cap : Nat) (xs : List SP) (w : World) (hk : k + sumX xs ≤ 4503599627370496) (hr : SpansAt w a (marksX k xs)) :
    Calls Try.prog 42 #[.slice a xs.length cap, .int .i64 (k : Int)] w fun e w' => e = .returned (.int .i64 ((k + sumX xs : Nat) : Int)) ∧ w' = w := by
  have hcl := count_le_sumX xs
  go_enter Try.func42, Try.ntmps42
  go_wp2
  go_loop [1, 5] (fun s i => ∃ j : Nat, j ≤ xs.length ∧ i = .int .i64 j ∧ s = .int .i64 ((k + sumX (xs.take j) : Nat) : Int)) (fun _ i => xs.length - (intOf i).toNat)
  case atStart => exact ⟨0, Nat.zero_le _, rfl, val_int (by simp [sumX])⟩
  case round =>
    obtain ⟨j, hj, rfl, rfl⟩ := hrel
    by_cases hlt : j < xs.length
    · have hml := marksX_length k xs
      obtain ⟨b, off, rfl, hc⟩ := hr (by omega)
      obtain ⟨ai, ci, c0, c1, c2, hri⟩ := hc j (by omega)
      have hat := marksX_at k xs j hlt (by omega)
      rw [hat] at c0 c1 c2 hri
      simp only at c0 c1 c2 hri
      rw [marks_length] at c2
      have hs1 := sumX_take_le xs (j + 1)
      have HS := hide (sumX_take_succ xs j hlt)
      have hs2 : k + sumX (xs.take j) + 2 ≤ 4503599627370496 := by have := HS.out; omega
      have hs3 : xs[j].2.2.length ≤ 4503599627370496 := by have := HS.out; omega
      clear hc hr hml hat hs1
      generalize sumX (xs.take j) = s0 at *
      generalize hn : xs[j].2.2.length = n at *
      have e0 : (((k + s0 : Nat)) : Int) = (k : Int) + (s0 : Int) := by omega
      have e1 : (((k + s0 + 1 : Nat)) : Int) = (k : Int) + (s0 : Int) + 1 := by omega
      rw [e0] at c0
      rw [e1] at c1
      have hneg : ¬ (k : Int) + s0 + 2 + n < 0 := by omega
      have hneg' : ¬ (k : Int) + s0 + 1 + 1 + n < 0 := by omega
      have hq0 : (((k : Int) + (s0 : Int)) != ((k : Int) + (s0 : Int))) = false := by simp
      have hq1 : (((k : Int) + (s0 : Int) + 1) != ((k : Int) + (s0 : Int) + 1)) = false := by simp
      have HR := hide hri
      clear hri e0 e1
      go_wp2_with fail
      refine (heldByteS_any ai ci (k + s0 + 2) n w hs2 hs3 HR.out).mono ?_
      rintro e w1 ⟨rfl, rfl⟩
      go_wp2
      go_round
      case rel => exact ⟨j + 1, by omega, by go_num, val_int (by have := HS.out; omega)⟩
      case measure => simp [intOf]; omega
    · obtain rfl : j = xs.length := by omega
      go_wp2
      go_ret
      exact ⟨ret_int (by simp), rfl⟩
theorem markSpans_any (lo hi k : Nat) (ok : Bool) (a : Option Addr) (cap : Nat) (xs : List SP) (vs : List S3) (w : World) (hk : k + sumX xs ≤ 4503599627370496) (hown : OwnX w lo (.slice a xs.length cap) vs xs) (hrow : ∀ g, (Value.slice a xs.length cap).ownBlock = some g → g < hi) (hin : ∀ x ∈ vs.map (·.2.2), ∀ g, Value.ownBlock x = some g → g < hi) :
    Calls Try.prog 24 #[.agg #[.bool ok, .slice a xs.length cap], .int .i64 (k : Int)] w fun e w' => e = .returned (.int .i64 ((k + sumX xs : Nat) : Int)) ∧ (∃ vs', OwnX w' lo (.slice a xs.length cap) vs' (marksX k xs)) ∧ Out lo hi w w' := by
  have hb1 : Below w.heap.size w (w.alloc (.cells #[.bool ok, .slice a xs.length cap] 40)) := (Below.refl _ _).alloc (Nat.le_refl _) _
  go_enter Try.func24, Try.ntmps24
  go_wp2_with fail
  refine (markSpanS_any lo hi k a cap xs vs _ hk (hown.below hb1 (Nat.le_refl _)) hrow hin).mono ?_
  rintro e w2 ⟨rfl, o2, t2⟩
  go_wp2
  go_ret
  exact ⟨rfl, o2, (Out.of_below hb1).trans t2⟩
theorem heldSpans_any (k : Nat) (ok : Bool) (a : Option Addr) (cap : Nat) (xs : List SP) (w : World) (hk : k + sumX xs ≤ 4503599627370496) (hr : SpansAt w a (marksX k xs)) :
    Calls Try.prog 25 #[.agg #[.bool ok, .slice a xs.length cap], .int .i64 (k : Int)] w fun e w' => e = .returned (.int .i64 ((k + sumX xs : Nat) : Int)) ∧ Below w.heap.size w w' := by
  have hb1 : Below w.heap.size w (w.alloc (.cells #[.bool ok, .slice a xs.length cap] 40)) := (Below.refl _ _).alloc (Nat.le_refl _) _
  have hneg : ¬ (k : Int) + (sumX xs : Nat) < 0 := by omega
  go_enter Try.func25, Try.ntmps25
  go_wp2_with fail
  refine (heldSpanS_any k a cap xs _ hk (hr.below hb1)).mono ?_
  rintro e w2 ⟨rfl, rfl⟩
  go_wp2
  go_ret
  exact ⟨rfl, hb1⟩
end Go.Proofs.Ytknnpgffdbkfnaa
