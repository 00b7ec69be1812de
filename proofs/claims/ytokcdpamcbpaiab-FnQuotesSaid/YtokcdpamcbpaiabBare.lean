import Derived.Test.YtokcdpamcbpaiabAppAt
namespace Go.Proofs.Ytokcdpamcbpaiab
open Go.RowKit
def headW : List Nat := [70, 114, 111, 109, 32, 109, 97, 105, 108, 10]
/-- A text with bytes and no line's end behind them. -/
def bareB (d : List Nat) : Bool := if h : 0 < d.length then decide (d[d.length - 1] ≠ 10) else false
theorem headRow (w : World) : RowAt (w.alloc (.cells #[.int .u8 70, .int .u8 114, .int .u8 111, .int .u8 109, .int .u8 32, .int .u8 109, .int .u8 97, .int .u8 105, .int .u8 108, .int .u8 10] 5 (10, 11))) (some ⟨w.heap.size, 0, none⟩) headW := fun _ => by
  refine ⟨w.heap.size, 0, rfl, fun i hi => ?_⟩
  rw [cell_of_row _ _ _ _ 5 (10, 11) (heap_alloc_new w _)]
  simp only [headW, List.length_cons, List.length_nil] at hi
  match i with
  | 0 => rfl
  | 1 => rfl
  | 2 => rfl
  | 3 => rfl
  | 4 => rfl
  | 5 => rfl
  | 6 => rfl
  | 7 => rfl
  | 8 => rfl
  | 9 => rfl
  | i + 10 => omega
theorem implBare_any (b off cap : Nat) (d : List Nat) (w : World) (hd : d.length ≤ 1048576) (hT : TextAt w b off d) :
    Calls Try.prog 30 #[.slice (some ⟨b, off, none⟩) d.length cap] w fun e w' => e = .returned (.bool (bareB d)) ∧ w' = w := by
  by_cases h0 : 0 < d.length
  · have hc := hT (d.length - 1) (by omega)
    obtain ⟨n, hn⟩ : ∃ n, d.length = n + 1 := ⟨d.length - 1, by omega⟩
    have hb : bareB d = decide (d[d.length - 1] ≠ 10) := by unfold bareB; rw [dif_pos h0]
    generalize d[d.length - 1] = y at hc hb
    rw [show d.length - 1 = n from by omega] at hc
    have HB := hide hb
    clear hb hT
    rw [hn]
    have hi : (0 : Int) ≤ (n : Int) := by omega
    have he : ((n : Int) + 1 - 1) = (n : Int) := by omega
    by_cases hy : y = 10
    · subst hy
      go_enter Try.func30, Try.ntmps30
      go_wp2
      go_ret
      exact ⟨by rw [HB.out]; rfl, rfl⟩
    · have hq : ((y : Int) != 10) = true := by simp; omega
      go_enter Try.func30, Try.ntmps30
      go_wp2
      go_ret
      exact ⟨by rw [HB.out, decide_eq_true hy]; simp, rfl⟩
  · have hz : d = [] := List.eq_nil_of_length_eq_zero (by omega)
    subst hz
    go_enter Try.func30, Try.ntmps30
    go_wp2
    go_ret
    exact ⟨rfl, rfl⟩
theorem specBare_any (b off cap : Nat) (d : List Nat) (w : World) (hd : d.length ≤ 1048576) (hT : TextAt w b off d) :
    Calls Try.prog 34 #[.slice (some ⟨b, off, none⟩) d.length cap] w fun e w' => e = .returned (.bool (bareB d)) ∧ w' = w := by
  by_cases h0 : 0 < d.length
  · have hc := hT (d.length - 1) (by omega)
    obtain ⟨n, hn⟩ : ∃ n, d.length = n + 1 := ⟨d.length - 1, by omega⟩
    have hb : bareB d = decide (d[d.length - 1] ≠ 10) := by unfold bareB; rw [dif_pos h0]
    generalize d[d.length - 1] = y at hc hb
    rw [show d.length - 1 = n from by omega] at hc
    have HB := hide hb
    clear hb hT
    rw [hn]
    have hi : (0 : Int) ≤ (n : Int) := by omega
    have he : ((n : Int) + 1 - 1) = (n : Int) := by omega
    by_cases hy : y = 10
    · subst hy
      go_enter Try.func34, Try.ntmps34
      go_wp2
      go_ret
      exact ⟨by rw [HB.out]; rfl, rfl⟩
    · have hq : ((y : Int) != 10) = true := by simp; omega
      go_enter Try.func34, Try.ntmps34
      go_wp2
      go_ret
      exact ⟨by rw [HB.out, decide_eq_true hy]; simp, rfl⟩
  · have hz : d = [] := List.eq_nil_of_length_eq_zero (by omega)
    subst hz
    go_enter Try.func34, Try.ntmps34
    go_wp2
    go_ret
    exact ⟨rfl, rfl⟩
end Go.Proofs.Ytokcdpamcbpaiab
