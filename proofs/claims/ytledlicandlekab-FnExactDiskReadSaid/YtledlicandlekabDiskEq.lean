import Derived.Test.YtledlicandlekabDiskTo6
import Derived.Deep.RegionWith
namespace Go.Proofs.Ytledlicandlekab
open Go.RowKit
theorem eqEntry_same (s : ByteArray) (n : Int) (w : World) :
    Calls Try.prog 67 #[.agg #[.string s, .int .i64 n], .agg #[.string s, .int .i64 n]] w fun e w' => e = .returned (.bool true) ∧ Below w.heap.size w w' := by
  go_enter Try.func67, Try.ntmps67
  go_wp2
  go_ret
  exact ⟨rfl, ((Below.refl _ _).alloc (Nat.le_refl _) _).alloc (by simp) _⟩
theorem eqEntryS_same (a a' : Option Addr) (cap cap' : Nat) (es : List (ByteArray × Int)) (w : World) (hl : es.length ≤ 9223372036854775807) (hr : EntAt w a es) (hr' : EntAt w a' es) :
    Calls Try.prog 34 #[.slice a es.length cap, .slice a' es.length cap'] w fun e w' => e = .returned (.bool true) ∧ Below w.heap.size w w' := by
  go_enter Try.func34, Try.ntmps34
  go_wp2
  go_loopw [5] (fun i wr => ∃ k : Nat, k ≤ es.length ∧ i = .int .i64 k ∧ Below w.heap.size w wr) (fun i _ => es.length - (intOf i).toNat)
  case atStart => exact ⟨0, Nat.zero_le _, rfl, Below.refl _ _⟩
  case round =>
    obtain ⟨k, hk, rfl, hnx⟩ := hrel
    by_cases hlt : k < es.length
    · obtain ⟨b, off, rfl, hc⟩ := (hr.below hnx) (by omega)
      obtain ⟨b', off', rfl, hc'⟩ := (hr'.below hnx) (by omega)
      obtain ⟨hc0, hc1⟩ := hc k hlt
      obtain ⟨hd0, hd1⟩ := hc' k hlt
      have HN := hide hnx
      clear hc hc' hr hr' hnx
      generalize es[k].1 = s0 at hc0 hd0
      generalize es[k].2 = n0 at hc1 hd1
      go_wp2
      go_region_with (go_at_call 67; refine (eqEntry_same s0 n0 _).mono ?_; rintro e w2 ⟨rfl, hb⟩)
      all_goals
        have hnx2 : Below w.heap.size w w2 := HN.out.drew.trans (hb.mono HN.out.size)
        have HN2 := hide hnx2
        clear hnx2 hb hc0 hc1 hd0 hd1
        go_wp2
        go_roundw
        case rel => exact ⟨k + 1, by omega, by go_num, HN2.out⟩
        case measure => simp [intOf]; omega
    · go_wp2
      go_ret
      exact ⟨rfl, hnx⟩
end Go.Proofs.Ytledlicandlekab
