import Derived.Test.YtknnpgffdbkfnaaMarks
import Derived.Test.YtknnpgffdbkfnaaLists
namespace Go.Proofs.Ytknnpgffdbkfnaa
open Go.RowKit
theorem szByteSS_any (a : Option Addr) (cap : Nat) (ls : List (List Nat)) (w : World) (hn : ls.length ≤ 9223372036854775807) (hls : ∀ l ∈ ls, l.length ≤ 9223372036854775807) (hr : RowsAt w a ls) :
    Calls Try.prog 6 #[.slice a ls.length cap, .int .i64 1048576] w fun e w' => (∃ r : Int, e = .returned (.int .i64 r) ∧ (1048576 < ls.length + sumL ls → r = -1) ∧ (ls.length + sumL ls ≤ 1048576 → 0 ≤ r)) ∧ w' = w := by
  by_cases hbig : 1048576 < ls.length
  · go_enter Try.func6, Try.ntmps6
    go_wp2
    go_ret
    exact ⟨⟨_, rfl, fun _ => rfl, fun h => by omega⟩, rfl⟩
  · go_enter Try.func6, Try.ntmps6
    go_wp2
    go_loop [1, 5] (fun s i => ∃ k : Nat, k ≤ ls.length ∧ i = .int .i64 k ∧ ls.length + sumL (ls.take k) ≤ 1048576 ∧ s = .int .i64 (1048576 - (ls.length : Int) - (sumL (ls.take k) : Int))) (fun _ i => ls.length - (intOf i).toNat)
    case atStart => exact ⟨0, Nat.zero_le _, rfl, by simp [sumL]; omega, val_int (by simp [sumL])⟩
    case round =>
      obtain ⟨k, hk, rfl, hs, rfl⟩ := hrel
      by_cases hlt : k < ls.length
      · obtain ⟨b, off, rfl, hc⟩ := hr (by omega)
        obtain ⟨ai, ci, hck, _⟩ := hc k hlt
        have hkl := hls _ (List.getElem_mem hlt)
        have HS : Hid (sumL (ls.take (k + 1)) = sumL (ls.take k) + ls[k].length) := sumL_take_succ ls k hlt
        have HT : Hid (sumL (ls.take (k + 1)) ≤ sumL ls) := sumL_take_le ls (k + 1)
        generalize sumL (ls.take k) = s0 at hs HS ⊢
        clear hc hr hls
        generalize hle : ls[k].length = n0 at hck hkl HS
        by_cases hfit : ls.length + s0 + n0 ≤ 1048576
        · clear hle
          go_wp2_with fail
          refine (szByteS_any ai n0 ci _ w (by omega) (by omega) hkl).mono ?_
          rintro e w' ⟨rfl, rfl⟩
          rw [if_neg (by omega)]
          go_wp2
          go_round
          case rel => exact ⟨k + 1, by omega, by go_num, by rw [HS.out]; omega, val_int (by rw [HS.out]; omega)⟩
          case measure => simp [intOf]; omega
        · clear hle
          go_wp2_with fail
          refine (szByteS_any ai n0 ci _ w (by omega) (by omega) hkl).mono ?_
          rintro e w' ⟨rfl, rfl⟩
          rw [if_pos (by omega)]
          go_wp2
          go_ret
          exact ⟨⟨_, rfl, fun _ => rfl, fun h => by have := HS.out; have := HT.out; omega⟩, rfl⟩
      · have he : ls.take k = ls := List.take_of_length_le (by omega)
        rw [he] at hs ⊢
        clear he
        go_wp2
        go_ret
        exact ⟨⟨_, rfl, fun h => by omega, by omega⟩, rfl⟩
end Go.Proofs.Ytknnpgffdbkfnaa
