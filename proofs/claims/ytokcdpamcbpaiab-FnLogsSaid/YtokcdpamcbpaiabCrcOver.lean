import Derived.Test.YtokcdpamcbpaiabSpecCrc
namespace Go.Proofs.Ytokcdpamcbpaiab
open Go.RowKit
/-- impl.crcOver goes on with the sum over the bytes and leaves the world as it was. -/
theorem crcOver_any (c : Nat) (a : Option Addr) (cap : Nat) (l : List Nat) (w : World) (hcc : c < 4294967296) (hl : l.length ≤ 1048576) (hr : RowAt w a l) (hb : ∀ x ∈ l, x < 256) :
    Calls Try.prog 49 #[.int .u32 (c : Int), .slice a l.length cap] w fun e w' => e = .returned (.int .u32 ((crcFold c l : Nat) : Int)) ∧ w' = w := by
  go_enter Try.func49, Try.ntmps49
  go_wp2
  go_loop [0, 10] (fun s i => ∃ k : Nat, k ≤ l.length ∧ i = .int .i64 k ∧ s = .int .u32 ((crcFold c (l.take k) : Nat) : Int)) (fun _ i => l.length - (intOf i).toNat)
  case atStart => exact ⟨0, Nat.zero_le _, rfl, rfl⟩
  case round =>
    obtain ⟨k, hk, rfl, rfl⟩ := hrel
    by_cases hlt : k < l.length
    · obtain ⟨b, off, rfl, hc⟩ := hr (by omega)
      have hck := hc k hlt
      clear hc hr
      have hxb : l[k] < 256 := hb _ (List.getElem_mem hlt)
      have hcl : crcFold c (l.take k) < 4294967296 := crcFold_lt _ (fun x hx => hb x (List.mem_of_mem_take hx)) _ hcc
      have HN : Hid (crcFold c (l.take (k + 1)) = crcByte (crcFold c (l.take k)) l[k]) := by
        show _ = _
        rw [List.take_succ_eq_append_getElem hlt, crcFold_snoc]
      generalize crcFold c (l.take k) = c0 at hcl HN ⊢
      have hxl : c0 ^^^ l[k] < 4294967296 := Nat.xor_lt_two_pow (n := 32) (by omega) (by omega)
      have hxe := xor_byte c0 l[k] hcl hxb
      have HB : Hid (crcByte c0 l[k] = crcSteps 8 (c0 ^^^ l[k])) := rfl
      generalize c0 ^^^ l[k] = c2 at hxl hxe HB
      go_wp2
      go_loop [0, 18] (fun s j => ∃ m : Nat, m ≤ 8 ∧ j = .int .i64 m ∧ s = .int .u32 ((crcSteps m c2 : Nat) : Int)) (fun _ j => 8 - (intOf j).toNat)
      case atStart => exact ⟨0, Nat.zero_le _, rfl, rfl⟩
      case round =>
        obtain ⟨m, hm, rfl, rfl⟩ := hrel
        by_cases hm8 : m < 8
        · have hsl := crcSteps_lt m c2 hxl
          have HS : Hid (crcSteps (m + 1) c2 = crcStep (crcSteps m c2)) := rfl
          generalize crcSteps m c2 = c1 at hsl HS ⊢
          go_wp2
          all_goals
            go_round
            case rel => exact ⟨m + 1, by omega, by go_num, val_int (by rw [HS.out]; first | exact step_hit hsl ‹_› | exact step_miss hsl ‹_›)⟩
            case measure => simp [intOf]; omega
        · go_wp2
          go_round
          case rel => exact ⟨k + 1, by omega, by go_num, val_int (by rw [HN.out, HB.out, show m = 8 from by omega])⟩
          case measure => simp [intOf]; omega
    · go_wp2
      go_ret
      exact ⟨ret_int (by rw [List.take_of_length_le (by omega)]), rfl⟩
end Go.Proofs.Ytokcdpamcbpaiab
