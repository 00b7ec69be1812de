import Derived.Test.YtokcdpamcbpaiabMem
namespace Go.Proofs.Ytokcdpamcbpaiab
open Go.RowKit
/-- spec.Crc gives the sum of the bytes and leaves the world as it was. -/
theorem specCrc_any (a : Option Addr) (cap : Nat) (l : List Nat) (w : World) (hl : l.length ≤ 1048576) (hr : RowAt w a l) (hb : ∀ x ∈ l, x < 256) :
    Calls Try.prog 47 #[.slice a l.length cap] w fun e w' => e = .returned (.int .u32 ((crcOf l : Nat) : Int)) ∧ w' = w := by
  go_enter Try.func47, Try.ntmps47
  go_wp2
  go_loop [3, 10] (fun c i => ∃ k : Nat, k ≤ l.length ∧ i = .int .i64 k ∧ c = .int .u32 ((crcFold 4294967295 (l.take k) : Nat) : Int)) (fun _ i => l.length - (intOf i).toNat)
  case atStart => exact ⟨0, Nat.zero_le _, rfl, rfl⟩
  case round =>
    obtain ⟨k, hk, rfl, rfl⟩ := hrel
    by_cases hlt : k < l.length
    · obtain ⟨b, off, rfl, hc⟩ := hr (by omega)
      have hck := hc k hlt
      clear hc hr
      have hxb : l[k] < 256 := hb _ (List.getElem_mem hlt)
      have hcl : crcFold 4294967295 (l.take k) < 4294967296 := crcFold_lt _ (fun x hx => hb x (List.mem_of_mem_take hx)) _ (by decide)
      have HN : Hid (crcFold 4294967295 (l.take (k + 1)) = crcByte (crcFold 4294967295 (l.take k)) l[k]) := by
        show _ = _
        rw [List.take_succ_eq_append_getElem hlt, crcFold_snoc]
      generalize crcFold 4294967295 (l.take k) = c0 at hcl HN ⊢
      go_wp2
      go_loop [3, 6] (fun c j => ∃ m : Nat, m ≤ 8 ∧ j = .int .i64 m ∧ c = .int .u32 ((specSteps c0 l[k] m : Nat) : Int)) (fun _ j => 8 - (intOf j).toNat)
      case atStart => exact ⟨0, Nat.zero_le _, rfl, rfl⟩
      case round =>
        obtain ⟨m, hm, rfl, rfl⟩ := hrel
        by_cases hm8 : m < 8
        · have hsl := specSteps_lt c0 l[k] m hcl
          have HS : Hid (specSteps c0 l[k] (m + 1) = specStep (specSteps c0 l[k] m) l[k] m) := rfl
          generalize specSteps c0 l[k] m = c1 at hsl HS ⊢
          go_wp2
          all_goals
            go_round
            case rel => exact ⟨m + 1, by omega, by go_num, val_int (by rw [HS.out]; first | exact spec_hit hsl hxb ‹_› | exact spec_miss hsl hxb ‹_›)⟩
            case measure => simp [intOf]; omega
        · go_wp2
          go_round
          case rel => exact ⟨k + 1, by omega, by go_num, val_int (by rw [HN.out, ← spec_byte _ _ hxb, show m = 8 from by omega])⟩
          case measure => simp [intOf]; omega
    · have hcl : crcFold 4294967295 (l.take k) < 4294967296 := crcFold_lt _ (fun x hx => hb x (List.mem_of_mem_take hx)) _ (by decide)
      go_wp2
      go_ret
      exact ⟨ret_int (by rw [out_eq _ hcl, List.take_of_length_le (by omega)]; rfl), rfl⟩
end Go.Proofs.Ytokcdpamcbpaiab
