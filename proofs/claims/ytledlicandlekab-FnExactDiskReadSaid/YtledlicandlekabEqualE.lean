import Derived.Test.YtledlicandlekabSpecSame
namespace Go.Proofs.Ytledlicandlekab
open Go.RowKit
theorem equalE_any (a a' : Option Addr) (cap cap' : Nat) (ls ms : List (ByteArray × Int)) (w : World) (hl : ls.length ≤ 9223372036854775807) (hr : EntAt w a ls) (hr' : EntAt w a' ms) :
    Calls Try.prog 81 #[.slice a ls.length cap, .slice a' ms.length cap'] w fun e w' => (∃ r : Bool, e = .returned (.bool r) ∧ (r = true ↔ ls = ms)) ∧ ∃ n, w' = w.drewN n := by
  by_cases hlen : ls.length = ms.length
  · have hne : ((ls.length : Int) != (ms.length : Int)) = false := by simp; omega
    have HL : Hid (ls.length = ms.length) := hlen
    clear hlen
    go_enter Try.func81, Try.ntmps81
    go_wp2
    go_loopw [5, 13] (fun _ i wr => ∃ k : Nat, k ≤ ls.length ∧ i = .int .i64 k ∧ ls.take k = ms.take k ∧ ∃ n, wr = w.drewN n) (fun _ i _ => ls.length - (intOf i).toNat)
    case atStart => exact ⟨0, Nat.zero_le _, rfl, rfl, 0, rfl⟩
    case round =>
      obtain ⟨k, hk, rfl, htk, hdr⟩ := hrel
      have HD : Hid (∃ n, wr = w.drewN n) := hdr
      have hrr : EntAt wr a ls := by obtain ⟨n, rfl⟩ := hdr; exact hr
      have hrr' : EntAt wr a' ms := by obtain ⟨n, rfl⟩ := hdr; exact hr'
      clear hdr hr hr'
      by_cases hlt : k < ls.length
      · have hlt' : k < ms.length := by have := HL.out; omega
        obtain ⟨b, off, rfl, hc⟩ := hrr (by omega)
        obtain ⟨b', off', rfl, hc'⟩ := hrr' (by omega)
        obtain ⟨c0, c1⟩ := hc k hlt
        obtain ⟨d0, d1⟩ := hc' k hlt'
        have HT : Hid (ls.take k = ms.take k) := htk
        have HLM := hide (fun (h : ls = ms) => (show ls[k].1 = ms[k].1 ∧ ls[k].2 = ms[k].2 from by subst h; exact ⟨rfl, rfl⟩))
        have HSU := hide (fun h1 h2 => ent_take_succ hlt hlt' htk h1 h2)
        clear hc hc' htk hrr hrr'
        generalize ls[k].1 = x1 at c0 HLM HSU
        generalize ls[k].2 = x2 at c1 HLM HSU
        generalize ms[k].1 = y1 at d0 HLM HSU
        generalize ms[k].2 = y2 at d1 HLM HSU
        by_cases g1 : x1 = y1
        · have hb1 := beq_of_eq g1
          by_cases g2 : x2 = y2
          · have hb2 : (x2 == y2) = true := by simp [g2]
            have HS2 := hide (HSU.out g1 g2)
            clear g1 g2 HLM HSU
            go_wp2
            go_quiet (fail)
            go_wp2
            go_roundw
            case rel => exact ⟨k + 1, by omega, by go_num, HS2.out, drew_more HD.out _⟩
            case measure => simp [intOf]; omega
          · have hb2 : (x2 == y2) = false := by simp [g2]
            have HN2 := hide (fun h => g2 (HLM.out h).2)
            clear g1 g2 HLM HSU
            go_wp2
            go_quiet (fail)
            go_wp2
            go_ret
            exact ⟨⟨false, rfl, ⟨fun h => by simp at h, fun h => absurd h HN2.out⟩⟩, drew_more HD.out _⟩
        · have hb1 := beq_of_ne g1
          have HN2 := hide (fun h => g1 (HLM.out h).1)
          clear g1 HLM HSU
          go_wp2
          go_quiet (fail)
          go_wp2
          go_ret
          exact ⟨⟨false, rfl, ⟨fun h => by simp at h, fun h => absurd h HN2.out⟩⟩, drew_more HD.out _⟩
      · have HEQ : Hid (ls = ms) := by
          have h1 : ls.take k = ls := List.take_of_length_le (by omega)
          have h2 : ms.take k = ms := List.take_of_length_le (by have := HL.out; omega)
          rw [← h1, ← h2, htk]; exact rfl
        go_wp2
        go_ret
        exact ⟨⟨true, rfl, ⟨fun _ => HEQ.out, fun _ => rfl⟩⟩, HD.out⟩
  · have hne : ((ls.length : Int) != (ms.length : Int)) = true := by simp; omega
    go_enter Try.func81, Try.ntmps81
    go_wp2
    go_ret
    exact ⟨⟨false, rfl, ⟨fun h => by simp at h, fun h => absurd (by rw [h]) hlen⟩⟩, 0, rfl⟩
end Go.Proofs.Ytledlicandlekab
