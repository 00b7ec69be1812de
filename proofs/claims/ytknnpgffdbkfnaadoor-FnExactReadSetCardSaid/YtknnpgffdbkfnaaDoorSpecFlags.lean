import Derived.Test.YtknnpgffdbkfnaaDoorFlagIx
import Derived.Laws.BytesArg
namespace Go.Proofs.YtknnpgffdbkfnaaDoor
open Go.RowKit
theorem spec_len (f c k : Nat) (h1 : c ≤ 123) (h2 : k ≤ 31) : (outerTo f (c - 65) ++ innerTo f c k).length ≤ 2000 := by
  have := outer_len f (c - 65)
  have := inner_len f c k
  rw [List.length_append]
  omega
set_option maxRecDepth 20000 in
theorem specFlagLetters_any (f : Nat) (w : World) (hf : f < 4294967296) :
    Calls Tryd.prog 49 #[.int .u32 (f : Int)] w fun e w' => e = .returned (.string (strB (lettersOf f))) ∧ Below w.heap.size w w' := by
  go_enter Tryd.func49, Tryd.ntmps49
  go_wp2
  go_loopw [3, 4, 5] (fun o b _ wr => ∃ c : Nat, 65 ≤ c ∧ c ≤ 123 ∧ b = .int .i32 (c : Int) ∧ OwnB wr w.heap.size o (outerTo f (c - 65)) ∧ Below w.heap.size w wr) (fun _ b _ _ => 123 - (intOf b).toNat)
  case atStart => exact ⟨65, by omega, by omega, rfl, OwnB.nil _ _, Below.refl _ _⟩
  case round =>
    obtain ⟨c, hc1, hc2, rfl, ho, hw⟩ := hrel
    by_cases hlt : c < 123
    · have HO := hide ho
      have HW := hide hw
      clear ho hw
      have hcl : (c : Int) ≤ 122 := by omega
      go_wp2
      go_loopw [3, 5] (fun o i wi => ∃ k : Nat, k ≤ 31 ∧ i = .int .i64 (k : Int) ∧ OwnB wi w.heap.size o (outerTo f (c - 65) ++ innerTo f c k) ∧ Below w.heap.size w wi) (fun _ i _ => 31 - (intOf i).toNat)
      case atStart => exact ⟨0, by omega, rfl, by simpa [innerTo] using HO.out, HW.out⟩
      case round =>
        obtain ⟨k, hk, rfl, ho, hw⟩ := hrel
        clear HO HW
        by_cases hk1 : k < 31
        · have HO := hide ho
          have HW := hide hw
          have HS := hide (innerTo_succ f c k)
          have HL := hide (spec_len f c k (by omega) hk)
          have HF := hide (l4Has_any f k)
          clear ho hw
          go_wp2_with fail
          refine (l4Letter_any k _ hk1).mono ?_
          rintro e w1 ⟨rfl, rfl⟩
          by_cases hl : l4 k = c
          · have he : ((l4 k : Int) == (c : Int)) = true := by rw [hl]; simp
            go_wp2_with fail
            refine (HF.out _ hf hk1).mono ?_
            rintro e w2 ⟨rfl, rfl⟩
            have hc256 : c < 256 := by omega
            by_cases ht : f.testBit k = true
            · have hs := HS.out
              rw [hl, ht] at hs
              simp only [BEq.rfl, Bool.and_self, if_true] at hs
              rw [ht]
              have HS2 := hide hs
              clear hs HS
              have hrow := row_one w2 c
              have ho2 := HO.out.alloc1 (.cells #[.int .u8 (c : Int)] 5)
              have hsz := HW.out.size
              go_wp2_with (at_builtin; refine wpList_append_bytes _ rfl _ _ rfl w.heap.size u3 _ [c] rfl ho2 _ _ rfl hrow (by simp) (by have := HL.out; simp only [List.length_cons, List.length_nil]; omega) (by simp; omega) ?_; intro v5 w5 ho5 hg5)
              rw [List.append_assoc, ← HS2.out] at ho5
              have hw5 := ((HW.out.alloc hsz (.cells #[.int .u8 (c : Int)] 5)).grown hg5 (by simp; omega) (fun j h => (World.ownsRow.lt ho2 j h).1))
              go_roundw
              case rel => exact ⟨k + 1, by omega, by go_num, ho5, hw5⟩
              case measure => simp [intOf]; omega
            · simp only [Bool.not_eq_true] at ht
              have hs := HS.out
              rw [ht] at hs
              simp only [Bool.and_false, Bool.false_eq_true, if_false, List.append_nil] at hs
              rw [ht]
              have HS2 := hide hs
              clear hs HS
              go_wp2
              go_roundw
              case rel => exact ⟨k + 1, by omega, by go_num, by rw [HS2.out]; exact HO.out, HW.out⟩
              case measure => simp [intOf]; omega
          · have he : ((l4 k : Int) == (c : Int)) = false := by simp; omega
            have hs := HS.out
            rw [show (l4 k == c) = false from by simpa using hl] at hs
            simp only [Bool.false_and, Bool.false_eq_true, if_false, List.append_nil] at hs
            have HS2 := hide hs
            clear hs HS
            go_wp2
            go_roundw
            case rel => exact ⟨k + 1, by omega, by go_num, by rw [HS2.out]; exact HO.out, HW.out⟩
            case measure => simp [intOf]; omega
        · obtain rfl : k = 31 := by omega
          have e : outerTo f (c - 65) ++ innerTo f c 31 = outerTo f (c + 1 - 65) := by
            rw [show c + 1 - 65 = (c - 65) + 1 from by omega, outerTo_succ, show 65 + (c - 65) = c from by omega]
          rw [e] at ho
          have HO := hide ho
          have HW := hide hw
          clear ho hw
          go_wp2
          go_roundw
          case rel => exact ⟨c + 1, by omega, by omega, by go_num, HO.out, HW.out⟩
          case measure => simp [intOf]; omega
    · obtain rfl : c = 123 := by omega
      have ho' : OwnB wr w.heap.size u3 (lettersOf f) := by rw [← letters_eq]; exact ho
      obtain ⟨a, cap, rfl⟩ := ho'.slice
      have hcv := run_string_of wr a cap _ ho'.row
      clear ho ho'
      generalize (lettersOf f).length = n at hcv ⊢
      go_wp2
      go_ret
      exact ⟨rfl, hw⟩
end Go.Proofs.YtknnpgffdbkfnaaDoor
