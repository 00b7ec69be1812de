import Derived.Test.YtknnpgffdbkfnaaDoorFlagIx
import Derived.Test.YtknnpgffdbkfnaaDoorBuilder2
namespace Go.Proofs.YtknnpgffdbkfnaaDoor
open Go.RowKit
set_option maxRecDepth 20000 in
theorem implFlagLetters_any (f : Nat) (w : World) (hf : f < 4294967296) :
    Calls Tryd.prog 13 #[.int .u32 (f : Int)] w fun e w' => e = .returned (.string (strB (lettersOf f))) ∧ Below w.heap.size w w' := by
  have hnew : BldAt (w.alloc (.cells #[.pointer none, .slice none 0 0] 76)) w.heap.size [] := by
    refine ⟨Lib.fresh_isBuilder _ _ w, fun _ => ?_⟩
    rw [cell_of_row _ _ _ _ _ _ (heap_alloc_new w _)]
    rfl
  have hbn : Below w.heap.size w (w.alloc (.cells #[.pointer none, .slice none 0 0] 76)) := (Below.refl _ _).alloc (Nat.le_refl _) _
  go_enter Tryd.func13, Tryd.ntmps13
  go_wp2_with fail
  generalize w.alloc (.cells #[.pointer none, .slice none 0 0] 76) = w0 at hnew hbn ⊢
  refine (flagTable_any w0).mono ?_
  rintro e w1 ⟨rfl, hb1⟩
  have hB1 := hnew.below hb1
  have hw1 := hbn.trans (hb1.mono hbn.size)
  clear hnew hbn hb1
  generalize hT : tabA 31 = T
  go_wp2
  go_loopw [5, 7] (fun _ i wr => ∃ k : Nat, k ≤ 31 ∧ i = .int .i64 (k : Int) ∧ BldAt wr w.heap.size (lettersTo f k) ∧ Below w.heap.size w wr) (fun _ i _ => 31 - (intOf i).toNat)
  case atStart => exact ⟨0, by omega, rfl, hB1, hw1⟩
  case round =>
    obtain ⟨k, hk, rfl, hB, hw⟩ := hrel
    clear hB1 hw1
    by_cases hlt : k < 31
    · have hbit := fBit_lt k hlt
      have hlet := fLet_lt k hlt
      have hlen := hide (lettersTo_len f k)
      have hst := hide (lettersTo_succ f k)
      have hW := hide hw
      have hBB := hide hB
      clear hw hB
      go_wp2_with (refine wpList_index_tab _ k rfl _ _ rfl (by rw [← hT]; rfl) rfl hlt ?_)
      have hal := (Below.refl wr.heap.size wr).alloc (Nat.le_refl _) (.cells #[.int .i32 (fLet k : Int), .int .u64 (fBit k : Int)] 70)
      have hc0 : (wr.alloc (.cells #[.int .i32 (fLet k : Int), .int .u64 (fBit k : Int)] 70)).cell? ⟨wr.heap.size, 0, none⟩ = some (.int .i32 (fLet k : Int)) := by rw [cell_of_row _ _ _ _ _ _ (heap_alloc_new wr _)]; rfl
      have hB2 := hBB.out.below hal
      have hw2 := hW.out.trans (hal.mono hW.out.size)
      generalize wr.alloc (.cells #[.int .i32 (fLet k : Int), .int .u64 (fBit k : Int)] 70) = w2 at hal hc0 hB2 hw2 ⊢
      refine (mask_any (fBit k) w2 hbit).mono ?_
      rintro e w3 ⟨rfl, rfl⟩
      have hT2 := bit_test f (fBit k) hf hbit
      have HB2 := hide hB2
      have HW2 := hide hw2
      clear hB2 hw2 hal
      by_cases ht : f.testBit (fBit k) = true
      · rw [ht] at hT2
        have hs := hst.out
        rw [if_pos ht] at hs
        have hS := hide hs
        clear hst hs
        generalize ((2 ^ fBit k : Nat) : Int) = m at hT2 ⊢
        go_wp2_with fail
        refine (writeRune_ascii w.heap.size (lettersTo f k) (fLet k) w3 hlet HB2.out (by have := hlen.out; omega)).mono ?_
        rintro e w4 ⟨rfl, hB4, hb4⟩
        have hw4 := HW2.out.trans hb4
        rw [← hS.out] at hB4
        go_wp2
        go_roundw
        case rel => exact ⟨k + 1, by omega, by go_num, hB4, hw4⟩
        case measure => simp [intOf]; omega
      · simp only [Bool.not_eq_true] at ht
        rw [ht] at hT2
        have hs := hst.out
        rw [if_neg (by rw [ht]; simp), List.append_nil] at hs
        have hS := hide hs
        clear hst hs
        generalize ((2 ^ fBit k : Nat) : Int) = m at hT2 ⊢
        go_wp2
        go_roundw
        case rel => exact ⟨k + 1, by omega, by go_num, by rw [hS.out]; exact HB2.out, HW2.out⟩
        case measure => simp [intOf]; omega
    · obtain rfl : k = 31 := by omega
      have hB' : BldAt wr w.heap.size (((lettersTo f 31).map UInt8.ofNat).map UInt8.toNat) := by rw [map_back _ (letters_lt f 31 (Nat.le_refl _))]; exact hB
      clear hB
      go_wp2_with fail
      refine (builderString_any w.heap.size _ wr hB').mono ?_
      rintro e w4 ⟨rfl, hb4⟩
      go_wp2
      go_ret
      exact ⟨rfl, hw.trans hb4⟩
end Go.Proofs.YtknnpgffdbkfnaaDoor
