import Derived.Test.YtknnpgffdbkfnaaDoorLetMath
import Derived.Test.YtknnpgffdbkfnaaDoorBytL
import Derived.Test.YtknnpgffdbkfnaaDoorSpecFlags
namespace Go.Proofs.YtknnpgffdbkfnaaDoor
open Go.RowKit
theorem eqLetters (s : ByteArray) (f : Nat) : ((strB (lettersOf f)).toList == s.toList) = decide (lettersOf f = bytesL s) := by
  conv => lhs; rw [← strB_bytesL s]
  exact strB_beq (letters_lt f 31 (Nat.le_refl _)) (bytesL_lt s)
theorem or_nat (a b : Nat) (ha : a < 4294967296) (hb : b < 4294967296) : bits .or .u32 (a : Int) (b : Int) = ((a ||| b : Nat) : Int) := u32_or_nat a b ha hb
set_option maxRecDepth 20000 in
set_option maxHeartbeats 1000000 in
theorem specLetterFlags_any (s : ByteArray) (w : World) (hs : s.size ≤ 1048576) :
    Calls Tryd.prog 22 #[.string s] w fun e w' => ∃ (ok : Bool) (f : Nat), e = .returned (.agg #[.bool ok, .int .u32 (f : Int)]) ∧ AnsIs (bytesL s) ok f ∧ Below w.heap.size w w' := by
  have hl := bytesL_len s
  go_enter Tryd.func22, Tryd.ntmps22
  by_cases h31 : 31 < s.size
  · have hi : (31 : Int) < (s.size : Int) := by omega
    go_wp2
    refine bodyPost_ret (ret_flags w.heap.size _ false 0 rfl rfl (heap_alloc_new w _)) rfl ⟨false, 0, rfl, long_ans_no (by omega), (Below.refl _ _).alloc (Nat.le_refl _) _⟩
  · have hi : ¬ (31 : Int) < (s.size : Int) := by omega
    have hbx := heap_alloc_new w (.cells #[.bool false, .int .u32 0] 32)
    have hbw := (Below.refl w.heap.size w).alloc (Nat.le_refl _) (.cells #[.bool false, .int .u32 0] 32)
    have HBX := hide (And.intro hbx hbw)
    clear hbx hbw
    go_wp2
    generalize w.alloc (.cells #[.bool false, .int .u32 0] 32) = w0 at HBX ⊢
    go_loopw [3, 4, 5] (fun f i _ wr => ∃ k : Nat, k ≤ s.size ∧ i = .int .i64 (k : Int) ∧ f = .int .u32 ((orAll ((bytesL s).take k) : Nat) : Int) ∧ ∃ n, wr = w0.drewN n) (fun _ i _ _ => s.size - (intOf i).toNat)
    case atStart => exact ⟨0, Nat.zero_le _, rfl, rfl, 0, rfl⟩
    case round =>
      obtain ⟨i, hi', rfl, rfl, n, rfl⟩ := hrel
      by_cases hlt : i < s.size
      · have hti := List.take_succ_eq_append_getElem (l := bytesL s) (i := i) (by omega)
        rw [bytesL_at s i hlt] at hti
        have hF := orAll_lt ((bytesL s).take i)
        have HN := hide (congrArg orAll hti)
        rw [orAll_snoc] at HN
        clear hti
        generalize orAll ((bytesL s).take i) = F0 at hF HN ⊢
        go_wp2
        go_loopw [3, 5] (fun f j wr => ∃ k : Nat, k ≤ 31 ∧ j = .int .i64 (k : Int) ∧ f = .int .u32 ((F0 ||| bitOf s[i].toNat k : Nat) : Int) ∧ ∃ n, wr = w0.drewN n) (fun _ j _ => 31 - (intOf j).toNat)
        case atStart => exact ⟨0, by omega, rfl, by simp [bitOf], n, rfl⟩
        case round =>
          obtain ⟨k, hk, rfl, rfl, hwr⟩ := hrel
          by_cases hk1 : k < 31
          · have HW := hide hwr
            clear hwr
            have hL := hide (fun W => l4Letter_any k W hk1)
            have hB := bitOf_lt s[i].toNat k hk
            have HS := hide (bitOf_succ s[i].toNat k)
            have hO := or_lt hF hB
            have hP := pow_lt31 hk1
            have hor := or_nat _ _ hO hP
            generalize hy : F0 ||| bitOf s[i].toNat k = y at hO hor ⊢
            by_cases hq : l4 k = s[i].toNat
            · have he : ((l4 k : Int) == (s[i].toNat : Int)) = true := by rw [hq]; simp
              go_wp2
              go_quiet ((go_at_call 48; exact Calls.quiet_of_same (hL.out _)))
              go_wp2
              go_roundw
              case rel =>
                refine ⟨k + 1, by omega, by go_num, ?_, drew_more HW.out _⟩
                rw [HS.out, if_pos hq, ← Nat.or_assoc, hy]
                have e2 : ((2 : Int) ^ k % 4294967296) = ((2 ^ k : Nat) : Int) := by
                  have e3 : ((2 ^ k : Nat) : Int) = (2 : Int) ^ k := by push_cast; rfl
                  rw [← e3]
                  generalize (2 ^ k : Nat) = q at hP ⊢
                  omega
                rw [e2, hor]
              case measure => simp [intOf]; omega
            · have he : ((l4 k : Int) == (s[i].toNat : Int)) = false := by simp; omega
              go_wp2
              go_quiet ((go_at_call 48; exact Calls.quiet_of_same (hL.out _)))
              go_wp2
              go_roundw
              case rel =>
                refine ⟨k + 1, by omega, by go_num, ?_, drew_more HW.out _⟩
                rw [HS.out, if_neg hq, hy]
              case measure => simp [intOf]; omega
          · obtain rfl : k = 31 := by omega
            have HW := hide hwr
            clear hwr
            go_wp2
            go_roundw
            case rel => exact ⟨i + 1, by omega, by go_num, by rw [HN.out], HW.out⟩
            case measure => simp [intOf]; omega
      · obtain rfl : i = s.size := by omega
        rw [List.take_of_length_le (by omega)]
        have hF := orAll_lt (bytesL s)
        have hEq := eqLetters s (orAll (bytesL s))
        have hSF := hide (fun W => specFlagLetters_any (orAll (bytesL s)) W hF)
        have hyes := hide (@spec_ans_yes (bytesL s))
        have hno := hide (@spec_ans_no (bytesL s))
        generalize orAll (bytesL s) = F at hF hEq hSF hyes hno ⊢
        generalize strB (lettersOf F) = S at hEq hSF
        go_wp2_with fail
        refine (hSF.out _).mono ?_
        rintro e w3 ⟨rfl, hb3⟩
        have hlt0 : w.heap.size < w0.heap.size := lt_of_block HBX.out.1
        have hh3 : w3.heap[w.heap.size]? = some (.cells #[.bool false, .int .u32 0] 32 (0, 0)) := (hb3.block w.heap.size hlt0).trans HBX.out.1
        have hw3 : Below w.heap.size w w3 := (below_drewN HBX.out.2 n).trans (hb3.mono (Nat.le_of_lt hlt0))
        have c0 : w3.cell? ⟨w.heap.size, 0, none⟩ = some (.bool false) := by rw [cell_of_row _ _ _ _ _ _ hh3]; rfl
        have c1 : w3.cell? ⟨w.heap.size, 1, none⟩ = some (.int .u32 0) := by rw [cell_of_row _ _ _ _ _ _ hh3]; rfl
        have f0 : w3.frozen? ⟨w.heap.size, 0, none⟩ = false := by simp [World.frozen?, hh3]
        have f1 : w3.frozen? ⟨w.heap.size, 1, none⟩ = false := by simp [World.frozen?, hh3]
        have HH := hide hh3
        have hst : ∀ (b : Bool) (y : Int), ((w3.setCell ⟨w.heap.size, 0, none⟩ (.bool b)).setCell ⟨w.heap.size, 1, none⟩ (.int .u32 y)).heap[w.heap.size]? = some (.cells #[.bool b, .int .u32 y] 32 (0, 0)) := fun b y => by
          rw [setCell_eq_setRow w3 _ 0 _ _ _ _ HH.out, setCell_eq_setRow _ _ 1 _ _ _ _ (setRow_heap w3 _ _ _ _ _ HH.out), setRow_setRow, setRow_heap w3 _ _ _ _ _ HH.out]
          rfl
        have HST := hide hst
        have HW3 := hide hw3
        clear hh3 hst hw3 hb3
        by_cases hY : lettersOf F = bytesL s
        · have hbn : (S.toList == s.toList) = true := by rw [hEq, decide_eq_true hY]
          clear hEq
          go_wp2
          exact bodyPost_ret (ret_flags w.heap.size _ true (F : Int) rfl rfl (HST.out _ _)) rfl ⟨true, F, rfl, hyes.out hY, (HW3.out.setCell (p := ⟨w.heap.size, 0, none⟩) (Nat.le_refl _) _).setCell (p := ⟨w.heap.size, 1, none⟩) (Nat.le_refl _) _⟩
        · have hbn : (S.toList == s.toList) = false := by rw [hEq, decide_eq_false hY]
          clear hEq
          go_wp2
          exact bodyPost_ret (ret_flags w.heap.size _ false 0 rfl rfl (HST.out _ _)) rfl ⟨false, 0, rfl, hno.out hY, (HW3.out.setCell (p := ⟨w.heap.size, 0, none⟩) (Nat.le_refl _) _).setCell (p := ⟨w.heap.size, 1, none⟩) (Nat.le_refl _) _⟩
end Go.Proofs.YtknnpgffdbkfnaaDoor
