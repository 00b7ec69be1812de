import Derived.Test.YtknnpgffdbkfnaaDoorFlagTab
import Derived.Test.YtknnpgffdbkfnaaDoorSmall
namespace Go.Proofs.YtknnpgffdbkfnaaDoor
open Go.RowKit
theorem pow_lt31 {b : Nat} (hb : b < 31) : 2 ^ b < 4294967296 := by
  have : 2 ^ b ≤ 2 ^ 30 := Nat.pow_le_pow_right (by omega) (by omega)
  omega
theorem and_pow (f b : Nat) : (f &&& 2 ^ b = 0) ↔ f.testBit b = false := by
  constructor
  · intro h
    have h2 : (f &&& 2 ^ b).testBit b = false := by rw [h]; simp
    rw [Nat.testBit_and, Nat.testBit_two_pow_self, Bool.and_true] at h2
    exact h2
  · intro h
    apply Nat.eq_of_testBit_eq
    intro i
    rw [Nat.testBit_and, Nat.zero_testBit, Nat.testBit_two_pow]
    by_cases e : b = i
    · subst e; rw [h]; rfl
    · simp [e]
theorem ret_u32 {a b : Int} (h : a = b) : Ending.returned (.int .u32 a) = .returned (.int .u32 b) := by rw [h]
theorem ret_u8 {a b : Int} (h : a = b) : Ending.returned (.int .u8 a) = .returned (.int .u8 b) := by rw [h]
set_option maxRecDepth 20000 in
theorem mask_any (b : Nat) (w : World) (hb : b < 31) :
    Calls Tryd.prog 33 #[.int .u64 (b : Int)] w fun e w' => e = .returned (.int .u32 ((2 ^ b : Nat) : Int)) ∧ w' = w := by
  have hp := hide (pow_lt31 hb)
  go_enter Tryd.func33, Tryd.ntmps33
  go_wp2
  go_ret
  refine ⟨ret_u32 ?_, rfl⟩
  have h := hp.out
  have e : ((2 ^ b : Nat) : Int) = (2 : Int) ^ b := by push_cast; rfl
  rw [← e]
  generalize (2 ^ b : Nat) = q at h ⊢
  omega
theorem l4Has_any (f k : Nat) (w : World) (hf : f < 4294967296) (hk : k < 31) :
    Calls Tryd.prog 66 #[.int .u32 (f : Int), .int .i64 (k : Int)] w fun e w' => e = .returned (.bool (f.testBit k)) ∧ w' = w := by
  go_enter Tryd.func66, Tryd.ntmps66
  go_wp2
  go_ret
  refine ⟨ret_bool ?_, rfl⟩
  have e : ((f : Int) / 2 ^ k) = ((f / 2 ^ k : Nat) : Int) := by push_cast; rfl
  have hlt : f / 2 ^ k < 4294967296 := Nat.lt_of_le_of_lt (Nat.div_le_self _ _) hf
  show (bits BinOp.and IntKind.u32 ((f : Int) / 2 ^ k) 1 == 1) = _
  rw [e, low_bit _ hlt, Nat.testBit_eq_decide_div_mod_eq]
  generalize f / 2 ^ k = q
  have hq : q % 2 = 0 ∨ q % 2 = 1 := by omega
  rcases hq with h | h <;> rw [h] <;> rfl
def l4 (k : Nat) : Nat := if k = 0 then 82 else if k = 1 then 70 else if k = 2 then 84 else if k = 3 then 83 else if k = 4 then 68 else 92 + k
theorem l4Letter_any (k : Nat) (w : World) (hk : k < 31) :
    Calls Tryd.prog 48 #[.int .i64 (k : Int)] w fun e w' => e = .returned (.int .u8 (l4 k : Int)) ∧ w' = w := by
  by_cases h5 : 5 ≤ k
  · have e0 : ((k : Int) == 0) = false := by simp; omega
    have e1 : ((k : Int) == 1) = false := by simp; omega
    have e2 : ((k : Int) == 2) = false := by simp; omega
    have e3 : ((k : Int) == 3) = false := by simp; omega
    have e4 : ((k : Int) == 4) = false := by simp; omega
    have hl : l4 k = 92 + k := by unfold l4; rw [if_neg (by omega), if_neg (by omega), if_neg (by omega), if_neg (by omega), if_neg (by omega)]
    rw [hl]
    go_enter Tryd.func48, Tryd.ntmps48
    go_wp2
    go_ret
    exact ⟨ret_u8 (by omega), rfl⟩
  · have hk5 : k = 0 ∨ k = 1 ∨ k = 2 ∨ k = 3 ∨ k = 4 := by omega
    rcases hk5 with rfl | rfl | rfl | rfl | rfl
    all_goals
      go_enter Tryd.func48, Tryd.ntmps48
      go_wp2
      go_ret
      exact ⟨rfl, rfl⟩
/-- The letters of the flags that are set. -/
def lettersTo (f k : Nat) : List Nat := ((List.range k).filter fun i => f.testBit (fBit i)).map fLet
def lettersOf (f : Nat) : List Nat := lettersTo f 31
theorem lettersTo_succ (f k : Nat) : lettersTo f (k + 1) = lettersTo f k ++ (if f.testBit (fBit k) then [fLet k] else []) := by
  unfold lettersTo
  rw [List.range_succ, List.filter_append, List.map_append]
  by_cases h : f.testBit (fBit k) = true
  · simp [h]
  · simp at h; simp [h]
theorem lettersTo_len (f k : Nat) : (lettersTo f k).length ≤ k := by
  unfold lettersTo
  rw [List.length_map]
  exact Nat.le_trans (List.length_filter_le _ _) (by simp)
/-- What the specification writes: for each byte its bits. -/
def innerTo (f b k : Nat) : List Nat := ((List.range k).filter fun i => l4 i == b && f.testBit i).map fun _ => b
def outerTo (f n : Nat) : List Nat := (List.range n).flatMap fun j => innerTo f (65 + j) 31
theorem innerTo_succ (f b k : Nat) : innerTo f b (k + 1) = innerTo f b k ++ (if l4 k == b && f.testBit k then [b] else []) := by
  unfold innerTo
  rw [List.range_succ, List.filter_append, List.map_append]
  by_cases h : (l4 k == b && f.testBit k) = true
  · simp [h]
  · simp only [Bool.not_eq_true] at h; simp [h]
theorem outerTo_succ (f n : Nat) : outerTo f (n + 1) = outerTo f n ++ innerTo f (65 + n) 31 := by
  unfold outerTo
  rw [List.range_succ, List.flatMap_append]
  simp
theorem pairs_all : ((List.range 58).flatMap fun j => ((List.range 31).filter fun i => l4 i == 65 + j).map fun i => (65 + j, i)) = (List.range 31).map fun i => (fLet i, fBit i) := by decide
theorem letters_eq (f : Nat) : outerTo f 58 = lettersOf f := by
  have h1 : lettersOf f = (((List.range 31).map fun i => (fLet i, fBit i)).filter fun p => f.testBit p.2).map Prod.fst := by
    unfold lettersOf lettersTo
    rw [List.filter_map, List.map_map]
    rfl
  rw [h1, ← pairs_all]
  unfold outerTo innerTo
  rw [List.filter_flatMap, List.map_flatMap]
  congr 1
  funext j
  rw [List.filter_map, List.map_map, List.filter_filter]
  congr 1
  congr 1
  funext i
  rw [Bool.and_comm]
  rfl
theorem outer_len (f n : Nat) : (outerTo f n).length ≤ n * 31 := by
  induction n with
  | zero => simp [outerTo]
  | succ n ih =>
    rw [outerTo_succ, List.length_append]
    have : (innerTo f (65 + n) 31).length ≤ 31 := by
      unfold innerTo
      rw [List.length_map]
      exact Nat.le_trans (List.length_filter_le _ _) (by simp)
    omega
theorem inner_len (f b k : Nat) : (innerTo f b k).length ≤ k := by
  unfold innerTo
  rw [List.length_map]
  exact Nat.le_trans (List.length_filter_le _ _) (by simp)
end Go.Proofs.YtknnpgffdbkfnaaDoor
