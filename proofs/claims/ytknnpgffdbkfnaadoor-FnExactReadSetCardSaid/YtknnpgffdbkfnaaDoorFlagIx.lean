import Derived.Test.YtknnpgffdbkfnaaDoorFlagMath
import Derived.Test.YtknnpgffdbkfnaaDoorStrB
namespace Go.Proofs.YtknnpgffdbkfnaaDoor
open Go.RowKit
theorem tab_at (k : Nat) (hk : k < 31) : (tabA 31).extract (k * 2) (k * 2 + 2) = #[.int .i32 (fLet k : Int), .int .u64 (fBit k : Int)] := by
  have h0 := two_get0 (tabRows 31) k (by rw [tabRows_length]; exact hk)
  have h1 := two_get1 (tabRows 31) k (by rw [tabRows_length]; exact hk)
  have hr : (tabRows 31)[k]'(by rw [tabRows_length]; exact hk) = rowV k := by simp [tabRows, hk]
  rw [hr] at h0 h1
  apply Array.ext_getElem?
  intro i
  rw [Array.getElem?_extract]
  rcases i with _ | _ | i
  · simp only [tabA, Nat.add_zero, List.getElem?_toArray]
    rw [h0]; simp [rowV, two_length, tabRows_length]; omega
  · simp only [tabA, List.getElem?_toArray]
    rw [h1]; simp [rowV, two_length, tabRows_length]; omega
  · rw [if_neg (by rw [tabA_size]; omega)]; simp
theorem run_index_tab (w : World) (k : Nat) (hk : k < 31) : (Instr.index 71 (.agg (tabA 31)) (.int .i64 (k : Int))).run Tryd.prog w = .ok (.agg #[.int .i32 (fLet k : Int), .int .u64 (fBit k : Int)]) w := by
  have hu := run_underlying Tryd.underlying71
  simp [Instr.index, asIntOf, hu, part, tab_at k hk]
  intro h; omega
theorem wpList_index_tab {ops : Array Oper} {rest : List Oper} {o : Oper} {act : Act} {Q : Exit → Act → World → Prop} (w : World) (k : Nat) (hgd : o.guard = none) (x y : Operand) (ho : o.op = .index 71 x y)
    (hx : act.eval x = .agg (tabA 31)) (hy : act.eval y = .int .i64 (k : Int)) (hk : k < 31)
    (h : wpList Tryd.prog ops Q rest (act.put o.dst (.agg #[.int .i32 (fLet k : Int), .int .u64 (fBit k : Int)])) w) : wpList Tryd.prog ops Q (o :: rest) act w := by
  refine wpList_plain hgd fun K hK => ?_
  unfold Oper.wp execOp
  simp only [ho, hx, hy, Sem.run_bind, run_index_tab w k hk, Result.andThen_ok]
  exact hK _ _ h
theorem fLet_lt (k : Nat) (hk : k < 31) : fLet k < 128 := by
  have h : ∀ k, k < 31 → fLet k < 128 := by decide
  exact h k hk
theorem fBit_lt (k : Nat) (hk : k < 31) : fBit k < 31 := by
  have h : ∀ k, k < 31 → fBit k < 31 := by decide
  exact h k hk
theorem letters_lt (f k : Nat) (hk : k ≤ 31) : ∀ x ∈ lettersTo f k, x < 256 := by
  intro x hx
  simp only [lettersTo, List.mem_map, List.mem_filter, List.mem_range] at hx
  obtain ⟨i, ⟨hi, _⟩, rfl⟩ := hx
  have := fLet_lt i (by omega)
  omega
theorem bit_test (f b : Nat) (hf : f < 4294967296) (hb : b < 31) : (bits .and .u32 (f : Int) ((2 ^ b : Nat) : Int) != 0) = f.testBit b := by
  rw [u32_and_nat f (2 ^ b) hf (pow_lt31 hb)]
  by_cases h : f.testBit b = true
  · rw [h]
    have : f &&& 2 ^ b ≠ 0 := fun e => by rw [(and_pow f b).1 e] at h; cases h
    simp; omega
  · simp only [Bool.not_eq_true] at h
    rw [h, (and_pow f b).2 h]; rfl
end Go.Proofs.YtknnpgffdbkfnaaDoor
