import Derived.Test.YtknnpgffdbkfnaaDoorNameTab
import Derived.Lib.Join
namespace Go.Proofs.YtknnpgffdbkfnaaDoor
open Go.RowKit
theorem nameL_size (k : Nat) : (strB (nameL k)).size ≤ 9 := by
  unfold strB
  match k with
  | 0 | 1 | 2 | 3 | 4 => decide
  | k + 5 => simp [nameL, ByteArray.size]
/-- What spec.FlagList has when it has looked at the first k bits. -/
def flS (f : Nat) : Nat → ByteArray
  | 0 => ⟨#[]⟩
  | k + 1 => if f.testBit k then (if (flS f k).toList = [] then flS f k else flS f k ++ ⟨#[32]⟩) ++ strB (nameL k) else flS f k
theorem flS_size (f : Nat) : ∀ k, (flS f k).size ≤ 10 * k
  | 0 => by simp [flS, ByteArray.size]
  | k + 1 => by
    have h := flS_size f k
    have h2 := nameL_size k
    rw [flS]
    split
    · rw [ByteArray.size_append]
      split
      · omega
      · rw [ByteArray.size_append]
        have : (⟨#[32]⟩ : ByteArray).size = 1 := rfl
        omega
    · omega
/-- The names of the flags that are set among the first k bits. -/
def setN (f k : Nat) : List ByteArray := ((List.range k).filter (fun i => f.testBit i)).map fun i => strB (nameL i)
theorem setN_succ (f k : Nat) : setN f (k + 1) = if f.testBit k then setN f k ++ [strB (nameL k)] else setN f k := by
  unfold setN
  rw [List.range_succ, List.filter_append, List.map_append]
  cases h : f.testBit k <;> simp [h]
theorem setN_len (f k : Nat) : (setN f k).length ≤ k := by
  unfold setN
  rw [List.length_map]
  exact Nat.le_trans (List.length_filter_le _ _) (by simp)
theorem join_end (xs : List (List UInt8)) (n sep : List UInt8) : Lib.join (xs ++ [n]) sep = if xs = [] then n else Lib.join xs sep ++ sep ++ n := by
  cases xs with
  | nil => simp [Lib.join_one]
  | cons x r =>
    rw [if_neg (by simp), List.cons_append, Lib.join_cons, Lib.join_cons]
    simp [Lib.joinTail]
theorem name_ne (k : Nat) : (strB (nameL k)).data.toList ≠ [] := by
  unfold strB
  match k with
  | 0 | 1 | 2 | 3 | 4 => decide
  | k + 5 => simp [nameL]
theorem setN_join (f : Nat) : ∀ k, (flS f k).data.toList = Lib.join ((setN f k).map (·.data.toList)) [32] ∧ ((flS f k).data.toList = [] ↔ setN f k = [])
  | 0 => by simp [flS, setN, Lib.join_nil]
  | k + 1 => by
    obtain ⟨h1, h2⟩ := setN_join f k
    rw [setN_succ, flS]
    cases ht : f.testBit k with
    | false => exact ⟨h1, h2⟩
    | true =>
      simp only [if_true]
      have htl : (flS f k).toList = (flS f k).data.toList := ByteArray.toList_eq _
      rw [htl]
      have hne := name_ne k
      by_cases he : (flS f k).data.toList = []
      · rw [if_pos he]
        have hs := h2.1 he
        rw [hs]
        have e : (flS f k ++ strB (nameL k)).data.toList = (strB (nameL k)).data.toList := by rw [ByteArray.data_append, Array.toList_append, he, List.nil_append]
        rw [e]
        exact ⟨by simp [Lib.join_one], ⟨fun h => absurd h hne, fun h => by simp at h⟩⟩
      · rw [if_neg he]
        have hs : setN f k ≠ [] := fun h => he (h2.2 h)
        have e : (flS f k ++ ⟨#[32]⟩ ++ strB (nameL k)).data.toList = (flS f k).data.toList ++ [32] ++ (strB (nameL k)).data.toList := by rw [ByteArray.data_append, ByteArray.data_append, Array.toList_append, Array.toList_append]
        rw [e, List.map_append, List.map_cons, List.map_nil, join_end, if_neg (by simpa using hs), h1]
        exact ⟨rfl, ⟨fun h => by simp at h, fun h => by simp at h⟩⟩
theorem flS_join (f k : Nat) : (⟨(Lib.join ((setN f k).map (·.data.toList)) (⟨#[32]⟩ : ByteArray).data.toList).toArray⟩ : ByteArray) = flS f k := by
  have h : (⟨#[32]⟩ : ByteArray).data.toList = [32] := rfl
  rw [h, ← (setN_join f k).1]
end Go.Proofs.YtknnpgffdbkfnaaDoor
