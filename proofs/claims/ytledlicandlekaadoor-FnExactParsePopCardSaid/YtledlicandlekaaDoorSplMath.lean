import Derived.Test.YtledlicandlekaaDoorMem
import Derived.Lib.SplitLaws
import Derived.Lib.IndexBytes
import Derived.Lib.IndexLaws
import Derived.Lib.CountLaws
namespace Go.Proofs.YtledlicandlekaaDoor
open Go.RowKit
/-- A text cut at each of a byte. -/
def splitOf (b : UInt8) : List UInt8 → List (List UInt8)
  | [] => [[]]
  | x :: r => if x = b then [] :: splitOf b r else
    match splitOf b r with
    | w :: ws => (x :: w) :: ws
    | [] => [[x]]
theorem splitOf_ne (b : UInt8) (t : List UInt8) : splitOf b t ≠ [] := by
  cases t with
  | nil => simp [splitOf]
  | cons x r =>
    rw [splitOf]
    split
    · simp
    · split <;> simp
theorem splitOf_no {b : UInt8} : ∀ {t : List UInt8}, b ∉ t → splitOf b t = [t]
  | [], _ => rfl
  | x :: r, h => by
    have h1 : x ≠ b := fun e => h (by rw [e]; exact List.mem_cons_self)
    rw [splitOf, if_neg h1, splitOf_no (fun hm => h (List.mem_cons_of_mem _ hm))]
theorem splitOf_at {b : UInt8} {c : List UInt8} : ∀ {a : List UInt8}, b ∉ a → splitOf b (a ++ b :: c) = a :: splitOf b c
  | [], _ => by rw [List.nil_append, splitOf, if_pos rfl]
  | x :: r, h => by
    have h1 : x ≠ b := fun e => h (by rw [e]; exact List.mem_cons_self)
    rw [List.cons_append, splitOf, if_neg h1, splitOf_at (fun hm => h (List.mem_cons_of_mem _ hm))]
theorem splitOf_len (b : UInt8) (t : List UInt8) : (splitOf b t).length ≤ t.length + 1 := by
  induction t with
  | nil => simp [splitOf]
  | cons x r ih =>
    rw [splitOf]
    split
    · simp; omega
    · split
      · next h => rw [h] at ih; simp at ih ⊢; omega
      · simp
theorem splitOf_mem {b : UInt8} : ∀ {t w : List UInt8}, w ∈ splitOf b t → w.length ≤ t.length
  | [], w, h => by simp [splitOf] at h; simp [h]
  | x :: r, w, h => by
    rw [splitOf] at h
    split at h
    · rcases List.mem_cons.1 h with rfl | h
      · simp
      · have := splitOf_mem h; simp; omega
    · split at h
      · next w0 ws e =>
        rcases List.mem_cons.1 h with rfl | h
        · have := splitOf_mem (b := b) (t := r) (w := w0) (by rw [e]; exact List.mem_cons_self)
          simp; omega
        · have := splitOf_mem (b := b) (t := r) (w := w) (by rw [e]; exact List.mem_cons_of_mem _ h)
          simp; omega
      · simp at h; rw [h]; simp
/-- The library's Split at a byte. -/
theorem splitB_of (b : UInt8) : ∀ (n : Nat) (s : ByteArray), s.size ≤ n → (Lib.splitB ⟨#[b]⟩ 0 (Lib.countB s ⟨#[b]⟩) s).map (·.data.toList) = splitOf b s.data.toList
  | n, s, hn => by
    have hi : Lib.indexB s ⟨#[b]⟩ = Lib.indexByte s.data.toList b := Lib.index_one s.data.toList b
    have hge := Lib.indexByte_ge s.data.toList b
    by_cases h : Lib.indexB s ⟨#[b]⟩ = -1
    · rw [Lib.splitB_miss _ _ _ _ h, List.map_cons, List.map_nil]
      have hno := Lib.indexByte_none (hi ▸ h)
      rw [splitOf_no]
      intro hm
      obtain ⟨k, hk, e⟩ := List.getElem_of_mem hm
      exact hno k (by rw [List.getElem?_eq_getElem hk, e])
    · obtain ⟨i, hii⟩ := Int.eq_ofNat_of_zero_le (show 0 ≤ Lib.indexB s ⟨#[b]⟩ by omega)
      have hsome := Lib.indexByte_some (o := i) (by rw [← hi]; exact hii)
      have hlt : i < s.data.toList.length := (List.getElem?_eq_some_iff.1 hsome.1).1
      have hsz : s.data.toList.length = s.size := rfl
      have h1 : (⟨#[b]⟩ : ByteArray).size = 1 := rfl
      rw [Lib.countB_hit s _ i (by rw [h1]; omega) hii, Nat.add_comm, Lib.splitB_hit _ _ _ _ i hii, List.map_cons, h1]
      have hext : (s.extract (i + 1) s.size).data.toList = s.data.toList.drop (i + 1) := by
        have e : (s.extract (i + 1) s.size).data.toList = (s.data.toList.drop (i + 1)).take (s.size - (i + 1)) := by rw [ByteArray.data_extract, Array.toList_extract]
        rw [e, List.take_of_length_le (by rw [List.length_drop, hsz]; exact Nat.le_refl _)]
      have hext0 : (s.extract 0 (i + 0)).data.toList = s.data.toList.take i := by
        rw [ByteArray.data_extract, Array.toList_extract]; simp
      have hsm : (s.extract (i + 1) s.size).size ≤ n - 1 := by
        have : (s.extract (i + 1) s.size).data.toList.length = s.size - (i + 1) := by rw [hext, List.length_drop, hsz]
        have e2 : (s.extract (i + 1) s.size).data.toList.length = (s.extract (i + 1) s.size).size := rfl
        omega
      have hn1 : n - 1 < n := by omega
      rw [splitB_of b (n - 1) _ hsm, hext, hext0]
      have hb : s.data.toList[i] = b := by
        have := hsome.1
        rw [List.getElem?_eq_getElem hlt] at this
        simpa using this
      conv => rhs; rw [← List.take_append_drop i s.data.toList, List.drop_eq_getElem_cons hlt, hb]
      rw [splitOf_at]
      intro hm
      obtain ⟨k, hk, e⟩ := List.getElem_of_mem hm
      rw [List.length_take] at hk
      rw [List.getElem_take] at e
      exact hsome.2 k (by omega) (by rw [List.getElem?_eq_getElem (by omega), e])
termination_by n => n
/-- Small and capital letters. -/
def upN (n : Nat) : Nat := if 97 ≤ n ∧ n ≤ 122 then n - 32 else n
def loN (n : Nat) : Nat := if 65 ≤ n ∧ n ≤ 90 then n + 32 else n
theorem fold_iff (a b : Nat) : upN a = upN b ↔ loN a = loN b := by
  unfold upN loN
  split <;> split <;> split <;> split <;> omega
theorem fold_list : ∀ (l m : List Nat), l.map upN = m.map upN ↔ l.map loN = m.map loN
  | [], [] => by simp
  | [], _ :: _ => by simp
  | _ :: _, [] => by simp
  | a :: l, b :: m => by
    simp only [List.map_cons, List.cons.injEq]
    rw [fold_iff, fold_list l m]
end Go.Proofs.YtledlicandlekaaDoor
