import Derived.Test.YtokcdpamcbpaiabMem
import Derived.Lib.BytesEntry
import Derived.Lib.SlBytesConst
namespace Go.Proofs.Ytokcdpamcbpaiab
open Go.RowKit
/-- How many bytes the first line of a text has, with its end. -/
def cutAt : List Nat → Nat
  | [] => 0
  | x :: r => if x = 10 then 1 else cutAt r + 1
theorem cutAt_le (l : List Nat) : cutAt l ≤ l.length := by
  induction l with
  | nil => simp [cutAt]
  | cons x r ih => simp only [cutAt, List.length_cons]; split <;> omega
theorem cutAt_pos (l : List Nat) (h : 0 < l.length) : 0 < cutAt l := by
  cases l with
  | nil => simp at h
  | cons x r => simp only [cutAt]; split <;> omega
theorem cutAt_none (l : List Nat) (h : ¬ 10 ∈ l) : cutAt l = l.length := by
  induction l with
  | nil => rfl
  | cons x r ih =>
    simp only [List.mem_cons, not_or] at h
    simp only [cutAt, List.length_cons]
    rw [if_neg (fun e => h.1 e.symm), ih h.2]
/-- The lines of a text: each with its place and its length, from a place on. -/
def spansF : Nat → Nat → List Nat → List (Nat × Nat)
  | 0, _, _ => []
  | f + 1, p, d => if d.length = 0 then [] else (p, cutAt d) :: spansF f (p + cutAt d) (d.drop (cutAt d))
def spansOf (d : List Nat) : List (Nat × Nat) := spansF d.length 0 d
theorem spansF_nil (f p : Nat) (d : List Nat) (h : d.length = 0) : spansF f p d = [] := by
  cases f with
  | zero => rfl
  | succ f => simp [spansF, h]
theorem spansF_more (f g p : Nat) (d : List Nat) (h : d.length ≤ f) (h' : d.length ≤ g) : spansF f p d = spansF g p d := by
  induction f generalizing g p d with
  | zero => rw [spansF_nil _ _ _ (by omega), spansF_nil _ _ _ (by omega)]
  | succ f ih =>
    cases g with
    | zero => rw [spansF_nil _ _ _ (by omega), spansF_nil _ _ _ (by omega)]
    | succ g =>
      simp only [spansF]
      split
      · rfl
      · next hz =>
        have hp := cutAt_pos d (by omega)
        rw [ih g _ _ (by rw [List.length_drop]; omega) (by rw [List.length_drop]; omega)]
/-- The place of the first line's end, as the library tells it. -/
def nlOf (l : List Nat) : Int := if 10 ∈ l then (cutAt l : Int) - 1 else -1
theorem nl_eq (l : List Nat) (hb : ∀ x ∈ l, x < 256) : Lib.indexByte (l.map fun n => UInt8.ofNat n) 10 = nlOf l := by
  unfold nlOf
  induction l with
  | nil => rfl
  | cons x r ih =>
    have ih' := ih (fun y hy => hb y (List.mem_cons_of_mem _ hy))
    have hx := hb x (List.mem_cons_self ..)
    simp only [List.map_cons, Lib.indexByte, cutAt]
    by_cases e : x = 10
    · subst e
      simp
    · have h1 : (UInt8.ofNat x == 10) = false := by
        apply beq_eq_false_iff_ne.2
        intro h
        have h2 := congrArg UInt8.toNat h
        simp at h2
        omega
      rw [h1, if_neg e, ih']
      by_cases h10 : 10 ∈ r
      · have hc := cutAt_pos r (List.length_pos_of_mem h10)
        have h3 : 10 ∈ x :: r := List.mem_cons_of_mem _ h10
        rw [if_pos h10, if_pos h3]
        have h4 : (((cutAt r : Int) - 1) == -1) = false := by simp; omega
        rw [h4]
        simp
      · have h3 : ¬ 10 ∈ x :: r := by simp only [List.mem_cons, not_or]; exact ⟨fun h => e h.symm, h10⟩
        rw [if_neg h10, if_neg h3]
        simp
theorem indexByte_any (b off cap : Nat) (l : List Nat) (w : World) (hc : ∀ i (h : i < l.length), w.cell? ⟨b, off + i, none⟩ = some (.int .u8 ((l[i] : Nat) : Int))) (hb : ∀ x ∈ l, x < 256) :
    Calls Try.prog 51 #[.slice (some ⟨b, off, none⟩) l.length cap, .int .u8 10] w fun e w' => e = .returned (.int .i64 (nlOf l)) ∧ w' = w := by
  go_enter Try.func51, Try.ntmps51
  go_wp2
  rw [run_callFunc_extern Try.func54 (by kernel_rfl) (by kernel_rfl) (by kernel_rfl) (e := Extern.BytealgIndexByte.indexByte) (by kernel_rfl),
    Lib.run_indexByteSlice w b off l.length cap (l.map fun n : Nat => (n : Int)) (by simp) (fun i hi => by rw [hc i hi]; simp [hi]) 10]
  simp only [Result.andThen]
  rw [Oper.upon_value]
  go_wp2
  go_ret
  have e : Lib.bytesOf (l.map fun n : Nat => (n : Int)) = l.map fun n => UInt8.ofNat n := by
    unfold Lib.bytesOf
    rw [List.map_map]
    rfl
  refine ⟨?_, rfl⟩
  show Ending.returned (.int .i64 (Lib.indexByte (Lib.bytesOf (l.map fun n : Nat => (n : Int))) 10)) = _
  rw [e, nl_eq l hb]
end Go.Proofs.Ytokcdpamcbpaiab
