import Derived.Test.YtledlicandlekaaDoorCutIm1
import Derived.Test.YtledlicandlekaaDoorImplRd
import Derived.Test.YtledlicandlekaaDoorShelfB
namespace Go.Proofs.YtledlicandlekaaDoor
open Go.RowKit
def intsOf (d : List Nat) : List Int := d.map fun (x : Nat) => (x : Int)
theorem intsOf_len (d : List Nat) : (intsOf d).length = d.length := by unfold intsOf; rw [List.length_map]
theorem bytes_intsOf (d : List Nat) : Lib.bytesOf (intsOf d) = d.map UInt8.ofNat := by
  unfold Lib.bytesOf intsOf
  rw [List.map_map]
  exact List.map_congr_left fun x _ => by simp
theorem Tx.bytesIn {w : World} {b off : Nat} {d : List Nat} (h : Tx w b off d) : Lib.BytesIn w (some ⟨b, off, none⟩) d.length (intsOf d) := fun _ => ⟨b, off, rfl, fun i hi => by
  rw [h i hi, List.getD_eq_getElem?_getD, intsOf, List.getElem?_map, List.getElem?_eq_getElem hi]
  rfl⟩
theorem two_bytes {w : World} {g : Nat} (h0 : w.cell? ⟨g, 0, none⟩ = some (.int .u8 13)) (h1 : w.cell? ⟨g, 1, none⟩ = some (.int .u8 10)) : Lib.BytesIn w (some ⟨g, 0, none⟩) 2 [13, 10] := fun _ => ⟨g, 0, rfl, fun i hi => by
  match i, hi with
  | 0, _ => exact h0
  | 1, _ => exact h1
  | i + 2, h => omega⟩
theorem one_byte {w : World} {g : Nat} (h0 : w.cell? ⟨g, 0, none⟩ = some (.int .u8 125)) : Lib.BytesIn w (some ⟨g, 0, none⟩) 1 [125] := fun _ => ⟨g, 0, rfl, fun i hi => by
  obtain rfl : i = 0 := by omega
  exact h0⟩
theorem ofNat_eq {x y : Nat} (hx : x < 256) (hy : y < 256) : (UInt8.ofNat x = UInt8.ofNat y) ↔ x = y := by
  constructor
  · intro h
    have := congrArg UInt8.toNat h
    simp at this
    omega
  · rintro rfl; rfl
/-- Does a text begin with a line's end? -/
def begE (d : List Nat) : Bool := decide (d.head? = some 13 ∧ d.tail.head? = some 10)
theorem pre_end {d : List Nat} (h : ∀ x ∈ d, x < 256) : Lib.hasPrefix (d.map UInt8.ofNat) (Lib.bytesOf [13, 10]) = begE d := by
  match d, h with
  | [], _ => rfl
  | [x], h => simp [Lib.hasPrefix, Lib.bytesOf, begE, List.isPrefixOf]
  | x :: y :: r, h =>
    have hx := ofNat_eq (h x (by simp)) (show 13 < 256 by omega)
    have hy := ofNat_eq (h y (by simp)) (show 10 < 256 by omega)
    have e1 : (13 : UInt8) = UInt8.ofNat 13 := rfl
    have e2 : (10 : UInt8) = UInt8.ofNat 10 := rfl
    simp only [Lib.hasPrefix, Lib.bytesOf, begE, List.map_cons, List.map_nil, List.isPrefixOf, Bool.and_true, List.head?_cons, List.tail_cons, Option.some.injEq]
    rw [Bool.eq_iff_iff]
    simp only [Bool.and_eq_true, beq_iff_eq, decide_eq_true_eq]
    rw [eq_comm, ← hx, eq_comm (b := UInt8.ofNat y), ← hy]
    exact Iff.rfl
theorem suf_end {d : List Nat} (h : ∀ x ∈ d, x < 256) : Lib.hasSuffix (d.map UInt8.ofNat) (Lib.bytesOf [125]) = decide (d.getLast? = some 125) := by
  rw [Bool.eq_iff_iff, decide_eq_true_eq]
  unfold Lib.hasSuffix
  rw [List.isSuffixOf_iff_suffix]
  rcases List.eq_nil_or_concat d with rfl | ⟨l, x, rfl⟩
  · simp [Lib.bytesOf]
  · have hx := ofNat_eq (h x (by simp)) (show 125 < 256 by omega)
    rw [List.concat_eq_append, List.map_append, List.getLast?_append]
    simp only [List.map_cons, List.map_nil, List.getLast?_singleton, Option.some.injEq, Option.some_or]
    rw [← hx, show Lib.bytesOf [125] = [UInt8.ofNat 125] from rfl]
    constructor
    · rintro ⟨t, e⟩
      exact (List.append_inj' e rfl).2 |> fun h => by simpa using h.symm
    · intro e
      exact ⟨_, by rw [e]⟩
theorem index_end : ∀ {d : List Nat}, (∀ x ∈ d, x < 256) → Lib.index (d.map UInt8.ofNat) (Lib.bytesOf [13, 10]) = match findEnd d with | some e => (e : Int) | none => -1
  | [], _ => rfl
  | x :: r, h => by
    have ih := index_end (d := r) (fun y hy => h y (by simp [hy]))
    have hp := pre_end h
    rw [List.map_cons] at hp ⊢
    rw [Lib.index, findEnd]
    unfold Lib.hasPrefix begE at hp
    rw [hp, ih]
    simp only [List.head?_cons, List.tail_cons, Option.some.injEq, decide_eq_true_eq]
    by_cases hc : x = 13 ∧ r.head? = some 10
    · rw [if_pos hc, if_pos hc]; rfl
    · rw [if_neg hc, if_neg hc]
      cases findEnd r with
      | none => rfl
      | some e =>
        simp only [Option.map_some]
        rw [if_neg (by simp)]
        simp
end Go.Proofs.YtledlicandlekaaDoor
