import Derived.Test.YtknnpgffdbkfnaaSpecPc2
import Derived.Test.YtknnpgffdbkfnaaSplitGo
namespace Go.Proofs.Ytknnpgffdbkfnaa
open Go.RowKit
theorem marksV_zero (l : List Nat) : (marksV l == 0) = (isFrom l && decide (marksOf l = 0)) := by
  unfold marksV
  by_cases h : isFrom l = true
  · rw [if_pos h, h]
    by_cases h0 : marksOf l = 0
    · rw [h0]; rfl
    · rw [decide_eq_false h0]; simp; omega
  · rw [if_neg h]; simp [h]
theorem OwnS.kept {w w' : World} {lo : Nat} {v : Value} {vs : List S3} {ls : List (List Nat)} {row : Option Nat} (h : OwnS w lo v vs ls) (hg : w.grownBy w' row) (h1 : v.ownBlock = none ∨ v.ownBlock ≠ row) (h2 : ∀ y ∈ vs, y.2.2.ownBlock = none ∨ y.2.2.ownBlock ≠ row) : OwnS w' lo v vs ls := by
  refine ⟨h.len, World.ownsRow.kept h.row hg h1, fun i hi => ?_, h.apart⟩
  obtain ⟨x, hx, ho⟩ := h.body i hi
  exact ⟨x, hx, World.ownsRow.kept ho hg (h2 x (List.mem_of_getElem? hx))⟩
theorem Spg.kept {w W W' : World} {lo2 : Nat} {sv v : Value} {ex nx : Nat} {xs : List Value} {vs : List S3} {ls : List (List Nat)} {row : Option Nat} (h : Spg w W lo2 sv v ex nx xs vs ls) (hg : W.grownBy W' row) (hr : ∀ g, row = some g → lo2 ≤ g) (h1 : v.ownBlock = none ∨ v.ownBlock ≠ row) (h2 : ∀ y ∈ vs, y.2.2.ownBlock = none ∨ y.2.2.ownBlock ≠ row) : Spg w W' lo2 sv v ex nx xs vs ls := by
  have hlo := h.lo
  have hsz := h.sz
  refine ⟨h.b0.grown hg (fun e => by have := hr _ e.symm; omega), h.b1.grown hg (fun e => by have := hr _ e.symm; omega), World.ownsRow.kept h.st hg ?_, h.stlt, h.os.kept hg h1 h2, h.bel.grown hg (by omega) (fun g e => by have := hr g e; omega), Nat.le_trans h.sz hg.size, h.lo⟩
  cases hb : sv.ownBlock with
  | none => exact .inl rfl
  | some g => exact .inr fun e => by have := hr g e.symm; have := h.stlt g hb; omega
end Go.Proofs.Ytknnpgffdbkfnaa
