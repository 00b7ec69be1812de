import Derived.Test.YtknnpgffdbkfnaaDoorFrameMath
namespace Go.Proofs.YtknnpgffdbkfnaaDoor
/-- The length that the first two bytes tell. -/
def len2 (d : List Nat) : Nat := d.getD 0 0 * 256 + d.getD 1 0
/-- The record of the frame that d begins with. -/
def firstOf (d : List Nat) : Option (List Nat) :=
  if d.length < 6 then none
  else if len2 d < 1 ∨ 2000 < len2 d ∨ d.length < 6 + len2 d then none
  else if frameB ((d.drop 6).take (len2 d)) = d.take (6 + len2 d) then some ((d.drop 6).take (len2 d)) else none
theorem firstOf_short {d : List Nat} (h : d.length < 6) : firstOf d = none := by simp [firstOf, h]
theorem firstOf_bad {d : List Nat} (h0 : ¬ d.length < 6) (h : len2 d < 1 ∨ 2000 < len2 d ∨ d.length < 6 + len2 d) : firstOf d = none := by
  unfold firstOf; rw [if_neg h0, if_pos h]
theorem firstOf_no {d : List Nat} (h0 : ¬ d.length < 6) (h : ¬ (len2 d < 1 ∨ 2000 < len2 d ∨ d.length < 6 + len2 d)) (hf : ¬ frameB ((d.drop 6).take (len2 d)) = d.take (6 + len2 d)) : firstOf d = none := by
  unfold firstOf; rw [if_neg h0, if_neg h, if_neg hf]
theorem firstOf_yes {d : List Nat} (h0 : ¬ d.length < 6) (h : ¬ (len2 d < 1 ∨ 2000 < len2 d ∨ d.length < 6 + len2 d)) (hf : frameB ((d.drop 6).take (len2 d)) = d.take (6 + len2 d)) : firstOf d = some ((d.drop 6).take (len2 d)) := by
  unfold firstOf; rw [if_neg h0, if_neg h, if_pos hf]
theorem firstOf_len {d r : List Nat} (h : firstOf d = some r) : 1 ≤ r.length ∧ r.length ≤ 2000 ∧ 6 + r.length ≤ d.length := by
  unfold firstOf at h
  split at h
  · cases h
  · split at h
    · cases h
    · split at h
      · simp only [Option.some.injEq] at h
        subst h
        simp; omega
      · cases h
theorem firstOf_lt {d r : List Nat} (hd : ∀ x ∈ d, x < 256) (h : firstOf d = some r) : ∀ x ∈ r, x < 256 := by
  unfold firstOf at h
  split at h
  · cases h
  · split at h
    · cases h
    · split at h
      · simp only [Option.some.injEq] at h
        subst h
        intro x hx
        exact hd x (List.mem_of_mem_drop (List.mem_of_mem_take hx))
      · cases h
def unfGo (d : List Nat) : Nat → List (List Nat) → Nat → List (List Nat) × Nat
  | 0, rs, g => (rs, g)
  | f + 1, rs, g => match firstOf (d.drop g) with
    | none => (rs, g)
    | some r => unfGo d f (rs ++ [r]) (g + (6 + r.length))
def unfOf (d : List Nat) : List (List Nat) × Nat := if 40000 < d.length then ([], 0) else unfGo d d.length [] 0
theorem unf_none {d : List Nat} {f : Nat} {rs : List (List Nat)} {g : Nat} (h : firstOf (d.drop g) = none) : unfGo d f rs g = (rs, g) := by
  cases f with
  | zero => rfl
  | succ f => simp [unfGo, h]
theorem unf_some {d : List Nat} {f : Nat} {rs : List (List Nat)} {g : Nat} {r : List Nat} (hf : d.length ≤ g + f) (h : firstOf (d.drop g) = some r) : ∃ f', f = f' + 1 ∧ unfGo d f rs g = unfGo d f' (rs ++ [r]) (g + (6 + r.length)) ∧ d.length ≤ g + (6 + r.length) + f' := by
  have hl := firstOf_len h
  simp at hl
  cases f with
  | zero => omega
  | succ f => exact ⟨f, rfl, by simp [unfGo, h], by omega⟩
end Go.Proofs.YtknnpgffdbkfnaaDoor
