import Derived.Test.YtknnpgffdbkfnaaDoorMath
namespace Go.Proofs.YtknnpgffdbkfnaaDoor
def hd2 (n : Nat) : List Nat := [n / 256 % 256, n % 256]
def be4 (c : Nat) : List Nat := [c / 16777216 % 256, c / 65536 % 256, c / 256 % 256, c % 256]
/-- The frame of a record. -/
def frameB (r : List Nat) : List Nat := hd2 r.length ++ be4 (crcOf (hd2 r.length ++ r)) ++ r
theorem frameB_length (r : List Nat) : (frameB r).length = 6 + r.length := by simp [frameB, hd2, be4]; omega
theorem hd2_lt (n : Nat) : ∀ x ∈ hd2 n, x < 256 := by
  intro x hx; simp [hd2] at hx; omega
theorem be4_lt (n : Nat) : ∀ x ∈ be4 n, x < 256 := by
  intro x hx; simp [be4] at hx; omega
theorem app_lt {a b : List Nat} (ha : ∀ x ∈ a, x < 256) (hb : ∀ x ∈ b, x < 256) : ∀ x ∈ a ++ b, x < 256 := by
  intro x hx; rcases List.mem_append.1 hx with h | h
  · exact ha x h
  · exact hb x h
theorem frameB_lt (r : List Nat) (h : ∀ x ∈ r, x < 256) : ∀ x ∈ frameB r, x < 256 := app_lt (app_lt (hd2_lt _) (be4_lt _)) h
theorem crc_two (a b : List Nat) : crcFold (crcFold 4294967295 a) b = crcFold 4294967295 (a ++ b) := by simp [crcFold]
/-- The frames of the records, or none where a record or the whole is out of bounds. -/
def frameGo (acc : List Nat) : List (List Nat) → Option (List Nat)
  | [] => some acc
  | r :: rs => if r.length < 1 ∨ 2000 < r.length ∨ 40000 < acc.length + 6 + r.length then none else frameGo (acc ++ frameB r) rs
def frameOf (ls : List (List Nat)) : List Nat := (frameGo [] ls).getD []
theorem frameGo_len (acc : List Nat) (ls : List (List Nat)) (r : List Nat) (ha : acc.length ≤ 40000) (h : frameGo acc ls = some r) : r.length ≤ 40000 := by
  induction ls generalizing acc with
  | nil => simp [frameGo] at h; subst h; exact ha
  | cons x t ih =>
    simp only [frameGo] at h
    split at h
    · cases h
    · exact ih _ (by rw [List.length_append, frameB_length]; omega) h
theorem frameOf_len (ls : List (List Nat)) : (frameOf ls).length ≤ 40000 := by
  unfold frameOf
  cases h : frameGo [] ls with
  | none => simp
  | some r => exact frameGo_len [] ls r (by simp) h
theorem frameGo_lt (acc : List Nat) (ls : List (List Nat)) (r : List Nat) (ha : ∀ x ∈ acc, x < 256) (hl : ∀ l ∈ ls, ∀ x ∈ l, x < 256) (h : frameGo acc ls = some r) : ∀ x ∈ r, x < 256 := by
  induction ls generalizing acc with
  | nil => simp [frameGo] at h; subst h; exact ha
  | cons x t ih =>
    simp only [frameGo] at h
    split at h
    · cases h
    · exact ih _ (app_lt ha (frameB_lt x (hl x List.mem_cons_self))) (fun l h' => hl l (List.mem_cons_of_mem _ h')) h
theorem frameOf_lt (ls : List (List Nat)) (hl : ∀ l ∈ ls, ∀ x ∈ l, x < 256) : ∀ x ∈ frameOf ls, x < 256 := by
  unfold frameOf
  cases h : frameGo [] ls with
  | none => intro x hx; simp at hx
  | some r => exact frameGo_lt [] ls r (fun x hx => by cases hx) hl h
end Go.Proofs.YtknnpgffdbkfnaaDoor
