import Derived.Test.YtknnpgffdbkfnaaDoorUnframeMath
namespace Go.Proofs.YtknnpgffdbkfnaaDoor
/-- The k-th byte of the code; past its end 0. -/
def nx (code : List Nat) (i : Nat) : Nat := code.getD i 0
def dataLen (c : Nat) : Nat := if c < 200 then c % 12 else c
def dataAt (code : List Nat) (i : Nat) : List Nat := (List.range (dataLen (nx code i))).map fun k => nx code (i + 1 + k)
def recAt (code : List Nat) (i : Nat) : List Nat := if dataAt code i = [] then [120] else dataAt code i
def recsGo (code : List Nat) : Nat → Nat → List (List Nat)
  | 0, _ => []
  | m + 1, i => recAt code i :: recsGo code m (i + 1 + dataLen (nx code i))
def drawOf (code : List Nat) : List (List Nat) :=
  recsGo code (nx code 1 % 9) 2 ++
    (if nx code 0 % 20 = 0 then [[]] else if nx code 0 % 20 = 1 then [List.replicate (2000 + nx code 0 / 20 % 2) 0] else if nx code 0 % 20 = 2 then List.replicate 19 (List.replicate 2000 0) ++ [List.replicate (1880 + nx code 0 / 20) 0] else [])
theorem nx_lt {code : List Nat} (h : ∀ x ∈ code, x < 256) (i : Nat) : nx code i < 256 := by
  unfold nx
  rcases Nat.lt_or_ge i code.length with h' | h'
  · simp [h']; exact h _ (List.getElem_mem h')
  · simp [List.getElem?_eq_none h']
theorem dataLen_lt {c : Nat} (h : c < 256) : dataLen c < 256 := by unfold dataLen; split <;> omega
theorem dataAt_length (code : List Nat) (i : Nat) : (dataAt code i).length = dataLen (nx code i) := by simp [dataAt]
theorem recsGo_length (code : List Nat) (m i : Nat) : (recsGo code m i).length = m := by
  induction m generalizing i with
  | zero => rfl
  | succ m ih => simp [recsGo, ih]
theorem recAt_ok {code : List Nat} (h : ∀ x ∈ code, x < 256) (i : Nat) : (recAt code i).length < 256 ∧ ∀ x ∈ recAt code i, x < 256 := by
  unfold recAt
  split
  · exact ⟨by simp, by intro x hx; simp at hx; omega⟩
  · refine ⟨by rw [dataAt_length]; exact dataLen_lt (nx_lt h i), fun x hx => ?_⟩
    simp only [dataAt, List.mem_map] at hx
    obtain ⟨k, _, rfl⟩ := hx
    exact nx_lt h _
theorem recsGo_ok {code : List Nat} (h : ∀ x ∈ code, x < 256) (m i : Nat) : ∀ l ∈ recsGo code m i, l.length ≤ 4000 ∧ ∀ x ∈ l, x < 256 := by
  induction m generalizing i with
  | zero => intro l hl; simp [recsGo] at hl
  | succ m ih =>
    intro l hl
    rcases List.mem_cons.1 hl with rfl | hl
    · exact ⟨by have := (recAt_ok h i).1; omega, (recAt_ok h i).2⟩
    · exact ih _ l hl
theorem drawOf_ok {code : List Nat} (h : ∀ x ∈ code, x < 256) : (drawOf code).length ≤ 100 ∧ ∀ l ∈ drawOf code, l.length ≤ 4000 ∧ ∀ x ∈ l, x < 256 := by
  have h0 := nx_lt h 0
  constructor
  · unfold drawOf
    rw [List.length_append, recsGo_length]
    have : nx code 1 % 9 < 9 := Nat.mod_lt _ (by decide)
    split
    · simp only [List.length_cons, List.length_nil]; omega
    · split
      · simp only [List.length_cons, List.length_nil]; omega
      · split
        · rw [List.length_append, List.length_replicate]; simp only [List.length_cons, List.length_nil]; omega
        · simp only [List.length_nil]; omega
  · intro l hl
    unfold drawOf at hl
    rcases List.mem_append.1 hl with hl | hl
    · exact recsGo_ok h _ _ l hl
    · have hz : ∀ n, n ≤ 4000 → l = List.replicate n 0 → l.length ≤ 4000 ∧ ∀ x ∈ l, x < 256 := by
        intro n hn e
        subst e
        exact ⟨by rw [List.length_replicate]; exact hn, fun x hx => by have := (List.mem_replicate.1 hx).2; omega⟩
      split at hl
      · obtain rfl : l = [] := List.mem_singleton.1 hl
        exact ⟨by simp, fun x hx => by cases hx⟩
      · split at hl
        · exact hz (2000 + nx code 0 / 20 % 2) (by omega) (List.mem_singleton.1 hl)
        · split at hl
          · rcases List.mem_append.1 hl with hl | hl
            · exact hz 2000 (by omega) (List.mem_replicate.1 hl).2
            · exact hz (1880 + nx code 0 / 20) (by omega) (List.mem_singleton.1 hl)
          · cases hl
end Go.Proofs.YtknnpgffdbkfnaaDoor
