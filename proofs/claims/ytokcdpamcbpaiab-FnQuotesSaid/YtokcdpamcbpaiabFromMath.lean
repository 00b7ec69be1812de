import Derived.Test.YtokcdpamcbpaiabLinesIter
import Derived.Test.YtokcdpamcbpaiabPairs
namespace Go.Proofs.Ytokcdpamcbpaiab
open Go.RowKit
/-- How many '>' a line begins with. -/
def marksOf : List Nat → Nat
  | [] => 0
  | x :: r => if x = 62 then marksOf r + 1 else 0
theorem marksOf_le (l : List Nat) : marksOf l ≤ l.length := by
  induction l with
  | nil => simp [marksOf]
  | cons x r ih => simp only [marksOf, List.length_cons]; split <;> omega
theorem marksOf_at (l : List Nat) (k : Nat) (hk : k < l.length) (h1 : ∀ j (h : j < l.length), j < k → l[j] = 62) (h2 : l[k] ≠ 62) : marksOf l = k := by
  induction l generalizing k with
  | nil => simp at hk
  | cons x r ih =>
    cases k with
    | zero => simp at h2; simp [marksOf, h2]
    | succ k =>
      have hx : x = 62 := h1 0 (by simp) (by omega)
      simp only [marksOf]
      rw [if_pos hx, ih k (by simpa using hk) (fun j hj hjk => by have := h1 (j + 1) (by simp; omega) (by omega); simpa using this) (by simpa using h2)]
theorem marksOf_all (l : List Nat) (h1 : ∀ j (h : j < l.length), l[j] = 62) : marksOf l = l.length := by
  induction l with
  | nil => rfl
  | cons x r ih =>
    have hx : x = 62 := h1 0 (by simp)
    simp only [marksOf, List.length_cons]
    rw [if_pos hx, ih (fun j hj => by have := h1 (j + 1) (by simp; omega); simpa using this)]
def fromW : List Nat := [70, 114, 111, 109, 32]
/-- Is a line some '>' and then the word? -/
def isFrom (l : List Nat) : Bool := decide ((l.drop (marksOf l)).take fromW.length = fromW)
theorem isFrom_all (l : List Nat) (h1 : ∀ j (h : j < l.length), l[j] = 62) : isFrom l = false := by
  unfold isFrom
  rw [marksOf_all l h1]
  simp [fromW]
def pieceOf (d : List Nat) (x : Nat × Nat) : List Nat := (d.drop x.1).take x.2
theorem piece_len (d : List Nat) (x : Nat × Nat) (h : x.1 + x.2 ≤ d.length) : (pieceOf d x).length = x.2 := by simp [pieceOf]; omega
def sumS : List (Nat × Nat) → Nat
  | [] => 0
  | x :: r => x.2 + sumS r
theorem sumS_append (a b : List (Nat × Nat)) : sumS (a ++ b) = sumS a + sumS b := by
  induction a with
  | nil => simp [sumS]
  | cons x r ih => simp [sumS, ih]; omega
/-- The lines that are of the form, each with its place and its '>'. -/
def fromsTo (d : List Nat) : Nat → List (Nat × Nat) → List (Nat × Nat)
  | _, [] => []
  | s, x :: r => (if isFrom (pieceOf d x) then [(s, marksOf (pieceOf d x))] else []) ++ fromsTo d (s + x.2) r
theorem fromsTo_snoc (d : List Nat) (s : Nat) (xs : List (Nat × Nat)) (x : Nat × Nat) : fromsTo d s (xs ++ [x]) = fromsTo d s xs ++ (if isFrom (pieceOf d x) then [(s + sumS xs, marksOf (pieceOf d x))] else []) := by
  induction xs generalizing s with
  | nil => simp [fromsTo, sumS]
  | cons y r ih =>
    simp only [List.cons_append, fromsTo, sumS]
    rw [ih, List.append_assoc, Nat.add_assoc]
theorem fromsTo_len (d : List Nat) (s : Nat) (xs : List (Nat × Nat)) : (fromsTo d s xs).length ≤ xs.length := by
  induction xs generalizing s with
  | nil => simp [fromsTo]
  | cons y r ih =>
    simp only [fromsTo, List.length_append, List.length_cons]
    have := ih (s + y.2)
    split <;> simp <;> omega
def fromsOf (d : List Nat) : List (Nat × Nat) := fromsTo d 0 (spansOf d)
def frV (p : Nat × Nat) : Value × Value := (.int .i64 (p.1 : Int), .int .i64 (p.2 : Int))
theorem sumS_le (d : List Nat) (xs : List (Sp d)) : sumS (xs.map (·.1)) ≤ xs.length * d.length := by
  induction xs with
  | nil => simp [sumS]
  | cons x r ih =>
    have := x.2
    simp only [List.map_cons, sumS, List.length_cons, Nat.add_mul]
    omega
theorem two_append (l m : List (Value × Value)) : two (l ++ m) = two l ++ two m := by simp [two]
theorem own_calm {W W' : World} {n₀ bs base e sz n : Nat} {v : Value} {xs : List Value} (h : W.ownsRow base e sz v n xs) (hc : Calm n₀ bs W W') (hb : bs < base) : W'.ownsRow base e sz v n xs := by
  refine ⟨h.1, ?_⟩
  rcases h.2 with hn | ⟨g, cap, cur, hv, hbase, hg, rest⟩
  · exact .inl hn
  · exact .inr ⟨g, cap, cur, hv, hbase, hc.cells g _ hg rfl (by omega), rest⟩
end Go.Proofs.Ytokcdpamcbpaiab
