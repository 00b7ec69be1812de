import Derived.Test.YtknnpgffdbkfnaaDoorLists
namespace Go.Proofs.YtknnpgffdbkfnaaDoor
open Go.RowKit
/-- The cells of a list of pairs. -/
def two (l : List (Value × Value)) : List Value := l.flatMap fun p => [p.1, p.2]
theorem two_cons (p : Value × Value) (l : List (Value × Value)) : two (p :: l) = p.1 :: p.2 :: two l := rfl
theorem two_length (l : List (Value × Value)) : (two l).length = l.length * 2 := by
  induction l with
  | nil => rfl
  | cons p l ih => rw [two_cons]; simp [ih]; omega
theorem two_get0 (l : List (Value × Value)) (i : Nat) (h : i < l.length) : (two l)[i * 2]? = some l[i].1 := by
  induction l generalizing i with
  | nil => simp at h
  | cons p l ih =>
    cases i with
    | zero => simp [two_cons]
    | succ i =>
      rw [two_cons, show (i + 1) * 2 = i * 2 + 1 + 1 from by omega]
      simp only [List.getElem?_cons_succ, List.getElem_cons_succ]
      exact ih i (by simpa using h)
theorem two_get1 (l : List (Value × Value)) (i : Nat) (h : i < l.length) : (two l)[i * 2 + 1]? = some l[i].2 := by
  induction l generalizing i with
  | nil => simp at h
  | cons p l ih =>
    cases i with
    | zero => simp [two_cons]
    | succ i =>
      rw [two_cons, show (i + 1) * 2 + 1 = (i * 2 + 1) + 1 + 1 from by omega]
      simp only [List.getElem?_cons_succ, List.getElem_cons_succ]
      exact ih i (by simpa using h)
theorem two_set (l : List (Value × Value)) (i : Nat) (x y : Value) : ((two l).set (i * 2) x).set (i * 2 + 1) y = two (l.set i (x, y)) := by
  induction l generalizing i with
  | nil => simp [two]
  | cons p l ih =>
    cases i with
    | zero => simp [two_cons]
    | succ i =>
      rw [two_cons, show (i + 1) * 2 + 1 = (i * 2 + 1) + 1 + 1 from by omega, show (i + 1) * 2 = i * 2 + 1 + 1 from by omega]
      simp only [List.set_cons_succ, two_cons]
      rw [ih i]
theorem two_made (z0 z1 : Value) (n : Nat) : (madeCells #[z0, z1] (n * 2)).toList = two (List.replicate n (z0, z1)) := by
  apply List.ext_getElem?
  intro j
  by_cases hj : j < n * 2
  · obtain ⟨i, rfl | rfl⟩ : ∃ i, j = i * 2 ∨ j = i * 2 + 1 := ⟨j / 2, by omega⟩
    · rw [two_get0 _ _ (by simp; omega)]
      simp [madeCells, hj]
    · rw [two_get1 _ _ (by simp; omega)]
      simp [madeCells, hj]
  · rw [List.getElem?_eq_none (by simp [size_madeCells]; omega), List.getElem?_eq_none (by rw [two_length]; simp; omega)]
/-- A slice of the call's own whose elements are pairs of cells. -/
def Own2 (w : World) (base : Nat) (e : TypeId) (v : Value) (l : List (Value × Value)) : Prop := w.ownsRow base e 2 v l.length (two l)
theorem Own2.slice {w : World} {base : Nat} {e : TypeId} {v : Value} {l : List (Value × Value)} (h : Own2 w base e v l) : ∃ a cap, v = .slice a l.length cap := by
  rcases h.2 with ⟨rfl, hn⟩ | ⟨g, cap, cur, rfl, _⟩
  · exact ⟨none, 0, by rw [hn]⟩
  · exact ⟨_, cap, rfl⟩
theorem Own2.store {w : World} {base e g n cap : Nat} {l : List (Value × Value)} (h : Own2 w base e (.slice (some ⟨g, 0, none⟩) n cap) l) (k : Nat) (x y : Value) :
    Own2 ((w.setCell ⟨g, k * 2, none⟩ x).setCell ⟨g, k * 2 + 1, none⟩ y) base e (.slice (some ⟨g, 0, none⟩) n cap) (l.set k (x, y)) := by
  obtain ⟨a, c, e1⟩ := h.slice
  simp only [Value.slice.injEq] at e1
  obtain ⟨_, rfl, rfl⟩ := e1
  have h1 := (World.ownsRow.stored (World.ownsRow.stored h (k * 2) x).1 (k * 2 + 1) y).1
  unfold Own2
  rw [List.length_set, ← two_set]
  exact h1
theorem Own2.cells {w : World} {base e g n cap : Nat} {l : List (Value × Value)} (h : Own2 w base e (.slice (some ⟨g, 0, none⟩) n cap) l) (k : Nat) (hk : k < l.length) : w.cell? ⟨g, k * 2, none⟩ = some l[k].1 ∧ w.cell? ⟨g, k * 2 + 1, none⟩ = some l[k].2 := by
  have h0 := World.ownsRow.cells h (g := g) rfl (k * 2) _ (two_get0 l k hk)
  have h1 := World.ownsRow.cells h (g := g) rfl (k * 2 + 1) _ (two_get1 l k hk)
  rw [addr_add, Nat.zero_add] at h0 h1
  exact ⟨h0, h1⟩
theorem Own2.frozen {w : World} {base e g n cap : Nat} {l : List (Value × Value)} (h : Own2 w base e (.slice (some ⟨g, 0, none⟩) n cap) l) (k : Nat) : w.frozen? ⟨g, k, none⟩ = false := by
  obtain ⟨a, c, e1⟩ := h.slice
  simp only [Value.slice.injEq] at e1
  obtain ⟨_, rfl, rfl⟩ := e1
  exact World.ownsRow.frozenAt h k
theorem Own2.below {B base e : Nat} {w w' : World} {v : Value} {l : List (Value × Value)} (h : Own2 w base e v l) (hb : Below B w w') (hB : w.heap.size ≤ B) : Own2 w' base e v l := by
  refine ⟨h.1, ?_⟩
  rcases h.2 with hn | ⟨g, cap, cur, hv, hg0, hg, rest⟩
  · exact .inl hn
  · refine .inr ⟨g, cap, cur, hv, hg0, ?_, rest⟩
    have hlt : g < w.heap.size := by
      rcases Nat.lt_or_ge g w.heap.size with h' | h'
      · exact h'
      · simp [Array.getElem?_eq_none h'] at hg
    rw [hb.block g (Nat.lt_of_lt_of_le hlt hB)]; exact hg
/-- What a copy has written behind k rounds. -/
def halfA {α : Type} (z : α) (l : List α) (k : Nat) : List α := l.take k ++ List.replicate (l.length - k) z
theorem halfA_zero {α : Type} (z : α) (l : List α) : halfA z l 0 = List.replicate l.length z := by simp [halfA]
theorem halfA_len {α : Type} (z : α) (l : List α) : halfA z l l.length = l := by simp [halfA]
theorem halfA_length {α : Type} (z : α) (l : List α) (k : Nat) (h : k ≤ l.length) : (halfA z l k).length = l.length := by simp [halfA]; omega
theorem halfA_set {α : Type} (z : α) (l : List α) (k : Nat) (h : k < l.length) : (halfA z l k).set k l[k] = halfA z l (k + 1) := by
  unfold halfA
  rw [List.set_append_right _ _ (by simp; omega)]
  have e : k - (l.take k).length = 0 := by simp; omega
  rw [e, show l.length - k = (l.length - (k + 1)) + 1 from by omega, List.replicate_succ, List.set_cons_zero, List.take_succ_eq_append_getElem h]
  simp only [List.append_assoc, List.cons_append, List.nil_append]
end Go.Proofs.YtknnpgffdbkfnaaDoor
