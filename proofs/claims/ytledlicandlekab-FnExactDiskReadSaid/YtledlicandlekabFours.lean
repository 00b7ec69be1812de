import Derived.Test.YtledlicandlekabPairs
namespace Go.Proofs.Ytledlicandlekab
open Go.RowKit
abbrev V4 := Value × Value × Value × Value
/-- The cells of a list of fours. -/
def four (l : List V4) : List Value := l.flatMap fun p => [p.1, p.2.1, p.2.2.1, p.2.2.2]
theorem four_cons (p : V4) (l : List V4) : four (p :: l) = p.1 :: p.2.1 :: p.2.2.1 :: p.2.2.2 :: four l := rfl
theorem four_length (l : List V4) : (four l).length = l.length * 4 := by
  induction l with
  | nil => rfl
  | cons p l ih => rw [four_cons]; simp [ih]; omega
theorem four_get0 (l : List V4) (i : Nat) (h : i < l.length) : (four l)[i * 4]? = some l[i].1 := by
  induction l generalizing i with
  | nil => simp at h
  | cons p l ih =>
    cases i with
    | zero => simp [four_cons]
    | succ i =>
      rw [four_cons, show (i + 1) * 4 = (i * 4) + 1 + 1 + 1 + 1 from by omega]
      simp only [List.getElem?_cons_succ, List.getElem_cons_succ]
      exact ih i (by simpa using h)
theorem four_get1 (l : List V4) (i : Nat) (h : i < l.length) : (four l)[i * 4 + 1]? = some l[i].2.1 := by
  induction l generalizing i with
  | nil => simp at h
  | cons p l ih =>
    cases i with
    | zero => simp [four_cons]
    | succ i =>
      rw [four_cons, show (i + 1) * 4 + 1 = (i * 4 + 1) + 1 + 1 + 1 + 1 from by omega]
      simp only [List.getElem?_cons_succ, List.getElem_cons_succ]
      exact ih i (by simpa using h)
theorem four_get2 (l : List V4) (i : Nat) (h : i < l.length) : (four l)[i * 4 + 2]? = some l[i].2.2.1 := by
  induction l generalizing i with
  | nil => simp at h
  | cons p l ih =>
    cases i with
    | zero => simp [four_cons]
    | succ i =>
      rw [four_cons, show (i + 1) * 4 + 2 = (i * 4 + 2) + 1 + 1 + 1 + 1 from by omega]
      simp only [List.getElem?_cons_succ, List.getElem_cons_succ]
      exact ih i (by simpa using h)
theorem four_get3 (l : List V4) (i : Nat) (h : i < l.length) : (four l)[i * 4 + 3]? = some l[i].2.2.2 := by
  induction l generalizing i with
  | nil => simp at h
  | cons p l ih =>
    cases i with
    | zero => simp [four_cons]
    | succ i =>
      rw [four_cons, show (i + 1) * 4 + 3 = (i * 4 + 3) + 1 + 1 + 1 + 1 from by omega]
      simp only [List.getElem?_cons_succ, List.getElem_cons_succ]
      exact ih i (by simpa using h)
theorem four_set (l : List V4) (i : Nat) (x y z u : Value) : ((((four l).set (i * 4) x).set (i * 4 + 1) y).set (i * 4 + 2) z).set (i * 4 + 3) u = four (l.set i (x, y, z, u)) := by
  induction l generalizing i with
  | nil => simp [four]
  | cons p l ih =>
    cases i with
    | zero => simp [four_cons]
    | succ i =>
      rw [four_cons, show (i + 1) * 4 + 3 = (i * 4 + 3) + 1 + 1 + 1 + 1 from by omega, show (i + 1) * 4 + 2 = (i * 4 + 2) + 1 + 1 + 1 + 1 from by omega, show (i + 1) * 4 + 1 = (i * 4 + 1) + 1 + 1 + 1 + 1 from by omega, show (i + 1) * 4 = i * 4 + 1 + 1 + 1 + 1 from by omega]
      simp only [List.set_cons_succ, four_cons]
      rw [ih i]
theorem four_made (z0 z1 z2 z3 : Value) (n : Nat) : (madeCells #[z0, z1, z2, z3] (n * 4)).toList = four (List.replicate n (z0, z1, z2, z3)) := by
  apply List.ext_getElem?
  intro j
  by_cases hj : j < n * 4
  · obtain ⟨i, rfl | rfl | rfl | rfl⟩ : ∃ i, j = i * 4 ∨ j = i * 4 + 1 ∨ j = i * 4 + 2 ∨ j = i * 4 + 3 := ⟨j / 4, by omega⟩
    · rw [four_get0 _ _ (by simp; omega)]
      simp [madeCells, hj]
    · rw [four_get1 _ _ (by simp; omega)]
      simp [madeCells, hj]
    · rw [four_get2 _ _ (by simp; omega)]
      simp [madeCells, hj]
    · rw [four_get3 _ _ (by simp; omega)]
      simp [madeCells, hj]
  · rw [List.getElem?_eq_none (by simp [size_madeCells]; omega), List.getElem?_eq_none (by rw [four_length]; simp; omega)]
/-- A slice of the call's own whose elements are fours of cells. -/
def Own4 (w : World) (base : Nat) (e : TypeId) (v : Value) (l : List V4) : Prop := w.ownsRow base e 4 v l.length (four l)
theorem Own4.slice {w : World} {base : Nat} {e : TypeId} {v : Value} {l : List V4} (h : Own4 w base e v l) : ∃ a cap, v = .slice a l.length cap := by
  rcases h.2 with ⟨rfl, hn⟩ | ⟨g, cap, cur, rfl, _⟩
  · exact ⟨none, 0, by rw [hn]⟩
  · exact ⟨_, cap, rfl⟩
theorem Own4.store {w : World} {base e g n cap : Nat} {l : List V4} (h : Own4 w base e (.slice (some ⟨g, 0, none⟩) n cap) l) (k : Nat) (x y z u : Value) :
    Own4 ((((w.setCell ⟨g, k * 4, none⟩ x).setCell ⟨g, k * 4 + 1, none⟩ y).setCell ⟨g, k * 4 + 2, none⟩ z).setCell ⟨g, k * 4 + 3, none⟩ u) base e (.slice (some ⟨g, 0, none⟩) n cap) (l.set k (x, y, z, u)) := by
  obtain ⟨a, c, e1⟩ := h.slice
  simp only [Value.slice.injEq] at e1
  obtain ⟨_, rfl, rfl⟩ := e1
  have h1 := (World.ownsRow.stored (World.ownsRow.stored (World.ownsRow.stored (World.ownsRow.stored h (k * 4) x).1 (k * 4 + 1) y).1 (k * 4 + 2) z).1 (k * 4 + 3) u).1
  unfold Own4
  rw [List.length_set, ← four_set]
  exact h1
theorem Own4.cells {w : World} {base e g n cap : Nat} {l : List V4} (h : Own4 w base e (.slice (some ⟨g, 0, none⟩) n cap) l) (k : Nat) (hk : k < l.length) : w.cell? ⟨g, k * 4, none⟩ = some l[k].1 ∧ w.cell? ⟨g, k * 4 + 1, none⟩ = some l[k].2.1 ∧ w.cell? ⟨g, k * 4 + 2, none⟩ = some l[k].2.2.1 ∧ w.cell? ⟨g, k * 4 + 3, none⟩ = some l[k].2.2.2 := by
  have h0 := World.ownsRow.cells h (g := g) rfl (k * 4) _ (four_get0 l k hk)
  have h1 := World.ownsRow.cells h (g := g) rfl (k * 4 + 1) _ (four_get1 l k hk)
  have h2 := World.ownsRow.cells h (g := g) rfl (k * 4 + 2) _ (four_get2 l k hk)
  have h3 := World.ownsRow.cells h (g := g) rfl (k * 4 + 3) _ (four_get3 l k hk)
  rw [addr_add, Nat.zero_add] at h0 h1 h2 h3
  exact ⟨h0, h1, h2, h3⟩
theorem Own4.frozen {w : World} {base e g n cap : Nat} {l : List V4} (h : Own4 w base e (.slice (some ⟨g, 0, none⟩) n cap) l) (k : Nat) : w.frozen? ⟨g, k, none⟩ = false := by
  obtain ⟨a, c, e1⟩ := h.slice
  simp only [Value.slice.injEq] at e1
  obtain ⟨_, rfl, rfl⟩ := e1
  exact World.ownsRow.frozenAt h k
theorem Own4.below {B base e : Nat} {w w' : World} {v : Value} {l : List V4} (h : Own4 w base e v l) (hb : Below B w w') (hB : w.heap.size ≤ B) : Own4 w' base e v l := by
  refine ⟨h.1, ?_⟩
  rcases h.2 with hn | ⟨g, cap, cur, hv, hg0, hg, rest⟩
  · exact .inl hn
  · refine .inr ⟨g, cap, cur, hv, hg0, ?_, rest⟩
    have hlt : g < w.heap.size := by
      rcases Nat.lt_or_ge g w.heap.size with h' | h'
      · exact h'
      · simp [Array.getElem?_eq_none h'] at hg
    rw [hb.block g (Nat.lt_of_lt_of_le hlt hB)]; exact hg
end Go.Proofs.Ytledlicandlekab
