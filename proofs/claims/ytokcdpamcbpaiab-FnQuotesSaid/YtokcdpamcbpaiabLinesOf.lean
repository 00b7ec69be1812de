import Derived.Test.YtokcdpamcbpaiabSplitEq
import Derived.Test.YtokcdpamcbpaiabEntryMath
namespace Go.Proofs.Ytokcdpamcbpaiab
open Go.RowKit
/-- The lines of a text by what they hold. -/
def linesG : Nat → List Nat → List (List Nat)
  | 0, _ => []
  | f + 1, d => if d.length = 0 then [] else d.take (cutAt d) :: linesG f (d.drop (cutAt d))
def linesOf (d : List Nat) : List (List Nat) := linesG d.length d
def posL : Nat → List (List Nat) → List (Nat × Nat)
  | _, [] => []
  | p, l :: r => (p, l.length) :: posL (p + l.length) r
theorem posL_append (p : Nat) (a b : List (List Nat)) : posL p (a ++ b) = posL p a ++ posL (p + a.flatten.length) b := by
  induction a generalizing p with
  | nil => simp [posL]
  | cons x r ih => simp only [List.cons_append, posL, ih, List.flatten_cons, List.length_append, Nat.add_assoc]
theorem spans_pos_lines (f p : Nat) (d : List Nat) : spansF f p d = posL p (linesG f d) := by
  induction f generalizing p d with
  | zero => rfl
  | succ f ih =>
    simp only [spansF, linesG]
    split
    · rfl
    · have h := cutAt_le d
      rw [posL, List.length_take, Nat.min_eq_left h, ih]
theorem linesG_more (f g : Nat) (d : List Nat) (h : d.length ≤ f) (h' : d.length ≤ g) : linesG f d = linesG g d := by
  induction f generalizing g d with
  | zero =>
    cases g with
    | zero => rfl
    | succ g => simp [linesG, show d.length = 0 by omega]
  | succ f ih =>
    cases g with
    | zero => simp [linesG, show d.length = 0 by omega]
    | succ g =>
      simp only [linesG]
      split
      · rfl
      · have hp := cutAt_pos d (by omega)
        rw [ih g _ (by rw [List.length_drop]; omega) (by rw [List.length_drop]; omega)]
theorem lines_nil : linesOf [] = [] := rfl
theorem lines_cons (d : List Nat) (h : 0 < d.length) : linesOf d = d.take (cutAt d) :: linesOf (d.drop (cutAt d)) := by
  have hp := cutAt_pos d h
  unfold linesOf
  obtain ⟨n, hn⟩ : ∃ n, d.length = n + 1 := ⟨d.length - 1, by omega⟩
  rw [hn, linesG, if_neg (by omega), linesG_more n _ _ (by rw [List.length_drop]; omega) (Nat.le_refl _)]
theorem spans_lines (d : List Nat) : spansOf d = posL 0 (linesOf d) := spans_pos_lines _ _ _
/-- A line with its end. -/
def Full (l : List Nat) : Prop := ∃ m, l = m ++ [10] ∧ ¬ 10 ∈ m
theorem cut_full (m X : List Nat) (h : ¬ 10 ∈ m) : cutAt (m ++ 10 :: X) = m.length + 1 := by
  induction m with
  | nil => simp [cutAt]
  | cons x r ih =>
    simp only [List.mem_cons, not_or] at h
    simp only [List.cons_append, cutAt, List.length_cons]
    rw [if_neg (fun e => h.1 e.symm), ih h.2]
theorem lines_full (ls : List (List Nat)) (t : List Nat) (h : ∀ l ∈ ls, Full l) : linesOf (ls.flatten ++ t) = ls ++ linesOf t := by
  induction ls with
  | nil => simp
  | cons x r ih =>
    obtain ⟨m, rfl, hm⟩ := h x (List.mem_cons_self ..)
    have hc : cutAt (m ++ 10 :: (r.flatten ++ t)) = m.length + 1 := cut_full m _ hm
    have e : (((m ++ [10]) :: r).flatten ++ t) = m ++ 10 :: (r.flatten ++ t) := by simp
    rw [e, lines_cons _ (by simp; omega), hc, List.cons_append]
    have e1 : (m ++ 10 :: (r.flatten ++ t)).take (m.length + 1) = m ++ [10] := by
      rw [List.take_append, List.take_of_length_le (by omega)]; simp
    have e2 : (m ++ 10 :: (r.flatten ++ t)).drop (m.length + 1) = r.flatten ++ t := by
      rw [List.drop_append, List.drop_of_length_le (by omega)]; simp
    rw [e1, e2, ih (fun l hl => h l (List.mem_cons_of_mem _ hl))]
theorem lines_tail (t : List Nat) (h : ¬ 10 ∈ t) (h0 : 0 < t.length) : linesOf t = [t] := by
  rw [lines_cons t h0, cutAt_none t h, List.take_length, List.drop_length, lines_nil]
theorem lines_parts (d : List Nat) : ∃ ls t, d = List.flatten ls ++ t ∧ (∀ l ∈ ls, Full l) ∧ ¬ 10 ∈ t := by
  induction d with
  | nil => exact ⟨[], [], rfl, (fun l h => by cases h), by simp⟩
  | cons x r ih =>
    obtain ⟨ls, t, rfl, h1, h2⟩ := ih
    by_cases hx : x = 10
    · subst hx
      refine ⟨[10] :: ls, t, by simp, ?_, h2⟩
      intro l hl
      rcases List.mem_cons.1 hl with rfl | hl
      · exact ⟨[], rfl, by simp⟩
      · exact h1 l hl
    · cases ls with
      | nil => exact ⟨[], x :: t, by simp, (fun l h => by cases h), by simp only [List.mem_cons, not_or]; exact ⟨fun e => hx e.symm, h2⟩⟩
      | cons y ys =>
        obtain ⟨m, rfl, hm⟩ := h1 y (List.mem_cons_self ..)
        refine ⟨(x :: m ++ [10]) :: ys, t, by simp, ?_, h2⟩
        intro l hl
        rcases List.mem_cons.1 hl with rfl | hl
        · exact ⟨x :: m, rfl, by simp only [List.mem_cons, not_or]; exact ⟨fun e => hx e.symm, hm⟩⟩
        · exact h1 l (List.mem_cons_of_mem _ hl)
def qL (l : List Nat) : List Nat := if isFrom l then 62 :: l else l
def uL (l : List Nat) : List Nat := if isFrom l && decide (0 < marksOf l) then l.drop 1 else l
theorem flat_pos {β : Type} (D : List Nat) (f : List Nat → List β) (p : Nat) (ls : List (List Nat)) (h : D.drop p = ls.flatten) : (posL p ls).flatMap (fun x => f (pieceOf D x)) = ls.flatMap f := by
  induction ls generalizing p with
  | nil => rfl
  | cons x r ih =>
    rw [List.flatten_cons] at h
    have e1 : pieceOf D (p, x.length) = x := by unfold pieceOf; simp only; rw [h]; simp
    rw [posL, List.flatMap_cons, List.flatMap_cons, e1, ih (p + x.length) (by rw [← List.drop_drop, h]; simp)]
theorem lines_flat (d : List Nat) : (linesOf d).flatten = d := by
  obtain ⟨ls, t, rfl, h1, h2⟩ := lines_parts d
  rw [lines_full ls t h1, List.flatten_append]
  by_cases h0 : 0 < t.length
  · rw [lines_tail t h2 h0]; simp
  · have : t = [] := List.eq_nil_of_length_eq_zero (by omega)
    subst this
    simp [lines_nil]
theorem quote_lines (d : List Nat) : quoteOf d = (linesOf d).flatMap qL := by
  unfold quoteOf
  rw [spans_lines]
  exact flat_pos d qL 0 (linesOf d) (by rw [List.drop_zero, lines_flat])
theorem unquote_lines (d : List Nat) : unquoteOf d = (linesOf d).flatMap uL := by
  unfold unquoteOf
  rw [spans_lines]
  exact flat_pos d uL 0 (linesOf d) (by rw [List.drop_zero, lines_flat])
theorem isFrom_mark (l : List Nat) : isFrom (62 :: l) = isFrom l := by
  unfold isFrom
  simp [marksOf]
theorem uq_line (l : List Nat) : uL (qL l) = l := by
  unfold qL
  by_cases h : isFrom l = true
  · rw [if_pos h]
    unfold uL
    rw [isFrom_mark, h]
    simp [marksOf]
  · rw [if_neg h]
    unfold uL
    simp only [Bool.not_eq_true] at h
    rw [h]
    simp
theorem full_q {l : List Nat} (h : Full l) : Full (qL l) := by
  obtain ⟨m, rfl, hm⟩ := h
  unfold qL
  split
  · exact ⟨62 :: m, rfl, by simp [hm]⟩
  · exact ⟨m, rfl, hm⟩
theorem tail_q {t : List Nat} (h : ¬ 10 ∈ t) : ¬ 10 ∈ qL t := by
  unfold qL
  split
  · simp [h]
  · exact h
theorem qL_pos {t : List Nat} (h : 0 < t.length) : 0 < (qL t).length := by
  unfold qL
  split
  · simp
  · exact h
theorem unquote_quote (d : List Nat) : unquoteOf (quoteOf d) = d := by
  obtain ⟨ls, t, rfl, h1, h2⟩ := lines_parts d
  have hq : ∀ l ∈ ls.map qL, Full l := fun l hl => by
    obtain ⟨m, hm, rfl⟩ := List.mem_map.1 hl
    exact full_q (h1 m hm)
  have hu : (ls.map qL).flatMap uL = ls.flatten := by
    rw [List.flatMap_map]
    simp only [uq_line]
    exact List.flatMap_id'
  rw [quote_lines, lines_full ls t h1, List.flatMap_append, List.flatMap_def]
  by_cases h0 : 0 < t.length
  · rw [lines_tail t h2 h0, unquote_lines, show List.flatMap qL [t] = qL t from by simp, lines_full _ _ hq, lines_tail _ (tail_q h2) (qL_pos h0), List.flatMap_append, hu]
    simp [uq_line]
  · have : t = [] := List.eq_nil_of_length_eq_zero (by omega)
    subst this
    rw [lines_nil, List.flatMap_nil, unquote_lines, lines_full _ _ hq, lines_nil, List.append_nil, hu, List.append_nil]
end Go.Proofs.Ytokcdpamcbpaiab
