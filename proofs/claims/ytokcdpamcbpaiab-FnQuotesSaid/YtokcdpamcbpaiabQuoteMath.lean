import Derived.Test.YtokcdpamcbpaiabFromLines
namespace Go.Proofs.Ytokcdpamcbpaiab
open Go.RowKit
/-- What the program writes from a place on, where the lines fs are still to be quoted. -/
def qGo (d : List Nat) : Nat → List (Nat × Nat) → List Nat
  | t, [] => d.drop t
  | t, x :: r => (d.drop t).take (x.1 - t) ++ 62 :: qGo d x.1 r
/-- .. to be unquoted. -/
def uGo (d : List Nat) : Nat → List (Nat × Nat) → List Nat
  | t, [] => d.drop t
  | t, x :: r => if 0 < x.2 then (d.drop t).take (x.1 - t) ++ uGo d (x.1 + 1) r else uGo d t r
/-- The places rise and lie in the text. -/
def Ups (n : Nat) : Nat → List (Nat × Nat) → Prop
  | _, [] => True
  | t, x :: r => t ≤ x.1 ∧ x.1 + 1 ≤ n ∧ Ups n (x.1 + 1) r
theorem Ups.mono {n t t' : Nat} {fs : List (Nat × Nat)} (h : Ups n t fs) (ht : t' ≤ t) : Ups n t' fs := by
  cases fs with
  | nil => trivial
  | cons x r => exact ⟨Nat.le_trans ht h.1, h.2.1, h.2.2⟩
theorem isFrom_pos {l : List Nat} (h : isFrom l = true) : 0 < l.length := by
  cases l with
  | nil => simp [isFrom, fromW, marksOf] at h
  | cons x r => simp
/-- The pieces from s on, one behind the other to the end. -/
def Cover (d : List Nat) : Nat → List (Nat × Nat) → Prop
  | s, [] => s = d.length
  | s, x :: r => x.1 = s ∧ s + x.2 ≤ d.length ∧ Cover d (s + x.2) r
theorem spans_cover (d : List Nat) (f s : Nat) (hf : d.length - s ≤ f) (hs : s ≤ d.length) : Cover d s (spansF f s (d.drop s)) := by
  induction f generalizing s with
  | zero => rw [spansF_nil _ _ _ (by rw [List.length_drop]; omega)]; show s = d.length; omega
  | succ f ih =>
    simp only [spansF]
    split
    · next h => rw [List.length_drop] at h; show s = d.length; omega
    · next h =>
      rw [List.length_drop] at h
      have h1 := cutAt_pos (d.drop s) (by rw [List.length_drop]; omega)
      have h2 := cutAt_le (d.drop s)
      rw [List.length_drop] at h2
      rw [List.drop_drop]
      exact ⟨rfl, by omega, ih (s + cutAt (d.drop s)) (by omega) (by omega)⟩
theorem spansF_len (f p : Nat) (d : List Nat) : (spansF f p d).length ≤ f := by
  induction f generalizing p d with
  | zero => simp [spansF]
  | succ f ih =>
    simp only [spansF]
    split
    · simp
    · have := ih (p + cutAt d) (d.drop (cutAt d)); simp; omega
theorem froms_len (d : List Nat) : (fromsOf d).length ≤ d.length := Nat.le_trans (fromsTo_len d 0 _) (spansF_len _ _ _)
theorem cover_all (d : List Nat) : Cover d 0 (spansOf d) := by
  have := spans_cover d d.length 0 (by omega) (by omega)
  rwa [List.drop_zero] at this
theorem cover_le {d : List Nat} {s : Nat} {xs : List (Nat × Nat)} (h : Cover d s xs) : s ≤ d.length := by
  cases xs with
  | nil => exact Nat.le_of_eq h
  | cons x r => have := h.2.1; omega
theorem piece_at {d : List Nat} {s : Nat} {x : Nat × Nat} (h : x.1 = s) : pieceOf d x = (d.drop s).take x.2 := by subst h; rfl
theorem ups_froms {d : List Nat} {s : Nat} {xs : List (Nat × Nat)} (h : Cover d s xs) : Ups d.length s (fromsTo d s xs) := by
  induction xs generalizing s with
  | nil => trivial
  | cons x r ih =>
    obtain ⟨h1, h2, h3⟩ := h
    simp only [fromsTo]
    by_cases hf : isFrom (pieceOf d x) = true
    · rw [if_pos hf]
      have hp := isFrom_pos hf
      rw [piece_at h1] at hp
      simp at hp
      exact ⟨Nat.le_refl _, by omega, (ih h3).mono (by omega)⟩
    · rw [if_neg hf]
      exact (ih h3).mono (by omega)
theorem take_more (d : List Nat) (t s k : Nat) (h : t ≤ s) : (d.drop t).take (s + k - t) = (d.drop t).take (s - t) ++ (d.drop s).take k := by
  rw [show s + k - t = (s - t) + k from by omega, List.take_add, List.drop_drop, show t + (s - t) = s from by omega]
/-- Quoting line by line. -/
def qLine (d : List Nat) (x : Nat × Nat) : List Nat := if isFrom (pieceOf d x) then 62 :: pieceOf d x else pieceOf d x
def uLine (d : List Nat) (x : Nat × Nat) : List Nat := if isFrom (pieceOf d x) && decide (0 < marksOf (pieceOf d x)) then (pieceOf d x).drop 1 else pieceOf d x
theorem q_eq {d : List Nat} {t s : Nat} {xs : List (Nat × Nat)} (h : Cover d s xs) (ht : t ≤ s) : qGo d t (fromsTo d s xs) = (d.drop t).take (s - t) ++ xs.flatMap (qLine d) := by
  induction xs generalizing s t with
  | nil =>
    have hs : s = d.length := h
    subst hs
    simp only [fromsTo, qGo, List.flatMap_nil, List.append_nil]
    rw [List.take_of_length_le (Nat.le_of_eq (List.length_drop ..))]
  | cons x r ih =>
    obtain ⟨h1, h2, h3⟩ := h
    simp only [fromsTo, List.flatMap_cons]
    by_cases hf : isFrom (pieceOf d x) = true
    · rw [if_pos hf]
      simp only [List.cons_append, List.nil_append, qGo]
      rw [ih h3 (Nat.le_add_right s x.2), show s + x.2 - s = x.2 from by omega]
      unfold qLine
      rw [if_pos hf, piece_at h1]
      simp
    · rw [if_neg hf, List.nil_append, ih h3 (by omega), take_more d t s x.2 ht]
      unfold qLine
      rw [if_neg hf, piece_at h1, List.append_assoc]
theorem u_eq {d : List Nat} {t s : Nat} {xs : List (Nat × Nat)} (h : Cover d s xs) (ht : t ≤ s) : uGo d t (fromsTo d s xs) = (d.drop t).take (s - t) ++ xs.flatMap (uLine d) := by
  induction xs generalizing s t with
  | nil =>
    have hs : s = d.length := h
    subst hs
    simp only [fromsTo, uGo, List.flatMap_nil, List.append_nil]
    rw [List.take_of_length_le (Nat.le_of_eq (List.length_drop ..))]
  | cons x r ih =>
    obtain ⟨h1, h2, h3⟩ := h
    simp only [fromsTo, List.flatMap_cons]
    by_cases hf : isFrom (pieceOf d x) = true
    · rw [if_pos hf]
      have hp := isFrom_pos hf
      rw [piece_at h1] at hp
      simp at hp
      simp only [List.cons_append, List.nil_append, uGo]
      by_cases hm : 0 < marksOf (pieceOf d x)
      · rw [if_pos hm, ih h3 (by omega)]
        unfold uLine
        rw [hf, decide_eq_true hm]
        simp only [Bool.and_self, if_true]
        rw [piece_at h1, List.drop_take, List.drop_drop, show s + x.2 - (s + 1) = x.2 - 1 from by omega]
      · rw [if_neg hm, ih h3 (by omega), take_more d t s x.2 ht]
        unfold uLine
        rw [hf, decide_eq_false hm]
        simp only [Bool.and_false, Bool.false_eq_true, if_false]
        rw [piece_at h1, List.append_assoc]
    · rw [if_neg hf, List.nil_append, ih h3 (by omega), take_more d t s x.2 ht]
      unfold uLine
      simp only [Bool.not_eq_true] at hf
      rw [hf]
      simp only [Bool.false_and, Bool.false_eq_true, if_false]
      rw [piece_at h1, List.append_assoc]
def quoteOf (d : List Nat) : List Nat := (spansOf d).flatMap (qLine d)
def unquoteOf (d : List Nat) : List Nat := (spansOf d).flatMap (uLine d)
theorem quote_go (d : List Nat) : qGo d 0 (fromsOf d) = quoteOf d := by have := q_eq (cover_all d) (Nat.le_refl 0); simpa [quoteOf, fromsOf] using this
theorem unquote_go (d : List Nat) : uGo d 0 (fromsOf d) = unquoteOf d := by have := u_eq (cover_all d) (Nat.le_refl 0); simpa [unquoteOf, fromsOf] using this
theorem ups_all (d : List Nat) : Ups d.length 0 (fromsOf d) := ups_froms (cover_all d)
theorem qLine_len (d : List Nat) {s : Nat} {xs : List (Nat × Nat)} (h : Cover d s xs) : (xs.flatMap (qLine d)).length ≤ 2 * (d.length - s) := by
  induction xs generalizing s with
  | nil => simp
  | cons x r ih =>
    obtain ⟨h1, h2, h3⟩ := h
    have := ih h3
    have hl : (pieceOf d x).length ≤ x.2 := by simp [pieceOf]; omega
    rw [List.flatMap_cons, List.length_append]
    have : (qLine d x).length ≤ 2 * x.2 := by
      unfold qLine
      split
      · next hf => have := isFrom_pos hf; simp; omega
      · omega
    omega
theorem uLine_len (d : List Nat) {s : Nat} {xs : List (Nat × Nat)} (h : Cover d s xs) : (xs.flatMap (uLine d)).length ≤ d.length - s := by
  induction xs generalizing s with
  | nil => simp
  | cons x r ih =>
    obtain ⟨h1, h2, h3⟩ := h
    have := ih h3
    have hl : (pieceOf d x).length ≤ x.2 := by simp [pieceOf]; omega
    rw [List.flatMap_cons, List.length_append]
    have : (uLine d x).length ≤ x.2 := by
      unfold uLine
      split
      · rw [List.length_drop]; omega
      · omega
    omega
theorem quote_len (d : List Nat) : (quoteOf d).length ≤ 2 * d.length := qLine_len d (cover_all d)
theorem unquote_len (d : List Nat) : (unquoteOf d).length ≤ d.length := uLine_len d (cover_all d)
theorem mem_piece {d : List Nat} {x : Nat × Nat} {y : Nat} (h : y ∈ pieceOf d x) : y ∈ d := List.mem_of_mem_drop (List.mem_of_mem_take h)
theorem quote_byte (d : List Nat) (hb : ∀ x ∈ d, x < 256) : ∀ x ∈ quoteOf d, x < 256 := by
  intro y hy
  simp only [quoteOf, List.mem_flatMap] at hy
  obtain ⟨x, _, hy⟩ := hy
  unfold qLine at hy
  split at hy
  · rcases List.mem_cons.1 hy with rfl | h
    · omega
    · exact hb y (mem_piece h)
  · exact hb y (mem_piece hy)
theorem unquote_byte (d : List Nat) (hb : ∀ x ∈ d, x < 256) : ∀ x ∈ unquoteOf d, x < 256 := by
  intro y hy
  simp only [unquoteOf, List.mem_flatMap] at hy
  obtain ⟨x, _, hy⟩ := hy
  unfold uLine at hy
  split at hy
  · exact hb y (mem_piece (List.mem_of_mem_drop hy))
  · exact hb y (mem_piece hy)
end Go.Proofs.Ytokcdpamcbpaiab
