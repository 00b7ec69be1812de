import Derived.Test.YtokcdpamcbpaiabSpans
namespace Go.Proofs.Ytokcdpamcbpaiab
open Go.RowKit
/-- Where the k-th entry lies. -/
def entAt (R : List Nat) (n k : Nat) : Nat × Nat := (R.getD k 0, if k + 1 < R.length then R.getD (k + 1) 0 else n)
def entB (d R : List Nat) (k : Nat) : List Nat := (d.drop (entAt R d.length k).1).take ((entAt R d.length k).2 - (entAt R d.length k).1)
/-- Rising places below n. -/
def Rise (n : Nat) (R : List Nat) : Prop := ∀ k, k < R.length → (entAt R n k).1 < (entAt R n k).2 ∧ (entAt R n k).2 ≤ n
theorem starts_up {n t : Nat} {fs : List (Nat × Nat)} (h : Ups n t fs) : (∀ x ∈ startsFrom fs, t ≤ x ∧ x < n) ∧ (startsFrom fs).Pairwise (· < ·) := by
  induction fs generalizing t with
  | nil => exact ⟨fun x hx => by simp [startsFrom] at hx, by simp [startsFrom]⟩
  | cons y r ih =>
    obtain ⟨h1, h2, h3⟩ := h
    obtain ⟨i1, i2⟩ := ih h3
    have e : startsFrom (y :: r) = if y.2 = 0 then y.1 :: startsFrom r else startsFrom r := by
      unfold startsFrom
      by_cases hy : y.2 = 0
      · rw [List.filter_cons_of_pos (by simpa using hy), if_pos hy]; rfl
      · rw [List.filter_cons_of_neg (by simpa using hy), if_neg hy]
    rw [e]
    by_cases hy : y.2 = 0
    · rw [if_pos hy]
      refine ⟨fun x hx => ?_, List.pairwise_cons.2 ⟨fun x hx => ?_, i2⟩⟩
      · rcases List.mem_cons.1 hx with rfl | hx
        · omega
        · have := i1 x hx; omega
      · have := i1 x hx; omega
    · rw [if_neg hy]
      exact ⟨fun x hx => by have := i1 x hx; omega, i2⟩
theorem rise_of {n : Nat} {R : List Nat} (h1 : ∀ x ∈ R, x < n) (h2 : R.Pairwise (· < ·)) : Rise n R := by
  intro k hk
  have ek : R.getD k 0 = R[k] := by simp [List.getD, hk]
  by_cases h : k + 1 < R.length
  · have ek1 : R.getD (k + 1) 0 = R[k + 1] := by simp [List.getD, h]
    unfold entAt
    rw [if_pos h, ek, ek1]
    exact ⟨List.pairwise_iff_getElem.1 h2 k (k + 1) hk h (by omega), Nat.le_of_lt (h1 _ (List.getElem_mem h))⟩
  · unfold entAt
    rw [if_neg h, ek]
    exact ⟨h1 _ (List.getElem_mem hk), Nat.le_refl _⟩
theorem starts_rise (d : List Nat) : Rise d.length (startsFrom (fromsOf d)) := by
  obtain ⟨h1, h2⟩ := starts_up (ups_all d)
  exact rise_of (fun x hx => (h1 x hx).2) h2
/-- The spans that MboxSplit tells, one for each entry. -/
def spanAt (d R : List Nat) (k : Nat) : Nat × Nat × List Nat := ((entAt R d.length k).1, (entAt R d.length k).2, unquoteOf (innerOf (entB d R k)))
/-- What MboxSplit answers of a text whose entries begin at R: the list, or nothing. -/
def splitOf (d : List Nat) : Option (List (Nat × Nat × List Nat)) :=
  if 40000 < d.length ∨ (0 < d.length ∧ (startsFrom (fromsOf d)).head? ≠ some 0) ∨ ∃ k, k < (startsFrom (fromsOf d)).length ∧ okEntry (entB d (startsFrom (fromsOf d)) k) = false then none
  else some ((List.range (startsFrom (fromsOf d)).length).map (spanAt d (startsFrom (fromsOf d))))
open Classical in
theorem okEntry_parts {l : List Nat} (h : okEntry l = true) : 10 < l.length ∧ l.take 10 = headW ∧ (l.drop 10).drop ((l.drop 10).length - 1) = [10] ∧ bareB (innerOf l) = false := by
  unfold okEntry at h
  simp only [Bool.and_eq_true, decide_eq_true_eq, Bool.not_eq_true'] at h
  obtain ⟨⟨h1, h2, h3⟩, h4⟩ := h
  refine ⟨h1, h2, ?_, h4⟩
  rw [List.length_drop, List.drop_drop, show 10 + (l.length - 10 - 1) = l.length - 1 from by omega]
  exact h3
theorem inner_good (b off cap : Nat) (l : List Nat) (w : World) (hl9 : l.length ≤ 1048576) (hcap : l.length ≤ cap) (hT : TextAt w b off l) (hbw : b < w.heap.size) (hl : ∀ x ∈ l, x < 256) (hok : okEntry l = true) :
    Calls Try.prog 32 #[.slice (some ⟨b, off, none⟩) l.length cap] w fun e w' => e = .returned (.tuple #[.slice (some ⟨b, off + 10, none⟩) (l.length - 10 - 1) (cap - 10), .bool true]) ∧ Below w.heap.size w w' := by
  obtain ⟨h1, h2, h3, h4⟩ := okEntry_parts hok
  refine (inner_yes b off cap l w hl9 hcap hT hbw hl h2 h3 h1).mono ?_
  rintro e w' ⟨rfl, hb⟩
  rw [h4]
  exact ⟨rfl, hb⟩
theorem inner_bad (b off cap : Nat) (l : List Nat) (w : World) (hl9 : l.length ≤ 1048576) (hcap : l.length ≤ cap) (hT : TextAt w b off l) (hbw : b < w.heap.size) (hl : ∀ x ∈ l, x < 256) (hok : okEntry l = false) :
    Calls Try.prog 32 #[.slice (some ⟨b, off, none⟩) l.length cap] w (NoPost w) := by
  by_cases hh : l.take 10 = headW
  · by_cases hsf : (l.drop 10).drop ((l.drop 10).length - 1) = [10] ∧ 0 < (l.drop 10).length
    · have h11 : 10 < l.length := by have := hsf.2; rw [List.length_drop] at this; omega
      refine (inner_yes b off cap l w hl9 hcap hT hbw hl hh hsf.1 h11).mono ?_
      rintro e w' ⟨rfl, hb⟩
      have hbare : bareB (innerOf l) = true := by
        unfold okEntry at hok
        have h3 : l.drop (l.length - 1) = [10] := by
          have := hsf.1
          rw [List.length_drop, List.drop_drop, show 10 + (l.length - 10 - 1) = l.length - 1 from by omega] at this
          exact this
        rw [decide_eq_true (⟨h11, hh, h3⟩ : 10 < l.length ∧ l.take 10 = headW ∧ l.drop (l.length - 1) = [10])] at hok
        simpa using hok
      rw [hbare]
      exact ⟨_, rfl, hb⟩
    · exact inner_noend b off cap l w hl9 hcap hT hbw hl hh hsf
  · exact inner_nohead b off cap l w hl9 hcap hT hbw hl hh
end Go.Proofs.Ytokcdpamcbpaiab
