import Derived.Test.YtokcdpamcbpaiabSpecLines
namespace Go.Proofs.Ytokcdpamcbpaiab
open Go.RowKit
theorem spans_le (d : List Nat) {s : Nat} {xs : List (Nat × Nat)} (h : Cover d s xs) : ∀ x ∈ xs, x.1 + x.2 ≤ d.length := by
  induction xs generalizing s with
  | nil => intro x hx; cases hx
  | cons y r ih =>
    obtain ⟨h1, h2, h3⟩ := h
    intro x hx
    rcases List.mem_cons.1 hx with rfl | hx
    · omega
    · exact ih h3 x hx
theorem marksV_ge (l : List Nat) : (0 ≤ marksV l) ↔ isFrom l = true := by
  unfold marksV
  by_cases h : isFrom l = true
  · rw [if_pos h]; simp [h]
  · rw [if_neg h]; simp [h]
theorem cell_row1 {w : World} {base e n k : Nat} {a : Option Addr} {cap : Nat} {vs : List Value} {u : Value} (h : w.ownsRow base e 1 (.slice a n cap) n vs) (hu : vs[k]? = some u) (hn : 0 < n) : ∃ g, a = some ⟨g, 0, none⟩ ∧ w.cell? ⟨g, k, none⟩ = some u := by
  obtain ⟨g, rfl, hc⟩ := outer_cell h hn
  exact ⟨g, rfl, hc k u hu⟩
theorem l3Marks_n (b off cap n : Nat) (l : List Nat) (w : World) (hn : l.length = n) (hl : n ≤ 1048576) (hcap : n ≤ cap) (hT : TextAt w b off l) (hb : ∀ x ∈ l, x < 256) :
    Calls Try.prog 25 #[.slice (some ⟨b, off, none⟩) n cap] w fun e w' => e = .returned (.int .i64 (marksV l)) ∧ w' = w := by
  subst hn; exact l3Marks_any b off cap l w hl hcap hT hb
end Go.Proofs.Ytokcdpamcbpaiab
