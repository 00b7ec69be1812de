import Derived.Test.YtledlicandlekaaDoorBytes
namespace Go.Proofs.YtledlicandlekaaDoor
open Go.RowKit
/-- What marking writes: k, k + 1, .. as bytes. -/
def marks (k n : Nat) : List Nat := (List.range n).map fun i => (k + i) % 256
theorem marks_length (k n : Nat) : (marks k n).length = n := by simp [marks]
theorem marks_at (k n i : Nat) (h : i < (marks k n).length) : (marks k n)[i] = (k + i) % 256 := by simp [marks]
theorem marks_succ (k n : Nat) : marks k (n + 1) = marks k n ++ [(k + n) % 256] := by simp [marks, List.range_succ]
def marked (k : Nat) (l : List Nat) (i : Nat) : List Nat := marks k i ++ l.drop i
theorem marked_zero (k : Nat) (l : List Nat) : marked k l 0 = l := by simp [marked, marks]
theorem marked_len (k : Nat) (l : List Nat) : marked k l l.length = marks k l.length := by simp [marked]
theorem marked_length (k : Nat) (l : List Nat) (i : Nat) (h : i ≤ l.length) : (marked k l i).length = l.length := by simp [marked, marks_length]; omega
theorem marked_set (k : Nat) (l : List Nat) (i : Nat) (h : i < l.length) : (marked k l i).set i ((k + i) % 256) = marked k l (i + 1) := by
  unfold marked
  rw [List.set_append_right _ _ (by simp [marks_length])]
  have e : i - (marks k i).length = 0 := by simp [marks_length]
  rw [e, List.drop_eq_getElem_cons h, List.set_cons_zero, marks_succ]
  simp
theorem bv_mark (k j : Nat) : bv ((k + j) % 256) = .int .u8 (((k : Int) + (j : Int)) % 256) := val_int (by omega)
theorem markByteS_any (base : Nat) (a : Option Addr) (cap k : Nat) (l : List Nat) (w : World) (hk : k ≤ 4503599627370496) (hl : l.length ≤ 4503599627370496) (hown : OwnB w base (.slice a l.length cap) l) :
    Calls Tryd.prog 11 #[.slice a l.length cap, .int .i64 (k : Int)] w fun e w' => e = .returned (.int .i64 ((k + l.length : Nat) : Int)) ∧ OwnB w' base (.slice a l.length cap) (marks k l.length) ∧ w.grownBy w' (Value.slice a l.length cap).ownBlock ∧ w'.heap.size = w.heap.size := by
  go_enter Tryd.func11, Tryd.ntmps11
  go_wp2
  go_loopw [1, 5] (fun s i wr => ∃ j : Nat, j ≤ l.length ∧ i = .int .i64 j ∧ s = .int .i64 ((k + j : Nat) : Int) ∧ OwnB wr base (.slice a l.length cap) (marked k l j) ∧ w.grownBy wr (Value.slice a l.length cap).ownBlock ∧ wr.heap.size = w.heap.size) (fun _ i _ => l.length - (intOf i).toNat)
  case atStart => exact ⟨0, Nat.zero_le _, rfl, rfl, by rw [marked_zero]; exact hown, grown_refl _ _, rfl⟩
  case round =>
    obtain ⟨j, hj, rfl, rfl, hown', hg, hsz⟩ := hrel
    clear hown
    by_cases hlt : j < l.length
    · have hml := marked_length k l j hj
      obtain ⟨b, off, rfl, hc⟩ := hown'.row (by omega)
      have hg0 : off = 0 := by
        rcases hown'.2 with ⟨h, _⟩ | ⟨g, c, cur, h, _⟩
        · simp at h
        · simp at h; exact h.1.2
      subst hg0
      have hcell := hown'.cellAt j (by omega)
      have hfz := hown'.frozenAt j
      have hst := hown'.store j ((k + j) % 256)
      rw [marked_set k l j hlt] at hst
      have HX : Hid (OwnB (wr.setCell ⟨b, j, none⟩ (bv ((k + j) % 256))) base (.slice (some ⟨b, 0, none⟩) l.length cap) (marked k l (j + 1)) ∧ w.grownBy (wr.setCell ⟨b, j, none⟩ (bv ((k + j) % 256))) (some b) ∧ (wr.setCell ⟨b, j, none⟩ (bv ((k + j) % 256))).heap.size = w.heap.size) := ⟨hst.1, grown_trans hg hst.2, by rw [← hsz]; simp⟩
      generalize (marked k l j)[j]'(by omega) = y at hcell
      clear hst hown' hg hc hml hsz
      rw [bv_mark] at HX
      go_wp2
      go_roundw
      case rel => exact ⟨j + 1, by omega, by go_num, val_int (by omega), HX.out.1, HX.out.2.1, HX.out.2.2⟩
      case measure => simp [intOf]; omega
    · obtain rfl : j = l.length := by omega
      rw [marked_len] at hown'
      go_wp2
      go_ret
      exact ⟨rfl, hown', hg, hsz⟩
theorem heldByteS_any (a : Option Addr) (cap k n : Nat) (w : World) (hk : k ≤ 4503599627370496) (hl : n ≤ 4503599627370496) (hr : RowAt w a (marks k n)) :
    Calls Tryd.prog 28 #[.slice a n cap, .int .i64 (k : Int)] w fun e w' => e = .returned (.int .i64 ((k + n : Nat) : Int)) ∧ w' = w := by
  go_enter Tryd.func28, Tryd.ntmps28
  go_wp2
  go_loop [1, 5] (fun s i => ∃ j : Nat, j ≤ n ∧ i = .int .i64 j ∧ s = .int .i64 ((k + j : Nat) : Int)) (fun _ i => n - (intOf i).toNat)
  case atStart => exact ⟨0, Nat.zero_le _, rfl, rfl⟩
  case round =>
    obtain ⟨j, hj, rfl, rfl⟩ := hrel
    by_cases hlt : j < n
    · have hml := marks_length k n
      obtain ⟨b, off, rfl, hc⟩ := hr (by omega)
      have hcell := hc j (by omega)
      rw [marks_at k n j (by omega)] at hcell
      have e : (((k + j) % 256 : Nat) : Int) = ((k : Int) + (j : Int)) % 256 := by omega
      rw [e] at hcell
      have hne : ((((k : Int) + (j : Int)) % 256) != (((k : Int) + (j : Int)) % 256)) = false := by simp
      clear hc hr hml e
      go_wp2
      go_round
      case rel => exact ⟨j + 1, by omega, by go_num, val_int (by omega)⟩
      case measure => simp [intOf]; omega
    · obtain rfl : j = n := by omega
      go_wp2
      go_ret
      exact ⟨rfl, rfl⟩
end Go.Proofs.YtledlicandlekaaDoor
