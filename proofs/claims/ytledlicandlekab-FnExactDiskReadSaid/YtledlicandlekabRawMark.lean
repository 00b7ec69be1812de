import Derived.Test.YtledlicandlekabDiskMem
import Derived.Test.YtledlicandlekabStrB
namespace Go.Proofs.Ytledlicandlekab
open Go.RowKit
/-- A block of n cells of type t, whatever they hold. -/
def Raw (w : World) (g : Nat) (t : TypeId) (n : Nat) : Prop := ∃ cur : Array Value, w.heap[g]? = some (.cells cur t (0, 0)) ∧ cur.size = n
theorem Raw.cell {w : World} {g t n : Nat} (h : Raw w g t n) (j : Nat) (hj : j < n) : ∃ v, w.cell? ⟨g, j, none⟩ = some v := by
  obtain ⟨cur, hc, hs⟩ := h
  rw [cell_of_row w g j _ _ _ hc]
  exact ⟨_, Array.getElem?_eq_getElem (by omega)⟩
theorem Raw.frozen {w : World} {g t n : Nat} (h : Raw w g t n) (j : Nat) : w.frozen? ⟨g, j, none⟩ = false := by
  obtain ⟨cur, hc, _⟩ := h
  simp [World.frozen?, hc]
theorem Raw.lt {w : World} {g t n : Nat} (h : Raw w g t n) : g < w.heap.size := by
  obtain ⟨cur, hc, _⟩ := h
  exact lt_of_block hc
theorem Raw.set {w : World} {g t n : Nat} (h : Raw w g t n) (g' j : Nat) (u : Value) : Raw (w.setCell ⟨g', j, none⟩ u) g t n := by
  obtain ⟨cur, hc, hs⟩ := h
  by_cases e : g = g'
  · subst e
    refine ⟨cur.setIfInBounds j u, ?_, by simpa using hs⟩
    rw [setCell_eq_setRow w g j _ _ _ _ hc, setRow_heap w g _ _ _ _ hc]
  · exact ⟨cur, (heap_setCell_other w ⟨g', j, none⟩ g u (by simpa using e)).trans hc, hs⟩
theorem Raw.apart {w : World} {g g' t t' n n' : Nat} (h : Raw w g t n) (h' : Raw w g' t' n') (ht : t ≠ t') : g ≠ g' := by
  rintro rfl
  obtain ⟨c, hc, _⟩ := h
  obtain ⟨c', hc', _⟩ := h'
  rw [hc] at hc'
  simp only [Option.some.injEq, Obj.cells.injEq] at hc'
  exact ht hc'.2.1
theorem Raw.of_eq {w w' : World} {g t n : Nat} (h : Raw w g t n) (e : w'.heap[g]? = w.heap[g]?) : Raw w' g t n := by
  obtain ⟨cur, hc, hs⟩ := h
  exact ⟨cur, e.trans hc, hs⟩
theorem Out.set {lo hi g j : Nat} {a w : World} {u : Value} (h : Out lo hi a w) (h1 : lo ≤ g) (h2 : g < hi) : Out lo hi a (w.setCell ⟨g, j, none⟩ u) :=
  ⟨h.os, h.tape, h.output, by simpa using h.size, fun k hk ho => by
    rw [heap_setCell_other w ⟨g, j, none⟩ k u (by simp; omega)]
    exact h.block k hk ho⟩
theorem Out.andThen {lo hi B : Nat} {a b c : World} (h : Out lo hi a b) (k : Below B b c) (hB : a.heap.size ≤ B) : Out lo hi a c :=
  ⟨k.os.trans h.os, k.tape.trans h.tape, k.output.trans h.output, Nat.le_trans h.size k.size, fun i hi ho => (k.block i (by omega)).trans (h.block i hi ho)⟩
/-- What marking bytes leaves, whatever they were. -/
theorem markB_raw (g n cap m k : Nat) (w : World) (hn : n ≤ m) (hk : k ≤ 4503599627370496) (hn2 : n ≤ 4503599627370496) (hr : Raw w g 5 m) :
    Calls Try.prog 39 #[.slice (some ⟨g, 0, none⟩) n cap, .int .i64 (k : Int)] w fun e w' => e = .returned (.int .i64 ((k + n : Nat) : Int)) ∧ (∀ g' t n', Raw w g' t n' → Raw w' g' t n') ∧ (∀ b, b ≠ g → w'.heap[b]? = w.heap[b]?) ∧ w'.os = w.os ∧ w'.tape = w.tape ∧ w'.output = w.output ∧ w'.heap.size = w.heap.size := by
  go_enter Try.func39, Try.ntmps39
  go_wp2
  go_loopw [1, 5] (fun s i wr => ∃ j : Nat, j ≤ n ∧ i = .int .i64 j ∧ s = .int .i64 ((k + j : Nat) : Int) ∧ (∀ g' t n', Raw w g' t n' → Raw wr g' t n') ∧ (∀ b, b ≠ g → wr.heap[b]? = w.heap[b]?) ∧ wr.os = w.os ∧ wr.tape = w.tape ∧ wr.output = w.output ∧ wr.heap.size = w.heap.size) (fun _ i _ => n - (intOf i).toNat)
  case atStart => exact ⟨0, Nat.zero_le _, rfl, rfl, fun _ _ _ h => h, fun _ _ => rfl, rfl, rfl, rfl, rfl⟩
  case round =>
    obtain ⟨j, hj, rfl, rfl, hrk, hbk, ho, ht, hou, hsz⟩ := hrel
    by_cases hlt : j < n
    · have hraw := hrk g 5 m hr
      obtain ⟨v, hcell⟩ := hraw.cell j (by omega)
      have hfz := hraw.frozen j
      have HX := hide (show (∀ (u : Value) g' t n', Raw w g' t n' → Raw (wr.setCell ⟨g, j, none⟩ u) g' t n') ∧ (∀ (u : Value) b, b ≠ g → (wr.setCell ⟨g, j, none⟩ u).heap[b]? = w.heap[b]?) ∧ (∀ u : Value, (wr.setCell ⟨g, j, none⟩ u).os = w.os ∧ (wr.setCell ⟨g, j, none⟩ u).tape = w.tape ∧ (wr.setCell ⟨g, j, none⟩ u).output = w.output ∧ (wr.setCell ⟨g, j, none⟩ u).heap.size = w.heap.size) from
        ⟨fun u g' t n' h => (hrk g' t n' h).set g j u, fun u b hb => (heap_setCell_other wr ⟨g, j, none⟩ b u (by simpa using hb)).trans (hbk b hb), fun u => ⟨ho, ht, hou, by rw [← hsz]; simp⟩⟩)
      clear hrk hbk ho ht hou hsz hr hraw
      go_wp2
      go_roundw
      case rel => exact ⟨j + 1, by omega, by go_num, val_int (by omega), HX.out.1 _, HX.out.2.1 _, (HX.out.2.2 _).1, (HX.out.2.2 _).2.1, (HX.out.2.2 _).2.2.1, (HX.out.2.2 _).2.2.2⟩
      case measure => simp [intOf]; omega
    · obtain rfl : j = n := by omega
      go_wp2
      go_ret
      exact ⟨rfl, hrk, hbk, ho, ht, hou, hsz⟩
end Go.Proofs.Ytledlicandlekab
