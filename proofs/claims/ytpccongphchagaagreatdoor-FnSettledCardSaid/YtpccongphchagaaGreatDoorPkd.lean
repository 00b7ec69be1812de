import Derived.Test.YtpccongphchagaaGreatDoorPkb
import Derived.Test.YtpccongphchagaaGreatDoorPkc
namespace Go.Proofs.YtpccongphchagaaGreatDoor
open Go.RowKit
/-- What a copy has written behind k rounds. -/
def half (l : List Nat) (k : Nat) : List Nat := l.take k ++ List.replicate (l.length - k) 0
theorem half_zero (l : List Nat) : half l 0 = List.replicate l.length 0 := by simp [half]
theorem half_len (l : List Nat) : half l l.length = l := by simp [half]
theorem half_length (l : List Nat) (k : Nat) (h : k ≤ l.length) : (half l k).length = l.length := by simp [half]; omega
theorem half_set (l : List Nat) (k : Nat) (h : k < l.length) : (half l k).set k l[k] = half l (k + 1) := by
  unfold half
  rw [List.set_append_right _ _ (by simp; omega)]
  have e : k - (l.take k).length = 0 := by simp; omega
  rw [e, show l.length - k = (l.length - (k + 1)) + 1 from by omega, List.replicate_succ, List.set_cons_zero, List.take_succ_eq_append_getElem h]
  simp only [List.append_assoc, List.cons_append, List.nil_append]
end Go.Proofs.YtpccongphchagaaGreatDoor
namespace Go.Proofs.YtpccongphchagaaGreatDoor
open Go.RowKit
end Go.Proofs.YtpccongphchagaaGreatDoor
namespace Go.Proofs.YtpccongphchagaaGreatDoor
open Go.RowKit
/-- The nodes 'es' (bytes, safe) lie at 'a'. -/
def NodeAt (w : World) (a : Option Addr) (es : List (List Nat × Int)) : Prop :=
  0 < es.length → ∃ b off, a = some ⟨b, off, none⟩ ∧ ∀ i (h : i < es.length), ∃ ai ci, w.cell? ⟨b, off + i * 2, none⟩ = some (.slice ai es[i].1.length ci) ∧ w.cell? ⟨b, off + i * 2 + 1, none⟩ = some (.int .i64 es[i].2) ∧ RowAt w ai es[i].1
theorem NodeAt.below {w w' : World} {a : Option Addr} {es : List (List Nat × Int)} (h : NodeAt w a es) (hb : Below w.heap.size w w') : NodeAt w' a es := fun hp => by
  obtain ⟨b, off, rfl, hc⟩ := h hp
  refine ⟨b, off, rfl, fun i hi => ?_⟩
  obtain ⟨ai, ci, h1, h2, h3⟩ := hc i hi
  exact ⟨ai, ci, by rw [hb.cell (p := ⟨b, off + i * 2, none⟩) (lt_of_cell0 h1)]; exact h1, by rw [hb.cell (p := ⟨b, off + i * 2 + 1, none⟩) (lt_of_cell0 h2)]; exact h2, h3.below hb⟩
def sumN : List (List Nat × Int) → Nat
  | [] => 0
  | e :: es => e.1.length + sumN es
theorem sumN_append (a b : List (List Nat × Int)) : sumN (a ++ b) = sumN a + sumN b := by
  induction a with
  | nil => simp [sumN]
  | cons x r ih => simp [sumN, ih]; omega
theorem sumN_take_succ (es : List (List Nat × Int)) (k : Nat) (h : k < es.length) : sumN (es.take (k + 1)) = sumN (es.take k) + es[k].1.length := by
  rw [List.take_succ_eq_append_getElem h, sumN_append]; simp [sumN]
theorem sumN_take_le (es : List (List Nat × Int)) (k : Nat) : sumN (es.take k) ≤ sumN es := by
  have h := sumN_append (es.take k) (es.drop k)
  rw [List.take_append_drop] at h; omega
end Go.Proofs.YtpccongphchagaaGreatDoor
namespace Go.Proofs.YtpccongphchagaaGreatDoor
open Go.RowKit
/-- The block g holds the cells cs. -/
def Laid (w : World) (g : Nat) (cs : Array Value) (t : TypeId) : Prop := w.heap[g]? = some (.cells cs t (0, 0))
theorem Laid.cell {w : World} {g : Nat} {cs : Array Value} {t : TypeId} (h : Laid w g cs t) (j : Nat) : w.cell? ⟨g, j, none⟩ = cs[j]? := cell_of_row w g j _ _ (0, 0) h
theorem Laid.lt {w : World} {g : Nat} {cs : Array Value} {t : TypeId} (h : Laid w g cs t) : g < w.heap.size := by
  rcases Nat.lt_or_ge g w.heap.size with h' | h'
  · exact h'
  · simp [Laid, Array.getElem?_eq_none h'] at h
theorem Laid.below {w w' : World} {g B : Nat} {cs : Array Value} {t : TypeId} (h : Laid w g cs t) (hb : Below B w w') (hB : g < B) : Laid w' g cs t := (hb.block g hB).trans h
theorem Laid.new (w : World) (cs : Array Value) (t : TypeId) : Laid (w.alloc (.cells cs t)) w.heap.size cs t := heap_alloc_new w _
theorem szRest_nat {left n : Nat} (h : n ≤ left) : ∃ l : Nat, szRest left n = (l : Int) ∧ l + n = left := ⟨left - n, by rw [szRest_pos h]; omega, by omega⟩
/-- A disk's size. -/
def szD (ns : List (List Nat × Int)) (es ks : List (ByteArray × Int)) (os : List (Int × ByteArray × ByteArray × Int)) : Nat :=
  (ns.length + sumN ns) + (es.length + sumE es) + (ks.length + sumE ks) + (os.length + sumO os)
end Go.Proofs.YtpccongphchagaaGreatDoor
namespace Go.Proofs.YtpccongphchagaaGreatDoor
open Go.RowKit
end Go.Proofs.YtpccongphchagaaGreatDoor
