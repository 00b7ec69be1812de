import Derived.Test.YtpedmebigcchnaaGreatDoorPkb
import Derived.Test.YtpedmebigcchnaaGreatDoorPkd
import Derived.Deep.WholeRow
namespace Go.Proofs.YtpedmebigcchnaaGreatDoor
open Go.RowKit
/-- The cells of a list of pairs. -/
def two (l : List (Value × Value)) : List Value := l.flatMap fun p => [p.1, p.2]
theorem two_cons (p : Value × Value) (l : List (Value × Value)) : two (p :: l) = p.1 :: p.2 :: two l := rfl
theorem two_length (l : List (Value × Value)) : (two l).length = l.length * 2 := by
  induction l with
  | nil => rfl
  | cons p l ih => rw [two_cons]; simp [ih]; omega
theorem two_get0 (l : List (Value × Value)) (i : Nat) (h : i < l.length) : (two l)[i * 2]? = some l[i].1 := by
  induction l generalizing i with
  | nil => simp at h
  | cons p l ih =>
    cases i with
    | zero => simp [two_cons]
    | succ i =>
      rw [two_cons, show (i + 1) * 2 = i * 2 + 1 + 1 from by omega]
      simp only [List.getElem?_cons_succ, List.getElem_cons_succ]
      exact ih i (by simpa using h)
theorem two_get1 (l : List (Value × Value)) (i : Nat) (h : i < l.length) : (two l)[i * 2 + 1]? = some l[i].2 := by
  induction l generalizing i with
  | nil => simp at h
  | cons p l ih =>
    cases i with
    | zero => simp [two_cons]
    | succ i =>
      rw [two_cons, show (i + 1) * 2 + 1 = (i * 2 + 1) + 1 + 1 from by omega]
      simp only [List.getElem?_cons_succ, List.getElem_cons_succ]
      exact ih i (by simpa using h)
theorem two_set (l : List (Value × Value)) (i : Nat) (x y : Value) : ((two l).set (i * 2) x).set (i * 2 + 1) y = two (l.set i (x, y)) := by
  induction l generalizing i with
  | nil => simp [two]
  | cons p l ih =>
    cases i with
    | zero => simp [two_cons]
    | succ i =>
      rw [two_cons, show (i + 1) * 2 + 1 = (i * 2 + 1) + 1 + 1 from by omega, show (i + 1) * 2 = i * 2 + 1 + 1 from by omega]
      simp only [List.set_cons_succ, two_cons]
      rw [ih i]
theorem two_made (z0 z1 : Value) (n : Nat) : (madeCells #[z0, z1] (n * 2)).toList = two (List.replicate n (z0, z1)) := by
  apply List.ext_getElem?
  intro j
  by_cases hj : j < n * 2
  · obtain ⟨i, rfl | rfl⟩ : ∃ i, j = i * 2 ∨ j = i * 2 + 1 := ⟨j / 2, by omega⟩
    · rw [two_get0 _ _ (by simp; omega)]
      simp [madeCells, hj]
    · rw [two_get1 _ _ (by simp; omega)]
      simp [madeCells, hj]
  · rw [List.getElem?_eq_none (by simp [size_madeCells]; omega), List.getElem?_eq_none (by rw [two_length]; simp; omega)]
/-- A slice of the call's own whose elements are pairs of cells. -/
def Own2 (w : World) (base : Nat) (e : TypeId) (v : Value) (l : List (Value × Value)) : Prop := w.ownsRow base e 2 v l.length (two l)
theorem Own2.slice {w : World} {base : Nat} {e : TypeId} {v : Value} {l : List (Value × Value)} (h : Own2 w base e v l) : ∃ a cap, v = .slice a l.length cap := by
  rcases h.2 with ⟨rfl, hn⟩ | ⟨g, cap, cur, rfl, _⟩
  · exact ⟨none, 0, by rw [hn]⟩
  · exact ⟨_, cap, rfl⟩
theorem Own2.store {w : World} {base e g n cap : Nat} {l : List (Value × Value)} (h : Own2 w base e (.slice (some ⟨g, 0, none⟩) n cap) l) (k : Nat) (x y : Value) :
    Own2 ((w.setCell ⟨g, k * 2, none⟩ x).setCell ⟨g, k * 2 + 1, none⟩ y) base e (.slice (some ⟨g, 0, none⟩) n cap) (l.set k (x, y)) := by
  obtain ⟨a, c, e1⟩ := h.slice
  simp only [Value.slice.injEq] at e1
  obtain ⟨_, rfl, rfl⟩ := e1
  have h1 := (World.ownsRow.stored (World.ownsRow.stored h (k * 2) x).1 (k * 2 + 1) y).1
  unfold Own2
  rw [List.length_set, ← two_set]
  exact h1
theorem Own2.cells {w : World} {base e g n cap : Nat} {l : List (Value × Value)} (h : Own2 w base e (.slice (some ⟨g, 0, none⟩) n cap) l) (k : Nat) (hk : k < l.length) : w.cell? ⟨g, k * 2, none⟩ = some l[k].1 ∧ w.cell? ⟨g, k * 2 + 1, none⟩ = some l[k].2 := by
  have h0 := World.ownsRow.cells h (g := g) rfl (k * 2) _ (two_get0 l k hk)
  have h1 := World.ownsRow.cells h (g := g) rfl (k * 2 + 1) _ (two_get1 l k hk)
  rw [addr_add, Nat.zero_add] at h0 h1
  exact ⟨h0, h1⟩
theorem Own2.frozen {w : World} {base e g n cap : Nat} {l : List (Value × Value)} (h : Own2 w base e (.slice (some ⟨g, 0, none⟩) n cap) l) (k : Nat) : w.frozen? ⟨g, k, none⟩ = false := by
  obtain ⟨a, c, e1⟩ := h.slice
  simp only [Value.slice.injEq] at e1
  obtain ⟨_, rfl, rfl⟩ := e1
  exact World.ownsRow.frozenAt h k
theorem Own2.below {B base e : Nat} {w w' : World} {v : Value} {l : List (Value × Value)} (h : Own2 w base e v l) (hb : Below B w w') (hB : w.heap.size ≤ B) : Own2 w' base e v l := by
  refine ⟨h.1, ?_⟩
  rcases h.2 with hn | ⟨g, cap, cur, hv, hg0, hg, rest⟩
  · exact .inl hn
  · refine .inr ⟨g, cap, cur, hv, hg0, ?_, rest⟩
    have hlt : g < w.heap.size := by
      rcases Nat.lt_or_ge g w.heap.size with h' | h'
      · exact h'
      · simp [Array.getElem?_eq_none h'] at hg
    rw [hb.block g (Nat.lt_of_lt_of_le hlt hB)]; exact hg
/-- What a copy has written behind k rounds. -/
def halfA {α : Type} (z : α) (l : List α) (k : Nat) : List α := l.take k ++ List.replicate (l.length - k) z
theorem halfA_zero {α : Type} (z : α) (l : List α) : halfA z l 0 = List.replicate l.length z := by simp [halfA]
theorem halfA_len {α : Type} (z : α) (l : List α) : halfA z l l.length = l := by simp [halfA]
theorem halfA_length {α : Type} (z : α) (l : List α) (k : Nat) (h : k ≤ l.length) : (halfA z l k).length = l.length := by simp [halfA]; omega
theorem halfA_set {α : Type} (z : α) (l : List α) (k : Nat) (h : k < l.length) : (halfA z l k).set k l[k] = halfA z l (k + 1) := by
  unfold halfA
  rw [List.set_append_right _ _ (by simp; omega)]
  have e : k - (l.take k).length = 0 := by simp; omega
  rw [e, show l.length - k = (l.length - (k + 1)) + 1 from by omega, List.replicate_succ, List.set_cons_zero, List.take_succ_eq_append_getElem h]
  simp only [List.append_assoc, List.cons_append, List.nil_append]
end Go.Proofs.YtpedmebigcchnaaGreatDoor
namespace Go.Proofs.YtpedmebigcchnaaGreatDoor
open Go.RowKit
/-- The letter and the bit of row i of the table. -/
def fLet : Nat → Nat
  | 0 => 68
  | 1 => 70
  | 2 => 82
  | 3 => 83
  | 4 => 84
  | i => 92 + i
def fBit : Nat → Nat
  | 0 => 4
  | 1 => 1
  | 2 => 0
  | 3 => 3
  | 4 => 2
  | i => i
def rowV (i : Nat) : Value × Value := (.int .i32 (fLet i : Int), .int .u64 (fBit i : Int))
/-- The table when its first k rows are laid. -/
def tabRows (k : Nat) : List (Value × Value) := (List.range 31).map fun i => if i < k then rowV i else (.int .i32 0, .int .u64 0)
def tabA (k : Nat) : Array Value := (two (tabRows k)).toArray
theorem tabRows_length (k : Nat) : (tabRows k).length = 31 := by simp [tabRows]
theorem tabA_size (k : Nat) : (tabA k).size = 62 := by simp [tabA, two_length, tabRows_length]
theorem tabRows_set (k : Nat) : (tabRows k).set k (rowV k) = tabRows (k + 1) := by
  apply List.ext_getElem
  · simp [tabRows]
  · intro i h1 h2
    rw [List.getElem_set]
    simp only [tabRows, List.getElem_map, List.getElem_range]
    by_cases e : k = i
    · subst e; simp
    · rw [if_neg e]
      by_cases h' : i < k
      · rw [if_pos h', if_pos (by omega)]
      · rw [if_neg h', if_neg (by omega)]
theorem tabA_set (k : Nat) : ((tabA k).setIfInBounds (k * 2) (.int .i32 (fLet k : Int))).setIfInBounds (k * 2 + 1) (.int .u64 (fBit k : Int)) = tabA (k + 1) := by
  unfold tabA
  rw [← tabRows_set k, ← show two ((tabRows k).set k (rowV k)) = _ from rfl]
  rw [show rowV k = (Value.int .i32 (fLet k : Int), Value.int .u64 (fBit k : Int)) from rfl, ← two_set]
  simp
theorem tabA_one (k : Nat) : ∀ v ∈ (tabA k), v.oneCell' = true := by
  intro v hv
  simp only [tabA, List.mem_toArray, two, List.mem_flatMap] at hv
  obtain ⟨p, hp, hv⟩ := hv
  simp only [tabRows, List.mem_map] at hp
  obtain ⟨i, _, rfl⟩ := hp
  split at hv <;> simp [rowV] at hv <;> rcases hv with rfl | rfl <;> rfl
theorem fLet_key (k : Nat) : fLet (5 + k) = 97 + k := by rw [Nat.add_comm]; simp only [fLet]; omega
theorem fBit_key (k : Nat) : fBit (5 + k) = 5 + k := by rw [Nat.add_comm]; simp only [fBit]
end Go.Proofs.YtpedmebigcchnaaGreatDoor
namespace Go.Proofs.YtpedmebigcchnaaGreatDoor
open Go.RowKit
theorem pow_lt31 {b : Nat} (hb : b < 31) : 2 ^ b < 4294967296 := by
  have : 2 ^ b ≤ 2 ^ 30 := Nat.pow_le_pow_right (by omega) (by omega)
  omega
theorem and_pow (f b : Nat) : (f &&& 2 ^ b = 0) ↔ f.testBit b = false := by
  constructor
  · intro h
    have h2 : (f &&& 2 ^ b).testBit b = false := by rw [h]; simp
    rw [Nat.testBit_and, Nat.testBit_two_pow_self, Bool.and_true] at h2
    exact h2
  · intro h
    apply Nat.eq_of_testBit_eq
    intro i
    rw [Nat.testBit_and, Nat.zero_testBit, Nat.testBit_two_pow]
    by_cases e : b = i
    · subst e; rw [h]; rfl
    · simp [e]
theorem ret_u32 {a b : Int} (h : a = b) : Ending.returned (.int .u32 a) = .returned (.int .u32 b) := by rw [h]
theorem ret_u8 {a b : Int} (h : a = b) : Ending.returned (.int .u8 a) = .returned (.int .u8 b) := by rw [h]
set_option maxRecDepth 20000 in
theorem mask_any (b : Nat) (w : World) (hb : b < 31) :
    Calls Tryz.prog 87 #[.int .u64 (b : Int)] w fun e w' => e = .returned (.int .u32 ((2 ^ b : Nat) : Int)) ∧ w' = w := by
  have hp := hide (pow_lt31 hb)
  go_enter Tryz.func87, Tryz.ntmps87
  go_wp2
  go_ret
  refine ⟨ret_u32 ?_, rfl⟩
  have h := hp.out
  have e : ((2 ^ b : Nat) : Int) = (2 : Int) ^ b := by push_cast; rfl
  rw [← e]
  generalize (2 ^ b : Nat) = q at h ⊢
  omega
def l4 (k : Nat) : Nat := if k = 0 then 82 else if k = 1 then 70 else if k = 2 then 84 else if k = 3 then 83 else if k = 4 then 68 else 92 + k
/-- The letters of the flags that are set. -/
def lettersTo (f k : Nat) : List Nat := ((List.range k).filter fun i => f.testBit (fBit i)).map fLet
def lettersOf (f : Nat) : List Nat := lettersTo f 31
theorem lettersTo_succ (f k : Nat) : lettersTo f (k + 1) = lettersTo f k ++ (if f.testBit (fBit k) then [fLet k] else []) := by
  unfold lettersTo
  rw [List.range_succ, List.filter_append, List.map_append]
  by_cases h : f.testBit (fBit k) = true
  · simp [h]
  · simp at h; simp [h]
theorem lettersTo_len (f k : Nat) : (lettersTo f k).length ≤ k := by
  unfold lettersTo
  rw [List.length_map]
  exact Nat.le_trans (List.length_filter_le _ _) (by simp)
/-- What the specification writes: for each byte its bits. -/
def innerTo (f b k : Nat) : List Nat := ((List.range k).filter fun i => l4 i == b && f.testBit i).map fun _ => b
def outerTo (f n : Nat) : List Nat := (List.range n).flatMap fun j => innerTo f (65 + j) 31
theorem innerTo_succ (f b k : Nat) : innerTo f b (k + 1) = innerTo f b k ++ (if l4 k == b && f.testBit k then [b] else []) := by
  unfold innerTo
  rw [List.range_succ, List.filter_append, List.map_append]
  by_cases h : (l4 k == b && f.testBit k) = true
  · simp [h]
  · simp only [Bool.not_eq_true] at h; simp [h]
theorem outerTo_succ (f n : Nat) : outerTo f (n + 1) = outerTo f n ++ innerTo f (65 + n) 31 := by
  unfold outerTo
  rw [List.range_succ, List.flatMap_append]
  simp
theorem pairs_all : ((List.range 58).flatMap fun j => ((List.range 31).filter fun i => l4 i == 65 + j).map fun i => (65 + j, i)) = (List.range 31).map fun i => (fLet i, fBit i) := by decide
theorem letters_eq (f : Nat) : outerTo f 58 = lettersOf f := by
  have h1 : lettersOf f = (((List.range 31).map fun i => (fLet i, fBit i)).filter fun p => f.testBit p.2).map Prod.fst := by
    unfold lettersOf lettersTo
    rw [List.filter_map, List.map_map]
    rfl
  rw [h1, ← pairs_all]
  unfold outerTo innerTo
  rw [List.filter_flatMap, List.map_flatMap]
  congr 1
  funext j
  rw [List.filter_map, List.map_map, List.filter_filter]
  congr 1
  congr 1
  funext i
  rw [Bool.and_comm]
  rfl
theorem outer_len (f n : Nat) : (outerTo f n).length ≤ n * 31 := by
  induction n with
  | zero => simp [outerTo]
  | succ n ih =>
    rw [outerTo_succ, List.length_append]
    have : (innerTo f (65 + n) 31).length ≤ 31 := by
      unfold innerTo
      rw [List.length_map]
      exact Nat.le_trans (List.length_filter_le _ _) (by simp)
    omega
theorem inner_len (f b k : Nat) : (innerTo f b k).length ≤ k := by
  unfold innerTo
  rw [List.length_map]
  exact Nat.le_trans (List.length_filter_le _ _) (by simp)
end Go.Proofs.YtpedmebigcchnaaGreatDoor
