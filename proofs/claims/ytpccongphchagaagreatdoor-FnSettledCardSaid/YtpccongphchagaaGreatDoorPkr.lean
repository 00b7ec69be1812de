import Derived.Test.YtpccongphchagaaGreatDoorPkk
import Derived.Test.YtpccongphchagaaGreatDoorPkq
namespace Go.Proofs.YtpccongphchagaaGreatDoor
open Go.RowKit
/-- What marking writes into a list of entries. -/
def marksE (k n : Nat) : List (ByteArray × Int) := (List.range n).map fun i => (mtx (k + 2 * i), ((k + 2 * i + 1 : Nat) : Int))
theorem marksE_length (k n : Nat) : (marksE k n).length = n := by simp [marksE]
theorem marksE_at (k n i : Nat) (h : i < (marksE k n).length) : (marksE k n)[i] = (mtx (k + 2 * i), ((k + 2 * i + 1 : Nat) : Int)) := by simp [marksE]
theorem marksE_succ (k n : Nat) : marksE k (n + 1) = marksE k n ++ [(mtx (k + 2 * n), ((k + 2 * n + 1 : Nat) : Int))] := by simp [marksE, List.range_succ]
def markedE (k : Nat) (l : List (ByteArray × Int)) (i : Nat) : List (ByteArray × Int) := marksE k i ++ l.drop i
theorem markedE_zero (k : Nat) (l : List (ByteArray × Int)) : markedE k l 0 = l := by simp [markedE, marksE]
theorem markedE_len (k : Nat) (l : List (ByteArray × Int)) : markedE k l l.length = marksE k l.length := by simp [markedE]
theorem markedE_length (k : Nat) (l : List (ByteArray × Int)) (i : Nat) (h : i ≤ l.length) : (markedE k l i).length = l.length := by simp [markedE, marksE_length]; omega
theorem markedE_set (k : Nat) (l : List (ByteArray × Int)) (i : Nat) (h : i < l.length) : (markedE k l i).set i (mtx (k + 2 * i), ((k + 2 * i + 1 : Nat) : Int)) = markedE k l (i + 1) := by
  unfold markedE
  rw [List.set_append_right _ _ (by simp [marksE_length])]
  have e : i - (marksE k i).length = 0 := by simp [marksE_length]
  rw [e, List.drop_eq_getElem_cons h, List.set_cons_zero, marksE_succ]
  simp
theorem OwnE.at0 {w : World} {base : Nat} {a : Option Addr} {n cap : Nat} {es : List (ByteArray × Int)} (h : OwnE w base (.slice a n cap) es) (hp : 0 < es.length) : ∃ g, a = some ⟨g, 0, none⟩ ∧ base ≤ g ∧ g < w.heap.size := by
  rcases h.2 with ⟨_, hn⟩ | ⟨g, cap', cur, h', hb, hg, _⟩
  · simp at hn; simp [hn] at hp
  · simp only [Value.slice.injEq] at h'
    exact ⟨g, h'.1, hb, lt_of_block hg⟩
end Go.Proofs.YtpccongphchagaaGreatDoor
namespace Go.Proofs.YtpccongphchagaaGreatDoor
open Go.RowKit
abbrev OpM := Int × ByteArray × ByteArray × Int
def opK (k : Nat) : OpM := ((k : Int), mtx (k + 1), mtx (k + 2), ((k + 3 : Nat) : Int))
/-- What marking writes into a list of steps. -/
def marksO (k n : Nat) : List OpM := (List.range n).map fun i => opK (k + 4 * i)
theorem marksO_length (k n : Nat) : (marksO k n).length = n := by simp [marksO]
theorem marksO_at (k n i : Nat) (h : i < (marksO k n).length) : (marksO k n)[i] = opK (k + 4 * i) := by simp [marksO]
theorem marksO_succ (k n : Nat) : marksO k (n + 1) = marksO k n ++ [opK (k + 4 * n)] := by simp [marksO, List.range_succ]
def markedO (k : Nat) (l : List OpM) (i : Nat) : List OpM := marksO k i ++ l.drop i
theorem markedO_zero (k : Nat) (l : List OpM) : markedO k l 0 = l := by simp [markedO, marksO]
theorem markedO_len (k : Nat) (l : List OpM) : markedO k l l.length = marksO k l.length := by simp [markedO]
theorem markedO_length (k : Nat) (l : List OpM) (i : Nat) (h : i ≤ l.length) : (markedO k l i).length = l.length := by simp [markedO, marksO_length]; omega
theorem markedO_set (k : Nat) (l : List OpM) (i : Nat) (h : i < l.length) : (markedO k l i).set i (opK (k + 4 * i)) = markedO k l (i + 1) := by
  unfold markedO
  rw [List.set_append_right _ _ (by simp [marksO_length])]
  have e : i - (marksO k i).length = 0 := by simp [marksO_length]
  rw [e, List.drop_eq_getElem_cons h, List.set_cons_zero, marksO_succ]
  simp
theorem OwnO.at0 {w : World} {base : Nat} {a : Option Addr} {n cap : Nat} {es : List OpM} (h : OwnO w base (.slice a n cap) es) (hp : 0 < es.length) : ∃ g, a = some ⟨g, 0, none⟩ ∧ base ≤ g ∧ g < w.heap.size := by
  rcases h.2 with ⟨_, hn⟩ | ⟨g, cap', cur, h', hb, hg, _⟩
  · simp at hn; simp [hn] at hp
  · simp only [Value.slice.injEq] at h'
    exact ⟨g, h'.1, hb, lt_of_block hg⟩
/-- One cell of a list of steps is put. -/
theorem Own4.put {w : World} {base e g n cap : Nat} {l : List V4} (h : Own4 w base e (.slice (some ⟨g, 0, none⟩) n cap) l) (j i : Nat) (u : Value) (l' : List V4) (hl : (four l).set (j * 4 + i) u = four l') (hlen : l'.length = l.length) : Own4 (w.setCell ⟨g, j * 4 + i, none⟩ u) base e (.slice (some ⟨g, 0, none⟩) n cap) l' := by
  obtain ⟨a, c, e1⟩ := h.slice
  simp only [Value.slice.injEq] at e1
  obtain ⟨_, rfl, rfl⟩ := e1
  have h1 := (World.ownsRow.stored h (j * 4 + i) u).1
  unfold Own4
  rw [hlen, ← hl]
  exact h1
theorem four_put (l : List V4) (i : Nat) (u : Value) (h : i < l.length) :
    (four l).set (i * 4) u = four (l.set i (u, l[i].2)) ∧ (four l).set (i * 4 + 1) u = four (l.set i (l[i].1, u, l[i].2.2)) ∧ (four l).set (i * 4 + 2) u = four (l.set i (l[i].1, l[i].2.1, u, l[i].2.2.2)) ∧ (four l).set (i * 4 + 3) u = four (l.set i (l[i].1, l[i].2.1, l[i].2.2.1, u)) := by
  induction l generalizing i with
  | nil => simp at h
  | cons p l ih =>
    cases i with
    | zero => simp [four_cons]
    | succ i =>
      obtain ⟨h0, h1, h2, h3⟩ := ih i (by simpa using h)
      rw [four_cons, show (i + 1) * 4 + 3 = (i * 4 + 3) + 1 + 1 + 1 + 1 from by omega, show (i + 1) * 4 + 2 = (i * 4 + 2) + 1 + 1 + 1 + 1 from by omega, show (i + 1) * 4 + 1 = (i * 4 + 1) + 1 + 1 + 1 + 1 from by omega, show (i + 1) * 4 = i * 4 + 1 + 1 + 1 + 1 from by omega]
      simp only [List.set_cons_succ, four_cons, List.getElem_cons_succ]
      rw [h0, h1, h2, h3]
      exact ⟨rfl, rfl, rfl, rfl⟩
/-- Step j of the list is x: the marks on the way through one round. -/
theorem OwnO.put {w : World} {base g n cap j : Nat} {es : List OpM} (h : OwnO w base (.slice (some ⟨g, 0, none⟩) n cap) es) (hj : j < es.length) :
    (∀ z : Int, OwnO (w.setCell ⟨g, j * 4, none⟩ (.int .i64 z)) base (.slice (some ⟨g, 0, none⟩) n cap) (es.set j (z, es[j].2))) ∧ (∀ z : ByteArray, OwnO (w.setCell ⟨g, j * 4 + 1, none⟩ (.string z)) base (.slice (some ⟨g, 0, none⟩) n cap) (es.set j (es[j].1, z, es[j].2.2))) ∧ (∀ z : ByteArray, OwnO (w.setCell ⟨g, j * 4 + 2, none⟩ (.string z)) base (.slice (some ⟨g, 0, none⟩) n cap) (es.set j (es[j].1, es[j].2.1, z, es[j].2.2.2))) ∧ (∀ z : Int, OwnO (w.setCell ⟨g, j * 4 + 3, none⟩ (.int .i64 z)) base (.slice (some ⟨g, 0, none⟩) n cap) (es.set j (es[j].1, es[j].2.1, es[j].2.2.1, z))) := by
  have hj' : j < (es.map opP).length := by rw [List.length_map]; exact hj
  have hp := fun u => four_put (es.map opP) j u hj'
  simp only [List.getElem_map] at hp
  refine ⟨fun z => ?_, fun z => ?_, fun z => ?_, fun z => ?_⟩
  · refine Own4.put h j 0 _ _ ?_ (by simp)
    rw [List.map_set]; exact (hp _).1
  · refine Own4.put h j 1 _ _ ?_ (by simp)
    rw [List.map_set]; exact (hp _).2.1
  · refine Own4.put h j 2 _ _ ?_ (by simp)
    rw [List.map_set]; exact (hp _).2.2.1
  · refine Own4.put h j 3 _ _ ?_ (by simp)
    rw [List.map_set]; exact (hp _).2.2.2
theorem OwnO.cells {w : World} {base g n cap j : Nat} {es : List OpM} (h : OwnO w base (.slice (some ⟨g, 0, none⟩) n cap) es) (hj : j < es.length) : w.cell? ⟨g, j * 4, none⟩ = some (.int .i64 es[j].1) ∧ w.cell? ⟨g, j * 4 + 1, none⟩ = some (.string es[j].2.1) ∧ w.cell? ⟨g, j * 4 + 2, none⟩ = some (.string es[j].2.2.1) ∧ w.cell? ⟨g, j * 4 + 3, none⟩ = some (.int .i64 es[j].2.2.2) := by
  have := Own4.cells h j (by rw [List.length_map]; exact hj)
  simp only [List.getElem_map] at this
  exact this
end Go.Proofs.YtpccongphchagaaGreatDoor
namespace Go.Proofs.YtpccongphchagaaGreatDoor
open Go.RowKit
theorem OwnO.putAt {w : World} {base g n cap j : Nat} {M : List OpM} {a d : Int} {b c : ByteArray} (h : OwnO w base (.slice (some ⟨g, 0, none⟩) n cap) (M.set j (a, b, c, d))) (hj : j < M.length) :
    (∀ z : Int, OwnO (w.setCell ⟨g, j * 4, none⟩ (.int .i64 z)) base (.slice (some ⟨g, 0, none⟩) n cap) (M.set j (z, b, c, d))) ∧ (∀ z : ByteArray, OwnO (w.setCell ⟨g, j * 4 + 1, none⟩ (.string z)) base (.slice (some ⟨g, 0, none⟩) n cap) (M.set j (a, z, c, d))) ∧ (∀ z : ByteArray, OwnO (w.setCell ⟨g, j * 4 + 2, none⟩ (.string z)) base (.slice (some ⟨g, 0, none⟩) n cap) (M.set j (a, b, z, d))) ∧ (∀ z : Int, OwnO (w.setCell ⟨g, j * 4 + 3, none⟩ (.int .i64 z)) base (.slice (some ⟨g, 0, none⟩) n cap) (M.set j (a, b, c, z))) := by
  have := h.put (j := j) (by simpa using hj)
  simpa only [List.getElem_set_self, List.set_set] using this
theorem OwnO.cellsAt {w : World} {base g n cap j : Nat} {M : List OpM} {a d : Int} {b c : ByteArray} (h : OwnO w base (.slice (some ⟨g, 0, none⟩) n cap) (M.set j (a, b, c, d))) (hj : j < M.length) : w.cell? ⟨g, j * 4, none⟩ = some (.int .i64 a) ∧ w.cell? ⟨g, j * 4 + 1, none⟩ = some (.string b) ∧ w.cell? ⟨g, j * 4 + 2, none⟩ = some (.string c) ∧ w.cell? ⟨g, j * 4 + 3, none⟩ = some (.int .i64 d) := by
  have := h.cells (j := j) (by simpa using hj)
  simpa only [List.getElem_set_self] using this
end Go.Proofs.YtpccongphchagaaGreatDoor
namespace Go.Proofs.YtpccongphchagaaGreatDoor
open Go.RowKit
end Go.Proofs.YtpccongphchagaaGreatDoor
namespace Go.Proofs.YtpccongphchagaaGreatDoor
open Go.RowKit
theorem OwnNA.at_ {w : World} {base : Nat} {v : Value} {vs : List (Value × Value)} {ns : List NdM} (h : OwnNA w base v vs ns) {x : Value} (hx : x ∈ vs.map (·.1)) : ∃ l, OwnB w base x l := by
  obtain ⟨y, hy, rfl⟩ := List.mem_map.1 hx
  obtain ⟨i, hi, rfl⟩ := List.getElem_of_mem hy
  obtain ⟨z, hz, o⟩ := h.body i (by have := h.len; omega)
  rw [List.getElem?_eq_getElem hi, Option.some.injEq] at hz
  rw [hz]
  exact ⟨_, o⟩
theorem OwnNA.lo {w : World} {base g : Nat} {v : Value} {vs : List (Value × Value)} {ns : List NdM} (h : OwnNA w base v vs ns) (hg : nodeS v vs g) : base ≤ g ∧ g < w.heap.size := by
  rcases hg with hg | ⟨x, hx, hg⟩
  · exact World.ownsRow.lt h.row g hg
  · obtain ⟨l, o⟩ := h.at_ hx
    exact World.ownsRow.lt o g hg
theorem OwnNA.notin {w : World} {base b e k n : Nat} {v u : Value} {vs : List (Value × Value)} {ns : List NdM} {xs : List Value} (h : OwnNA w base v vs ns) (o : w.ownsRow b e k u n xs) (h5 : e ≠ 5) (hN : e ≠ 49) : ∀ g, u.ownBlock = some g → ¬ nodeS v vs g := by
  rintro g hg (h1 | ⟨x, hx, h1⟩)
  · exact away_not (owns_away o h.row hN) g hg h1
  · obtain ⟨l, ox⟩ := h.at_ hx
    exact away_not (owns_away o ox h5) g hg h1
/-- Nodes stand where none of their blocks has changed. -/
theorem OwnNA.fr {S : Nat → Prop} {w w' : World} {base : Nat} {v : Value} {vs : List (Value × Value)} {ns : List NdM} (h : OwnNA w base v vs ns) (f : Fr S w w') (hn : ∀ g, nodeS v vs g → ¬ S g) : OwnNA w' base v vs ns := by
  refine ⟨h.len, owns_fr h.row f (fun g hg => hn g (.inl hg)), fun i hi => ?_, h.apart⟩
  obtain ⟨x, hx, o⟩ := h.body i hi
  exact ⟨x, hx, owns_fr o f (fun g hg => hn g (.inr ⟨x, List.mem_of_getElem? (i := i) (by rw [List.getElem?_map, hx]; rfl), hg⟩))⟩
/-- A disk of the call's own, its rows apart, all its blocks below hi. -/
structure OwnDA (w : World) (base hi : Nat) (v1 v2 v3 v4 : Value) (vs : List (Value × Value)) (D : MDisk) : Prop where
  nodes : OwnNA w base v1 vs D.nodes
  names : OwnE w base v2 D.names
  kept : OwnE w base v3 D.kept
  pend : OwnO w base v4 D.pend
  away : awayV v2 v3
  b1 : ∀ g, nodeS v1 vs g → g < hi
  b2 : ∀ g, v2.ownBlock = some g → g < hi
  b3 : ∀ g, v3.ownBlock = some g → g < hi
  b4 : ∀ g, v4.ownBlock = some g → g < hi
theorem OwnDA.own {w : World} {base hi : Nat} {v1 v2 v3 v4 : Value} {vs : List (Value × Value)} {D : MDisk} (h : OwnDA w base hi v1 v2 v3 v4 vs D) : OwnD w base (.agg #[v1, v2, v3, v4, .int .i64 D.quota]) D := ⟨v1, v2, v3, v4, rfl, h.nodes.own, h.names, h.kept, h.pend⟩
theorem OwnDA.fr {S : Nat → Prop} {w w' : World} {base hi : Nat} {v1 v2 v3 v4 : Value} {vs : List (Value × Value)} {D : MDisk} (h : OwnDA w base hi v1 v2 v3 v4 vs D) (f : Fr S w w') (hn : ∀ g, base ≤ g → g < hi → ¬ S g) : OwnDA w' base hi v1 v2 v3 v4 vs D :=
  ⟨h.nodes.fr f (fun g hg => hn g (h.nodes.lo hg).1 (h.b1 g hg)), owns_fr h.names f (fun g hg => hn g (World.ownsRow.lt h.names g hg).1 (h.b2 g hg)), owns_fr h.kept f (fun g hg => hn g (World.ownsRow.lt h.kept g hg).1 (h.b3 g hg)), owns_fr h.pend f (fun g hg => hn g (World.ownsRow.lt h.pend g hg).1 (h.b4 g hg)), h.away, h.b1, h.b2, h.b3, h.b4⟩
theorem OwnDA.below {w w' : World} {base hi : Nat} {v1 v2 v3 v4 : Value} {vs : List (Value × Value)} {D : MDisk} (h : OwnDA w base hi v1 v2 v3 v4 vs D) (hb : Below w.heap.size w w') : OwnDA w' base hi v1 v2 v3 v4 vs D :=
  h.fr (S := fun _ => False) (Fr.of_below hb) (fun _ _ _ => id)
def kD1 (D : MDisk) : Nat := kNd 1 D.nodes D.nodes.length
def kD2 (D : MDisk) : Nat := kD1 D + 2 * D.names.length
def kD3 (D : MDisk) : Nat := kD2 D + 2 * D.kept.length
def kD4 (D : MDisk) : Nat := kD3 D + 4 * D.pend.length
/-- A disk as the marks leave it. -/
def mkD (D : MDisk) : MDisk := ⟨muN 1 D.nodes, marksE (kD1 D) D.names.length, marksE (kD2 D) D.kept.length, marksO (kD3 D) D.pend.length, D.quota⟩
theorem marks_shape {w : World} {v : Value} {D : MDisk} (h : DiskAt w v (mkD D)) : ∃ a1 c1 a2 c2 a3 c3 a4 c4, v = .agg #[.slice a1 D.nodes.length c1, .slice a2 D.names.length c2, .slice a3 D.kept.length c3, .slice a4 D.pend.length c4, .int .i64 D.quota] ∧ NodeAt w a1 (muN 1 D.nodes) ∧ EntAt w a2 (marksE (kD1 D) D.names.length) ∧ EntAt w a3 (marksE (kD2 D) D.kept.length) ∧ OpAt w a4 (marksO (kD3 D) D.pend.length) := by
  obtain ⟨a1, c1, a2, c2, a3, c3, a4, c4, e, h1, h2, h3, h4⟩ := h
  unfold mkD at e h1 h2 h3 h4
  simp only [muN_length, marksE_length, marksO_length] at e h1 h2 h3 h4
  exact ⟨a1, c1, a2, c2, a3, c3, a4, c4, e, h1, h2, h3, h4⟩
end Go.Proofs.YtpccongphchagaaGreatDoor
