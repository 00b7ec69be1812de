import Derived.Test.YtpccongphchagaaGreatDoorPkb
import Derived.Test.YtpccongphchagaaGreatDoorPkd
namespace Go.Proofs.YtpccongphchagaaGreatDoor
open Go.RowKit
/-- The cells of a list of pairs. -/
def two (l : List (Value × Value)) : List Value := l.flatMap fun p => [p.1, p.2]
theorem two_cons (p : Value × Value) (l : List (Value × Value)) : two (p :: l) = p.1 :: p.2 :: two l := rfl
theorem two_length (l : List (Value × Value)) : (two l).length = l.length * 2 := by
  induction l with
  | nil => rfl
  | cons p l ih => rw [two_cons]; simp [ih]; omega
theorem two_get0 (l : List (Value × Value)) (i : Nat) (h : i < l.length) : (two l)[i * 2]? = some l[i].1 := by
  induction l generalizing i with
  | nil => simp at h
  | cons p l ih =>
    cases i with
    | zero => simp [two_cons]
    | succ i =>
      rw [two_cons, show (i + 1) * 2 = i * 2 + 1 + 1 from by omega]
      simp only [List.getElem?_cons_succ, List.getElem_cons_succ]
      exact ih i (by simpa using h)
theorem two_get1 (l : List (Value × Value)) (i : Nat) (h : i < l.length) : (two l)[i * 2 + 1]? = some l[i].2 := by
  induction l generalizing i with
  | nil => simp at h
  | cons p l ih =>
    cases i with
    | zero => simp [two_cons]
    | succ i =>
      rw [two_cons, show (i + 1) * 2 + 1 = (i * 2 + 1) + 1 + 1 from by omega]
      simp only [List.getElem?_cons_succ, List.getElem_cons_succ]
      exact ih i (by simpa using h)
theorem two_set (l : List (Value × Value)) (i : Nat) (x y : Value) : ((two l).set (i * 2) x).set (i * 2 + 1) y = two (l.set i (x, y)) := by
  induction l generalizing i with
  | nil => simp [two]
  | cons p l ih =>
    cases i with
    | zero => simp [two_cons]
    | succ i =>
      rw [two_cons, show (i + 1) * 2 + 1 = (i * 2 + 1) + 1 + 1 from by omega, show (i + 1) * 2 = i * 2 + 1 + 1 from by omega]
      simp only [List.set_cons_succ, two_cons]
      rw [ih i]
theorem two_made (z0 z1 : Value) (n : Nat) : (madeCells #[z0, z1] (n * 2)).toList = two (List.replicate n (z0, z1)) := by
  apply List.ext_getElem?
  intro j
  by_cases hj : j < n * 2
  · obtain ⟨i, rfl | rfl⟩ : ∃ i, j = i * 2 ∨ j = i * 2 + 1 := ⟨j / 2, by omega⟩
    · rw [two_get0 _ _ (by simp; omega)]
      simp [madeCells, hj]
    · rw [two_get1 _ _ (by simp; omega)]
      simp [madeCells, hj]
  · rw [List.getElem?_eq_none (by simp [size_madeCells]; omega), List.getElem?_eq_none (by rw [two_length]; simp; omega)]
/-- A slice of the call's own whose elements are pairs of cells. -/
def Own2 (w : World) (base : Nat) (e : TypeId) (v : Value) (l : List (Value × Value)) : Prop := w.ownsRow base e 2 v l.length (two l)
theorem Own2.slice {w : World} {base : Nat} {e : TypeId} {v : Value} {l : List (Value × Value)} (h : Own2 w base e v l) : ∃ a cap, v = .slice a l.length cap := by
  rcases h.2 with ⟨rfl, hn⟩ | ⟨g, cap, cur, rfl, _⟩
  · exact ⟨none, 0, by rw [hn]⟩
  · exact ⟨_, cap, rfl⟩
theorem Own2.store {w : World} {base e g n cap : Nat} {l : List (Value × Value)} (h : Own2 w base e (.slice (some ⟨g, 0, none⟩) n cap) l) (k : Nat) (x y : Value) :
    Own2 ((w.setCell ⟨g, k * 2, none⟩ x).setCell ⟨g, k * 2 + 1, none⟩ y) base e (.slice (some ⟨g, 0, none⟩) n cap) (l.set k (x, y)) := by
  obtain ⟨a, c, e1⟩ := h.slice
  simp only [Value.slice.injEq] at e1
  obtain ⟨_, rfl, rfl⟩ := e1
  have h1 := (World.ownsRow.stored (World.ownsRow.stored h (k * 2) x).1 (k * 2 + 1) y).1
  unfold Own2
  rw [List.length_set, ← two_set]
  exact h1
theorem Own2.cells {w : World} {base e g n cap : Nat} {l : List (Value × Value)} (h : Own2 w base e (.slice (some ⟨g, 0, none⟩) n cap) l) (k : Nat) (hk : k < l.length) : w.cell? ⟨g, k * 2, none⟩ = some l[k].1 ∧ w.cell? ⟨g, k * 2 + 1, none⟩ = some l[k].2 := by
  have h0 := World.ownsRow.cells h (g := g) rfl (k * 2) _ (two_get0 l k hk)
  have h1 := World.ownsRow.cells h (g := g) rfl (k * 2 + 1) _ (two_get1 l k hk)
  rw [addr_add, Nat.zero_add] at h0 h1
  exact ⟨h0, h1⟩
theorem Own2.frozen {w : World} {base e g n cap : Nat} {l : List (Value × Value)} (h : Own2 w base e (.slice (some ⟨g, 0, none⟩) n cap) l) (k : Nat) : w.frozen? ⟨g, k, none⟩ = false := by
  obtain ⟨a, c, e1⟩ := h.slice
  simp only [Value.slice.injEq] at e1
  obtain ⟨_, rfl, rfl⟩ := e1
  exact World.ownsRow.frozenAt h k
theorem Own2.below {B base e : Nat} {w w' : World} {v : Value} {l : List (Value × Value)} (h : Own2 w base e v l) (hb : Below B w w') (hB : w.heap.size ≤ B) : Own2 w' base e v l := by
  refine ⟨h.1, ?_⟩
  rcases h.2 with hn | ⟨g, cap, cur, hv, hg0, hg, rest⟩
  · exact .inl hn
  · refine .inr ⟨g, cap, cur, hv, hg0, ?_, rest⟩
    have hlt : g < w.heap.size := by
      rcases Nat.lt_or_ge g w.heap.size with h' | h'
      · exact h'
      · simp [Array.getElem?_eq_none h'] at hg
    rw [hb.block g (Nat.lt_of_lt_of_le hlt hB)]; exact hg
/-- What a copy has written behind k rounds. -/
def halfA {α : Type} (z : α) (l : List α) (k : Nat) : List α := l.take k ++ List.replicate (l.length - k) z
theorem halfA_zero {α : Type} (z : α) (l : List α) : halfA z l 0 = List.replicate l.length z := by simp [halfA]
theorem halfA_len {α : Type} (z : α) (l : List α) : halfA z l l.length = l := by simp [halfA]
theorem halfA_length {α : Type} (z : α) (l : List α) (k : Nat) (h : k ≤ l.length) : (halfA z l k).length = l.length := by simp [halfA]; omega
theorem halfA_set {α : Type} (z : α) (l : List α) (k : Nat) (h : k < l.length) : (halfA z l k).set k l[k] = halfA z l (k + 1) := by
  unfold halfA
  rw [List.set_append_right _ _ (by simp; omega)]
  have e : k - (l.take k).length = 0 := by simp; omega
  rw [e, show l.length - k = (l.length - (k + 1)) + 1 from by omega, List.replicate_succ, List.set_cons_zero, List.take_succ_eq_append_getElem h]
  simp only [List.append_assoc, List.cons_append, List.nil_append]
end Go.Proofs.YtpccongphchagaaGreatDoor
namespace Go.Proofs.YtpccongphchagaaGreatDoor
open Go.RowKit
abbrev V4 := Value × Value × Value × Value
/-- The cells of a list of fours. -/
def four (l : List V4) : List Value := l.flatMap fun p => [p.1, p.2.1, p.2.2.1, p.2.2.2]
theorem four_cons (p : V4) (l : List V4) : four (p :: l) = p.1 :: p.2.1 :: p.2.2.1 :: p.2.2.2 :: four l := rfl
theorem four_length (l : List V4) : (four l).length = l.length * 4 := by
  induction l with
  | nil => rfl
  | cons p l ih => rw [four_cons]; simp [ih]; omega
theorem four_get0 (l : List V4) (i : Nat) (h : i < l.length) : (four l)[i * 4]? = some l[i].1 := by
  induction l generalizing i with
  | nil => simp at h
  | cons p l ih =>
    cases i with
    | zero => simp [four_cons]
    | succ i =>
      rw [four_cons, show (i + 1) * 4 = (i * 4) + 1 + 1 + 1 + 1 from by omega]
      simp only [List.getElem?_cons_succ, List.getElem_cons_succ]
      exact ih i (by simpa using h)
theorem four_get1 (l : List V4) (i : Nat) (h : i < l.length) : (four l)[i * 4 + 1]? = some l[i].2.1 := by
  induction l generalizing i with
  | nil => simp at h
  | cons p l ih =>
    cases i with
    | zero => simp [four_cons]
    | succ i =>
      rw [four_cons, show (i + 1) * 4 + 1 = (i * 4 + 1) + 1 + 1 + 1 + 1 from by omega]
      simp only [List.getElem?_cons_succ, List.getElem_cons_succ]
      exact ih i (by simpa using h)
theorem four_get2 (l : List V4) (i : Nat) (h : i < l.length) : (four l)[i * 4 + 2]? = some l[i].2.2.1 := by
  induction l generalizing i with
  | nil => simp at h
  | cons p l ih =>
    cases i with
    | zero => simp [four_cons]
    | succ i =>
      rw [four_cons, show (i + 1) * 4 + 2 = (i * 4 + 2) + 1 + 1 + 1 + 1 from by omega]
      simp only [List.getElem?_cons_succ, List.getElem_cons_succ]
      exact ih i (by simpa using h)
theorem four_get3 (l : List V4) (i : Nat) (h : i < l.length) : (four l)[i * 4 + 3]? = some l[i].2.2.2 := by
  induction l generalizing i with
  | nil => simp at h
  | cons p l ih =>
    cases i with
    | zero => simp [four_cons]
    | succ i =>
      rw [four_cons, show (i + 1) * 4 + 3 = (i * 4 + 3) + 1 + 1 + 1 + 1 from by omega]
      simp only [List.getElem?_cons_succ, List.getElem_cons_succ]
      exact ih i (by simpa using h)
theorem four_set (l : List V4) (i : Nat) (x y z u : Value) : ((((four l).set (i * 4) x).set (i * 4 + 1) y).set (i * 4 + 2) z).set (i * 4 + 3) u = four (l.set i (x, y, z, u)) := by
  induction l generalizing i with
  | nil => simp [four]
  | cons p l ih =>
    cases i with
    | zero => simp [four_cons]
    | succ i =>
      rw [four_cons, show (i + 1) * 4 + 3 = (i * 4 + 3) + 1 + 1 + 1 + 1 from by omega, show (i + 1) * 4 + 2 = (i * 4 + 2) + 1 + 1 + 1 + 1 from by omega, show (i + 1) * 4 + 1 = (i * 4 + 1) + 1 + 1 + 1 + 1 from by omega, show (i + 1) * 4 = i * 4 + 1 + 1 + 1 + 1 from by omega]
      simp only [List.set_cons_succ, four_cons]
      rw [ih i]
theorem four_made (z0 z1 z2 z3 : Value) (n : Nat) : (madeCells #[z0, z1, z2, z3] (n * 4)).toList = four (List.replicate n (z0, z1, z2, z3)) := by
  apply List.ext_getElem?
  intro j
  by_cases hj : j < n * 4
  · obtain ⟨i, rfl | rfl | rfl | rfl⟩ : ∃ i, j = i * 4 ∨ j = i * 4 + 1 ∨ j = i * 4 + 2 ∨ j = i * 4 + 3 := ⟨j / 4, by omega⟩
    · rw [four_get0 _ _ (by simp; omega)]
      simp [madeCells, hj]
    · rw [four_get1 _ _ (by simp; omega)]
      simp [madeCells, hj]
    · rw [four_get2 _ _ (by simp; omega)]
      simp [madeCells, hj]
    · rw [four_get3 _ _ (by simp; omega)]
      simp [madeCells, hj]
  · rw [List.getElem?_eq_none (by simp [size_madeCells]; omega), List.getElem?_eq_none (by rw [four_length]; simp; omega)]
/-- A slice of the call's own whose elements are fours of cells. -/
def Own4 (w : World) (base : Nat) (e : TypeId) (v : Value) (l : List V4) : Prop := w.ownsRow base e 4 v l.length (four l)
theorem Own4.slice {w : World} {base : Nat} {e : TypeId} {v : Value} {l : List V4} (h : Own4 w base e v l) : ∃ a cap, v = .slice a l.length cap := by
  rcases h.2 with ⟨rfl, hn⟩ | ⟨g, cap, cur, rfl, _⟩
  · exact ⟨none, 0, by rw [hn]⟩
  · exact ⟨_, cap, rfl⟩
theorem Own4.store {w : World} {base e g n cap : Nat} {l : List V4} (h : Own4 w base e (.slice (some ⟨g, 0, none⟩) n cap) l) (k : Nat) (x y z u : Value) :
    Own4 ((((w.setCell ⟨g, k * 4, none⟩ x).setCell ⟨g, k * 4 + 1, none⟩ y).setCell ⟨g, k * 4 + 2, none⟩ z).setCell ⟨g, k * 4 + 3, none⟩ u) base e (.slice (some ⟨g, 0, none⟩) n cap) (l.set k (x, y, z, u)) := by
  obtain ⟨a, c, e1⟩ := h.slice
  simp only [Value.slice.injEq] at e1
  obtain ⟨_, rfl, rfl⟩ := e1
  have h1 := (World.ownsRow.stored (World.ownsRow.stored (World.ownsRow.stored (World.ownsRow.stored h (k * 4) x).1 (k * 4 + 1) y).1 (k * 4 + 2) z).1 (k * 4 + 3) u).1
  unfold Own4
  rw [List.length_set, ← four_set]
  exact h1
theorem Own4.cells {w : World} {base e g n cap : Nat} {l : List V4} (h : Own4 w base e (.slice (some ⟨g, 0, none⟩) n cap) l) (k : Nat) (hk : k < l.length) : w.cell? ⟨g, k * 4, none⟩ = some l[k].1 ∧ w.cell? ⟨g, k * 4 + 1, none⟩ = some l[k].2.1 ∧ w.cell? ⟨g, k * 4 + 2, none⟩ = some l[k].2.2.1 ∧ w.cell? ⟨g, k * 4 + 3, none⟩ = some l[k].2.2.2 := by
  have h0 := World.ownsRow.cells h (g := g) rfl (k * 4) _ (four_get0 l k hk)
  have h1 := World.ownsRow.cells h (g := g) rfl (k * 4 + 1) _ (four_get1 l k hk)
  have h2 := World.ownsRow.cells h (g := g) rfl (k * 4 + 2) _ (four_get2 l k hk)
  have h3 := World.ownsRow.cells h (g := g) rfl (k * 4 + 3) _ (four_get3 l k hk)
  rw [addr_add, Nat.zero_add] at h0 h1 h2 h3
  exact ⟨h0, h1, h2, h3⟩
theorem Own4.frozen {w : World} {base e g n cap : Nat} {l : List V4} (h : Own4 w base e (.slice (some ⟨g, 0, none⟩) n cap) l) (k : Nat) : w.frozen? ⟨g, k, none⟩ = false := by
  obtain ⟨a, c, e1⟩ := h.slice
  simp only [Value.slice.injEq] at e1
  obtain ⟨_, rfl, rfl⟩ := e1
  exact World.ownsRow.frozenAt h k
theorem Own4.below {B base e : Nat} {w w' : World} {v : Value} {l : List V4} (h : Own4 w base e v l) (hb : Below B w w') (hB : w.heap.size ≤ B) : Own4 w' base e v l := by
  refine ⟨h.1, ?_⟩
  rcases h.2 with hn | ⟨g, cap, cur, hv, hg0, hg, rest⟩
  · exact .inl hn
  · refine .inr ⟨g, cap, cur, hv, hg0, ?_, rest⟩
    have hlt : g < w.heap.size := by
      rcases Nat.lt_or_ge g w.heap.size with h' | h'
      · exact h'
      · simp [Array.getElem?_eq_none h'] at hg
    rw [hb.block g (Nat.lt_of_lt_of_le hlt hB)]; exact hg
end Go.Proofs.YtpccongphchagaaGreatDoor
namespace Go.Proofs.YtpccongphchagaaGreatDoor
open Go.RowKit
theorem Tryz.infoDirOp : (Tryz.prog.info? 68).map (fun i => (i.zero, i.size, i.bytes)) = some (some (.agg #[.int .i64 0, .string ByteArray.empty, .string ByteArray.empty, .int .i64 0]), 4, 48) := by kernel_rfl
def opP (e : Int × ByteArray × ByteArray × Int) : V4 := (.int .i64 e.1, .string e.2.1, .string e.2.2.1, .int .i64 e.2.2.2)
/-- The steps of a call's own. -/
def OwnO (w : World) (base : Nat) (v : Value) (es : List (Int × ByteArray × ByteArray × Int)) : Prop := Own4 w base 68 v (es.map opP)
theorem OwnO.at {w : World} {base : Nat} {a : Option Addr} {n cap : Nat} {es : List (Int × ByteArray × ByteArray × Int)} (h : OwnO w base (.slice a n cap) es) : OpAt w a es := fun hp => by
  rcases h.2 with ⟨_, hn⟩ | ⟨g, cap', cur, h', _⟩
  · simp at hn; simp [hn] at hp
  · simp only [Value.slice.injEq] at h'
    obtain ⟨rfl, rfl, rfl⟩ := h'
    refine ⟨g, 0, rfl, fun i hi => ?_⟩
    obtain ⟨h0, h1, h2, h3⟩ := Own4.cells h i (by simpa using hi)
    rw [Nat.zero_add]
    simp [opP] at h0 h1 h2 h3
    exact ⟨h0, h1, h2, h3⟩
theorem wpList_make_steps {ops : Array Oper} {rest : List Oper} {o : Oper} {act : Act} {Q : Exit → Act → World → Prop} (w : World) (hgd : o.guard = none) (s x : Operand)
    (ho : o.op = Op.makeSlice 25 s x) (n : Nat) (hs : act.eval s = .int .i64 (n : Int)) (hx : act.eval x = .int .i64 (n : Int)) (hlen : n ≤ 1048576)
    (h : ∀ w', OwnO w' w.heap.size (.slice (some ⟨w.heap.size, 0, none⟩) n n) (List.replicate n (0, ByteArray.empty, ByteArray.empty, 0)) → Below w.heap.size w w' → wpList Tryz.prog ops Q rest (act.put o.dst (.slice (some ⟨w.heap.size, 0, none⟩) n n)) w') : wpList Tryz.prog ops Q (o :: rest) act w := by
  obtain ⟨i0, hi, hz0, hz1, hz2⟩ := info_parts Tryz.infoDirOp
  refine wpList_make_full w hgd s x 25 ho w.heap.size 68 i0 (.agg #[.int .i64 0, .string ByteArray.empty, .string ByteArray.empty, .int .i64 0]) 4 Tryz.underlying25 hi hz0 hz1 .i64 .i64 _ _ n hs hx rfl rfl (by rw [hz2]; omega) (by unfold maxLen; omega) (Nat.le_refl _) ?_
  intro w1 hown hgrow
  refine h w1 ?_ ((Below.refl _ _).grown hgrow (Nat.le_refl _) (fun k h => by cases h))
  unfold OwnO Own4
  rw [List.length_map, List.length_replicate, List.map_replicate]
  have e : (madeCells (Value.agg #[.int .i64 0, .string ByteArray.empty, .string ByteArray.empty, .int .i64 0]).cells (n * 4)).toList = four (List.replicate n (opP (0, ByteArray.empty, ByteArray.empty, 0))) := four_made _ _ _ _ _
  rw [e] at hown; exact hown
end Go.Proofs.YtpccongphchagaaGreatDoor
namespace Go.Proofs.YtpccongphchagaaGreatDoor
open Go.RowKit
theorem Tryz.infoEntry : (Tryz.prog.info? 37).map (fun i => (i.zero, i.size, i.bytes)) = some (some (.agg #[.string ByteArray.empty, .int .i64 0]), 2, 24) := by kernel_rfl
def entP (e : ByteArray × Int) : Value × Value := (.string e.1, .int .i64 e.2)
/-- The entries of a call's own. -/
def OwnE (w : World) (base : Nat) (v : Value) (es : List (ByteArray × Int)) : Prop := Own2 w base 37 v (es.map entP)
theorem OwnE.at {w : World} {base : Nat} {a : Option Addr} {n cap : Nat} {es : List (ByteArray × Int)} (h : OwnE w base (.slice a n cap) es) : EntAt w a es := fun hp => by
  rcases h.2 with ⟨_, hn⟩ | ⟨g, cap', cur, h', _⟩
  · simp at hn; simp [hn] at hp
  · simp only [Value.slice.injEq] at h'
    obtain ⟨rfl, rfl, rfl⟩ := h'
    refine ⟨g, 0, rfl, fun i hi => ?_⟩
    obtain ⟨h0, h1⟩ := Own2.cells h i (by simpa using hi)
    rw [Nat.zero_add]
    simp [entP] at h0 h1
    exact ⟨h0, h1⟩
theorem wpList_make_entries {ops : Array Oper} {rest : List Oper} {o : Oper} {act : Act} {Q : Exit → Act → World → Prop} (w : World) (hgd : o.guard = none) (s x : Operand)
    (ho : o.op = Op.makeSlice 24 s x) (n : Nat) (hs : act.eval s = .int .i64 (n : Int)) (hx : act.eval x = .int .i64 (n : Int)) (hlen : n ≤ 1048576)
    (h : ∀ w', OwnE w' w.heap.size (.slice (some ⟨w.heap.size, 0, none⟩) n n) (List.replicate n (ByteArray.empty, 0)) → Below w.heap.size w w' → wpList Tryz.prog ops Q rest (act.put o.dst (.slice (some ⟨w.heap.size, 0, none⟩) n n)) w') : wpList Tryz.prog ops Q (o :: rest) act w := by
  obtain ⟨i0, hi, hz0, hz1, hz2⟩ := info_parts Tryz.infoEntry
  refine wpList_make_full w hgd s x 24 ho w.heap.size 37 i0 (.agg #[.string ByteArray.empty, .int .i64 0]) 2 Tryz.underlying24 hi hz0 hz1 .i64 .i64 _ _ n hs hx rfl rfl (by rw [hz2]; omega) (by unfold maxLen; omega) (Nat.le_refl _) ?_
  intro w1 hown hgrow
  refine h w1 ?_ ((Below.refl _ _).grown hgrow (Nat.le_refl _) (fun k h => by cases h))
  unfold OwnE Own2
  rw [List.length_map, List.length_replicate, List.map_replicate]
  have e : (madeCells (Value.agg #[.string ByteArray.empty, .int .i64 0]).cells (n * 2)).toList = two (List.replicate n (entP (ByteArray.empty, 0))) := two_made _ _ _
  rw [e] at hown; exact hown
end Go.Proofs.YtpccongphchagaaGreatDoor
namespace Go.Proofs.YtpccongphchagaaGreatDoor
open Go.RowKit
theorem OwnB.set_low {w : World} {base : Nat} {v : Value} {l : List Nat} (h : OwnB w base v l) {p : Addr} (hp : p.block < base) (u : Value) : OwnB (w.setCell p u) base v l := by
  refine ⟨h.1, ?_⟩
  rcases h.2 with hn | ⟨g, cap, cur, hv, hbase, hg, rest⟩
  · exact .inl hn
  · exact .inr ⟨g, cap, cur, hv, hbase, (heap_setCell_other w p g u (by omega)).trans hg, rest⟩
theorem Laid.set {w : World} {g : Nat} {cs : Array Value} {t : TypeId} (h : Laid w g cs t) (j : Nat) (u : Value) : Laid (w.setCell ⟨g, j, none⟩ u) g (cs.setIfInBounds j u) t := heap_setCell_same w g j _ _ u h
theorem Laid.other {w : World} {g : Nat} {cs : Array Value} {t : TypeId} (h : Laid w g cs t) {p : Addr} (hp : g ≠ p.block) (u : Value) : Laid (w.setCell p u) g cs t := (heap_setCell_other w p g u hp).trans h
end Go.Proofs.YtpccongphchagaaGreatDoor
