import Derived.Test.YtledlicandlekaaDoorCutSp4
namespace Go.Proofs.YtledlicandlekaaDoor
open Go.RowKit
abbrev U4 := Value × Value × Bool × Bool
def cellsU (vs : List U4) : List Value := vs.flatMap fun x => [x.1, x.2.1, .bool x.2.2.1, .bool x.2.2.2]
theorem cellsU_cons (x : U4) (vs : List U4) : cellsU (x :: vs) = x.1 :: x.2.1 :: .bool x.2.2.1 :: .bool x.2.2.2 :: cellsU vs := rfl
theorem cellsU_append (a b : List U4) : cellsU (a ++ b) = cellsU a ++ cellsU b := by unfold cellsU; rw [List.flatMap_append]
theorem cellsU_length (vs : List U4) : (cellsU vs).length = vs.length * 4 := by
  induction vs with
  | nil => rfl
  | cons x r ih => rw [cellsU_cons]; simp [ih]; omega
theorem cellsU_get (vs : List U4) (i : Nat) (h : i < vs.length) : (cellsU vs)[i * 4]? = some vs[i].1 ∧ (cellsU vs)[i * 4 + 1]? = some vs[i].2.1 ∧ (cellsU vs)[i * 4 + 2]? = some (.bool vs[i].2.2.1) ∧ (cellsU vs)[i * 4 + 3]? = some (.bool vs[i].2.2.2) := by
  induction vs generalizing i with
  | nil => simp at h
  | cons x r ih =>
    cases i with
    | zero => exact ⟨rfl, rfl, rfl, rfl⟩
    | succ i =>
      obtain ⟨h0, h1, h2, h3⟩ := ih i (by simpa using h)
      refine ⟨?_, ?_, ?_, ?_⟩
      · rw [cellsU_cons, show (i + 1) * 4 = i * 4 + 1 + 1 + 1 + 1 from by omega]; simpa using h0
      · rw [cellsU_cons, show (i + 1) * 4 + 1 = i * 4 + 1 + 1 + 1 + 1 + 1 from by omega]; simpa using h1
      · rw [cellsU_cons, show (i + 1) * 4 + 2 = i * 4 + 2 + 1 + 1 + 1 + 1 from by omega]; simpa using h2
      · rw [cellsU_cons, show (i + 1) * 4 + 3 = i * 4 + 3 + 1 + 1 + 1 + 1 from by omega]; simpa using h3
def slicesU (vs : List U4) : List Value := vs.flatMap fun x => [x.1, x.2.1]
def apartV (a b : Value) : Prop := a.ownBlock = none ∨ a.ownBlock ≠ b.ownBlock
/-- A list of units of the call's own: vs its elements, us what they hold; each line and each body its own block. -/
structure OwnU (w : World) (lo : Nat) (v : Value) (vs : List U4) (us : List UnitM) : Prop where
  len : vs.length = us.length
  row : w.ownsRow lo 44 4 v us.length (cellsU vs)
  body : ∀ i (h : i < us.length), ∃ x, vs[i]? = some x ∧ OwnB w lo x.1 us[i].1 ∧ OwnB w lo x.2.1 us[i].2.1 ∧ x.2.2 = us[i].2.2
  apart : (slicesU vs).Pairwise apartV
theorem OwnU.nil (w : World) (lo : Nat) : OwnU w lo (.slice none 0 0) [] [] := ⟨rfl, World.ownsRow_nil w lo _ 4, fun i h => by simp at h, List.Pairwise.nil⟩
theorem OwnU.slice {w : World} {lo : Nat} {v : Value} {vs : List U4} {us : List UnitM} (h : OwnU w lo v vs us) : ∃ a cap, v = .slice a us.length cap := by
  rcases h.row.2 with ⟨rfl, hn⟩ | ⟨g, cap, cur, rfl, _⟩
  · exact ⟨none, 0, by rw [hn]⟩
  · exact ⟨_, cap, rfl⟩
theorem ownsK {w w' : World} {base e k n : Nat} {v : Value} {xs : List Value} (h : w.ownsRow base e k v n xs) (hk : ∀ g, base ≤ g → g < w.heap.size → w'.heap[g]? = w.heap[g]?) : w'.ownsRow base e k v n xs := by
  refine ⟨h.1, ?_⟩
  rcases h.2 with hn | ⟨g, cap, cur, rfl, hbase, hg, rest⟩
  · exact .inl hn
  · exact .inr ⟨g, cap, cur, rfl, hbase, (hk g hbase (lt_of_block hg)).trans hg, rest⟩
theorem ownsA {w : World} {b1 b2 e1 e2 k1 k2 n1 n2 : Nat} {v x : Value} {xs ys : List Value} (h1 : w.ownsRow b1 e1 k1 v n1 xs) (h2 : w.ownsRow b2 e2 k2 x n2 ys) (he : e1 ≠ e2) : v.ownBlock = none ∨ v.ownBlock ≠ x.ownBlock := by
  rcases h1.2 with ⟨rfl, _⟩ | ⟨g, cap, cur, rfl, _, hg, _⟩
  · exact .inl rfl
  · refine .inr fun e => ?_
    rcases h2.2 with ⟨rfl, _⟩ | ⟨g', cap', cur', rfl, _, hg', _⟩
    · simp [Value.ownBlock] at e
    · simp only [Value.ownBlock, Option.some.injEq] at e
      subst e
      rw [hg] at hg'
      simp only [Option.some.injEq, Obj.cells.injEq] at hg'
      exact he hg'.2.1
theorem OwnU.below {B lo : Nat} {w w' : World} {v : Value} {vs : List U4} {us : List UnitM} (h : OwnU w lo v vs us) (hb : Below B w w') (hB : w.heap.size ≤ B) : OwnU w' lo v vs us := by
  have hk : ∀ g, lo ≤ g → g < w.heap.size → w'.heap[g]? = w.heap[g]? := fun g _ hg => hb.block g (by omega)
  refine ⟨h.len, ownsK h.row hk, fun i hi => ?_, h.apart⟩
  obtain ⟨x, hx, o1, o2, e⟩ := h.body i hi
  exact ⟨x, hx, ownsK o1 hk, ownsK o2 hk, e⟩
theorem OwnU.mono {w : World} {lo lo' : Nat} {v : Value} {vs : List U4} {us : List UnitM} (h : OwnU w lo v vs us) (hl : lo' ≤ lo) : OwnU w lo' v vs us := by
  refine ⟨h.len, ⟨h.row.1, ?_⟩, fun i hi => ?_, h.apart⟩
  · rcases h.row.2 with hn | ⟨g, cap, cur, rfl, hbase, rest⟩
    · exact .inl hn
    · exact .inr ⟨g, cap, cur, rfl, Nat.le_trans hl hbase, rest⟩
  · obtain ⟨x, hx, o1, o2, e⟩ := h.body i hi
    exact ⟨x, hx, o1.mono hl, o2.mono hl, e⟩
theorem OwnU.other {w : World} {lo g j : Nat} {v : Value} {vs : List U4} {us : List UnitM} (h : OwnU w lo v vs us) (hg : g < lo) (u : Value) : OwnU (w.setCell ⟨g, j, none⟩ u) lo v vs us := by
  have hk : ∀ g', lo ≤ g' → g' < w.heap.size → (w.setCell ⟨g, j, none⟩ u).heap[g']? = w.heap[g']? := fun g' h' _ => heap_setCell_other w ⟨g, j, none⟩ g' u (by simp; omega)
  refine ⟨h.len, ownsK h.row hk, fun i hi => ?_, h.apart⟩
  obtain ⟨x, hx, o1, o2, e⟩ := h.body i hi
  exact ⟨x, hx, ownsK o1 hk, ownsK o2 hk, e⟩
theorem mem_slicesU {vs : List U4} {y : Value} (h : y ∈ slicesU vs) : ∃ x ∈ vs, y = x.1 ∨ y = x.2.1 := by
  unfold slicesU at h
  obtain ⟨x, hx, hy⟩ := List.mem_flatMap.1 h
  exact ⟨x, hx, by simpa using hy⟩
theorem OwnU.lt {w : World} {lo : Nat} {v : Value} {vs : List U4} {us : List UnitM} (h : OwnU w lo v vs us) : ∀ y ∈ slicesU vs, ∀ g, y.ownBlock = some g → g < w.heap.size := by
  intro y hy g hg
  obtain ⟨x, hx, e⟩ := mem_slicesU hy
  obtain ⟨i, hi, rfl⟩ := List.getElem_of_mem hx
  obtain ⟨z, hz, o1, o2, _⟩ := h.body i (by have := h.len; omega)
  rw [List.getElem?_eq_getElem hi] at hz
  simp only [Option.some.injEq] at hz
  subst hz
  rcases e with rfl | rfl
  · exact (World.ownsRow.lt o1 g hg).2
  · exact (World.ownsRow.lt o2 g hg).2
/-- append of one unit whose line and body are newer than all. -/
theorem OwnU.push {w0 w w' : World} {lo : Nat} {v v' lv bv : Value} {vs : List U4} {us : List UnitM} {u : UnitM} (h0 : OwnU w0 lo v vs us) (h : OwnU w lo v vs us) (o1 : OwnB w (w0.heap.size) lv u.1) (o2 : OwnB w (w0.heap.size) bv u.2.1) (hlo : lo ≤ w0.heap.size) (ha : apartV lv bv)
    (ho : w'.ownsRow lo 44 4 v' (us.length + 1) (cellsU vs ++ [lv, bv, .bool u.2.2.1, .bool u.2.2.2])) (hg : w.grownBy w' v.ownBlock) : OwnU w' lo v' (vs ++ [(lv, bv, u.2.2)]) (us ++ [u]) := by
  have k : ∀ {x : Value} {l : List Nat}, OwnB w lo x l → OwnB w' lo x l := fun hx => World.ownsRow.kept hx hg (ownsA hx h.row (by decide))
  refine ⟨by rw [List.length_append, List.length_append, h.len]; rfl, by rw [List.length_append, cellsU_append]; exact ho, fun i hi => ?_, ?_⟩
  · by_cases e : i < us.length
    · obtain ⟨y, hy, p1, p2, e3⟩ := h.body i e
      refine ⟨y, by rw [List.getElem?_append_left (by have := h.len; omega)]; exact hy, ?_⟩
      rw [List.getElem_append_left e]
      exact ⟨k p1, k p2, e3⟩
    · have e2 : i = us.length := by simp at hi; omega
      subst e2
      refine ⟨(lv, bv, u.2.2), by rw [List.getElem?_append_right (by have := h.len; omega)]; simp [h.len], ?_⟩
      simp only [List.getElem_concat_length]
      exact ⟨k (o1.mono hlo), k (o2.mono hlo), trivial⟩
  · unfold slicesU
    rw [List.flatMap_append, List.pairwise_append]
    refine ⟨h.apart, by simp; exact ha, fun y hy z hz => ?_⟩
    cases hb : y.ownBlock with
    | none => exact .inl hb
    | some g =>
      refine .inr fun e => ?_
      have h1 := h0.lt y hy g hb
      rw [hb] at e
      simp only [List.flatMap_cons, List.flatMap_nil, List.append_nil, List.mem_cons, List.not_mem_nil, or_false] at hz
      rcases hz with rfl | rfl
      · have h2 := (World.ownsRow.lt o1 g e.symm).1; omega
      · have h2 := (World.ownsRow.lt o2 g e.symm).1; omega
theorem Tryd.infoUnit : (Tryd.prog.info? 44).map (fun i => (i.zero, i.size, i.bytes)) = some (some (.agg #[.slice none 0 0, .slice none 0 0, .bool false, .bool false]), 4, 56) := by kernel_rfl
theorem wpList_append_unit {ops : Array Oper} {rest : List Oper} {o : Oper} {act : Act} {Q : Exit → Act → World → Prop} (w0 w : World) (hgd : o.guard = none) (s x : Operand)
    (ho : o.op = .call { callee := .builtin .append, args := #[s, x], argTypes := #[23, 23] })
    (lo : Nat) (v lv bv : Value) (vs : List U4) (us : List UnitM) (u : UnitM) (g1 c : Nat) (hs : act.eval s = v) (hx : act.eval x = .slice (some ⟨g1, 0, none⟩) 1 c) (h0 : OwnU w0 lo v vs us) (hown : OwnU w lo v vs us)
    (o1 : OwnB w (w0.heap.size) lv u.1) (o2 : OwnB w (w0.heap.size) bv u.2.1) (hlo : lo ≤ w0.heap.size) (hsz : w0.heap.size ≤ w.heap.size) (ha : apartV lv bv)
    (c0 : w.cell? ⟨g1, 0, none⟩ = some lv) (c1 : w.cell? ⟨g1, 1, none⟩ = some bv) (c2 : w.cell? ⟨g1, 2, none⟩ = some (.bool u.2.2.1)) (c3 : w.cell? ⟨g1, 3, none⟩ = some (.bool u.2.2.2)) (hlen : us.length ≤ 1048576)
    (h : ∀ v' w', OwnU w' lo v' (vs ++ [(lv, bv, u.2.2)]) (us ++ [u]) → w.grownBy w' v.ownBlock → wpList Tryd.prog ops Q rest (act.put o.dst v') w') : wpList Tryd.prog ops Q (o :: rest) act w := by
  obtain ⟨i0, hi, hz0, hz1, hz2⟩ := info_parts Tryd.infoUnit
  refine wpList_append_own w hgd s x 23 ho lo 44 i0 (.agg #[.slice none 0 0, .slice none 0 0, .bool false, .bool false]) 4 56 Tryd.underlying23 hi hz0 hz1 hz2 rfl (by decide) v us.length (cellsU vs) hs hown.row ⟨g1, 0, none⟩ 1 c [lv, bv, .bool u.2.2.1, .bool u.2.2.2] hx (by simp) ?_ ?_ (by unfold maxLen; omega) (by omega) (by omega) ?_
  · intro j y hj
    rw [addr_add]
    match j with
    | 0 => simp only [List.getElem?_cons_zero, Option.some.injEq] at hj; rw [← hj]; exact c0
    | 1 => simp only [List.getElem?_cons_succ, List.getElem?_cons_zero, Option.some.injEq] at hj; rw [← hj]; exact c1
    | 2 => simp only [List.getElem?_cons_succ, List.getElem?_cons_zero, Option.some.injEq] at hj; rw [← hj]; exact c2
    | 3 => simp only [List.getElem?_cons_succ, List.getElem?_cons_zero, Option.some.injEq] at hj; rw [← hj]; exact c3
    | j + 4 => simp at hj
  · intro y hy
    simp only [List.mem_cons, List.not_mem_nil, or_false] at hy
    rcases hy with rfl | rfl | rfl | rfl
    · obtain ⟨a, c', rfl⟩ := o1.slice; rfl
    · obtain ⟨a, c', rfl⟩ := o2.slice; rfl
    · rfl
    · rfl
  · intro v' w' hown' hg _
    exact h v' w' (h0.push hown o1 o2 hlo ha hown' hg) hg
end Go.Proofs.YtledlicandlekaaDoor
