import Derived.Test.YtokcdpamcbpaiabLists
namespace Go.Proofs.Ytokcdpamcbpaiab
open Go.RowKit
/-- append of one row onto a list of rows. -/
theorem OwnBV.push {w w' : World} {lo : Nat} {v v' x : Value} {vs : List Value} {ls : List (List Nat)} {l : List Nat} (h : OwnBV w lo v vs ls) (hx : OwnB w lo x l) (hne : ∀ y ∈ vs, y.ownBlock = none ∨ y.ownBlock ≠ x.ownBlock)
    (ho : w'.ownsRow lo 22 1 v' (ls.length + 1) (vs ++ [x])) (hg : w.grownBy w' v.ownBlock) : OwnBV w' lo v' (vs ++ [x]) (ls ++ [l]) := by
  obtain ⟨h1, h2, h3⟩ := h
  have hl : vs.length = ls.length := by have := h1.1; omega
  refine ⟨by rw [List.length_append]; exact ho, fun i hi => ?_, ?_⟩
  · by_cases e : i < ls.length
    · obtain ⟨y, hy, hoy⟩ := h2 i e
      refine ⟨y, by rw [List.getElem?_append_left (by omega)]; exact hy, ?_⟩
      rw [List.getElem_append_left e]
      exact World.ownsRow.kept hoy hg (inner_ne_outer hoy h1 (by decide))
    · have e2 : i = ls.length := by simp at hi; omega
      subst e2
      refine ⟨x, by rw [List.getElem?_append_right (by omega)]; simp [hl], ?_⟩
      simp only [List.getElem_concat_length]
      exact World.ownsRow.kept hx hg (inner_ne_outer hx h1 (by decide))
  · rw [List.pairwise_append]
    refine ⟨h3, by simp, fun y hy z hz => ?_⟩
    obtain rfl : z = x := by simpa using hz
    exact hne y hy
theorem wpList_append_row {ops : Array Oper} {rest : List Oper} {o : Oper} {act : Act} {Q : Exit → Act → World → Prop} (w : World) (hgd : o.guard = none) (s x : Operand)
    (ho : o.op = .call { callee := .builtin .append, args := #[s, x], argTypes := #[27, 27] })
    (lo : Nat) (v : Value) (vs : List Value) (ls : List (List Nat)) (xv : Value) (l : List Nat) (g1 c : Nat) (hs : act.eval s = v) (hx : act.eval x = .slice (some ⟨g1, 0, none⟩) 1 c) (hown : OwnBV w lo v vs ls) (hcell : w.cell? ⟨g1, 0, none⟩ = some xv) (hox : OwnB w lo xv l)
    (hne : ∀ y ∈ vs, y.ownBlock = none ∨ y.ownBlock ≠ xv.ownBlock) (hlen : ls.length ≤ 1048576) (hbase : lo ≤ w.heap.size)
    (h : ∀ v' w', OwnBV w' lo v' (vs ++ [xv]) (ls ++ [l]) → w.grownBy w' v.ownBlock → wpList Try.prog ops Q rest (act.put o.dst v') w') : wpList Try.prog ops Q (o :: rest) act w := by
  obtain ⟨i0, hi, hz0, hz1, hz2⟩ := info_parts Try.info22
  refine wpList_append_own w hgd s x 27 ho lo 22 i0 (.slice none 0 0) 1 24 Try.underlying27 hi hz0 hz1 hz2 rfl (by decide) v ls.length vs hs hown.1 ⟨g1, 0, none⟩ 1 c [xv] hx (by simp) ?_ ?_ (by unfold maxLen; omega) (by omega) hbase ?_
  · intro j u hj
    cases j with
    | zero =>
      simp only [List.getElem?_cons_zero, Option.some.injEq] at hj
      rw [addr_add, ← hj]
      exact hcell
    | succ j => simp at hj
  · intro u hu
    obtain rfl : u = xv := by simpa using hu
    obtain ⟨a, c', rfl⟩ := hox.slice
    rfl
  · intro v' w' hown' hg _
    exact h v' w' (hown.push hox hne hown' hg) hg
theorem step_append_row {ops : Array Oper} {o : Oper} {act : Act} {K : Act → World → Prop} {Q : Exit → Act → World → Prop} {E : Prop} (w : World) (hgd : o.guard = none) (s x : Operand)
    (ho : o.op = .call { callee := .builtin .append, args := #[s, x], argTypes := #[27, 27] })
    (lo : Nat) (v : Value) (vs : List Value) (ls : List (List Nat)) (xv : Value) (l : List Nat) (g1 c : Nat) (hs : act.eval s = v) (hx : act.eval x = .slice (some ⟨g1, 0, none⟩) 1 c) (hown : OwnBV w lo v vs ls) (hcell : w.cell? ⟨g1, 0, none⟩ = some xv) (hox : OwnB w lo xv l)
    (hne : ∀ y ∈ vs, y.ownBlock = none ∨ y.ownBlock ≠ xv.ownBlock) (hlen : ls.length ≤ 1048576) (hbase : lo ≤ w.heap.size)
    (h : ∀ v' w', OwnBV w' lo v' (vs ++ [xv]) (ls ++ [l]) → w.grownBy w' v.ownBlock → K (act.put o.dst v') w') : if Region.wanted o (yielded ops act.tmps) = true then Oper.wp Try.prog o act w K Q else E := by
  have hw : Region.wanted o (yielded ops act.tmps) = true := by simp [Region.wanted, hgd]
  rw [if_pos hw]
  obtain ⟨i0, hi, hz0, hz1, hz2⟩ := info_parts Try.info22
  refine wp_append_own w s x 27 ho lo 22 i0 (.slice none 0 0) 1 24 Try.underlying27 hi hz0 hz1 hz2 rfl (by decide) v ls.length vs hs hown.1 ⟨g1, 0, none⟩ 1 c [xv] hx (by simp) ?_ ?_ (by unfold maxLen; omega) (by omega) hbase ?_
  · intro j u hj
    cases j with
    | zero =>
      simp only [List.getElem?_cons_zero, Option.some.injEq] at hj
      rw [addr_add, ← hj]
      exact hcell
    | succ j => simp at hj
  · intro u hu
    obtain rfl : u = xv := by simpa using hu
    obtain ⟨a, c', rfl⟩ := hox.slice
    rfl
  · intro v' w' hown' hg _
    exact h v' w' (hown.push hox hne hown' hg) hg
/-- A block of two cells. -/
def Blk2 (w : World) (g : Nat) (x y : Value) : Prop := w.heap[g]? = some (.cells #[x, y] 38 (0, 0))
theorem Blk2.c0 {w : World} {g : Nat} {x y : Value} (h : Blk2 w g x y) : w.cell? ⟨g, 0, none⟩ = some x := by rw [cell_of_row w g 0 _ _ (0, 0) h]; rfl
theorem Blk2.c1 {w : World} {g : Nat} {x y : Value} (h : Blk2 w g x y) : w.cell? ⟨g, 1, none⟩ = some y := by rw [cell_of_row w g 1 _ _ (0, 0) h]; rfl
theorem Blk2.fz {w : World} {g : Nat} {x y : Value} (h : Blk2 w g x y) (j : Nat) : w.frozen? ⟨g, j, none⟩ = false := frozen_of_row w g j _ _ h
theorem Blk2.set0 {w : World} {g : Nat} {x y : Value} (h : Blk2 w g x y) (u : Value) : Blk2 (w.setCell ⟨g, 0, none⟩ u) g u y := by
  have := heap_setCell_same w g 0 _ _ u h
  exact this
theorem Blk2.set1 {w : World} {g : Nat} {x y : Value} (h : Blk2 w g x y) (u : Value) : Blk2 (w.setCell ⟨g, 1, none⟩ u) g x u := by
  have := heap_setCell_same w g 1 _ _ u h
  exact this
theorem Blk2.other {w : World} {g g' j : Nat} {x y : Value} (h : Blk2 w g x y) (hne : g ≠ g') (u : Value) : Blk2 (w.setCell ⟨g', j, none⟩ u) g x y := by
  unfold Blk2
  rw [Below.heap_setCell w ⟨g', j, none⟩ u g hne]
  exact h
theorem Blk2.below {w w' : World} {B g : Nat} {x y : Value} (h : Blk2 w g x y) (hb : Below B w w') (hg : g < B) : Blk2 w' g x y := (hb.block g hg).trans h
theorem Blk2.lt {w : World} {g : Nat} {x y : Value} (h : Blk2 w g x y) : g < w.heap.size := lt_of_block h
theorem Blk2.grown {w w' : World} {g : Nat} {x y : Value} {row : Option Nat} (h : Blk2 w g x y) (hg : w.grownBy w' row) (hne : some g ≠ row) : Blk2 w' g x y := (hg.block g h.lt hne).trans h
theorem OwnBV.other {w : World} {lo g j : Nat} {v : Value} {vs : List Value} {ls : List (List Nat)} (h : OwnBV w lo v vs ls) (hg : g < lo) (u : Value) : OwnBV (w.setCell ⟨g, j, none⟩ u) lo v vs ls := by
  obtain ⟨h1, h2, h3⟩ := h
  refine ⟨ownsRow_setCell_below h1 hg u, fun i hi => ?_, h3⟩
  obtain ⟨x, hx, ho⟩ := h2 i hi
  exact ⟨x, hx, ownsRow_setCell_below ho hg u⟩
theorem OwnBV.nil (w : World) (lo : Nat) : OwnBV w lo (.slice none 0 0) [] [] := ⟨World.ownsRow_nil w lo _ 1, fun i h => by simp at h, List.Pairwise.nil⟩
theorem OwnBV.slice {w : World} {base : Nat} {v : Value} {vs : List Value} {ls : List (List Nat)} (h : OwnBV w base v vs ls) : ∃ a cap, v = .slice a ls.length cap := OwnBB.slice ⟨vs, h⟩
theorem OwnBV.ne_new {w : World} {lo : Nat} {v : Value} {vs : List Value} {ls : List (List Nat)} {w2 : World} {x : Value} {l : List Nat} (h : OwnBV w lo v vs ls) (hx : OwnB w2 w.heap.size x l) : ∀ y ∈ vs, y.ownBlock = none ∨ y.ownBlock ≠ x.ownBlock := by
  intro y hy
  cases hb : y.ownBlock with
  | none => exact .inl rfl
  | some g =>
    refine .inr fun e => ?_
    have h1 := h.lt y hy g hb
    have h2 := (World.ownsRow.lt hx g e.symm).1
    omega
end Go.Proofs.Ytokcdpamcbpaiab
