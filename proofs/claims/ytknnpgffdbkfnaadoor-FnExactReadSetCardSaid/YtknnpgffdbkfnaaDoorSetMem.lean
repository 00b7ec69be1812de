import Derived.Test.YtknnpgffdbkfnaaDoorPairOwn
import Derived.Test.YtknnpgffdbkfnaaDoorSetMath
namespace Go.Proofs.YtknnpgffdbkfnaaDoor
open Go.RowKit
def prI (p : Nat × Nat) : Int × Int := ((p.1 : Int), (p.2 : Int))
/-- A block that holds a set. -/
def BlkQ (w : World) (g : Nat) (x y : Value) : Prop := w.heap[g]? = some (.cells #[x, y] 39 (0, 0))
theorem BlkQ.c0 {w : World} {g : Nat} {x y : Value} (h : BlkQ w g x y) : w.cell? ⟨g, 0, none⟩ = some x := by rw [cell_of_row w g 0 _ _ (0, 0) h]; rfl
theorem BlkQ.c1 {w : World} {g : Nat} {x y : Value} (h : BlkQ w g x y) : w.cell? ⟨g, 1, none⟩ = some y := by rw [cell_of_row w g 1 _ _ (0, 0) h]; rfl
theorem BlkQ.fz {w : World} {g : Nat} {x y : Value} (h : BlkQ w g x y) (j : Nat) : w.frozen? ⟨g, j, none⟩ = false := frozen_of_row w g j _ _ h
theorem BlkQ.set0 {w : World} {g : Nat} {x y : Value} (h : BlkQ w g x y) (u : Value) : BlkQ (w.setCell ⟨g, 0, none⟩ u) g u y := heap_setCell_same w g 0 _ _ u h
theorem BlkQ.set1 {w : World} {g : Nat} {x y : Value} (h : BlkQ w g x y) (u : Value) : BlkQ (w.setCell ⟨g, 1, none⟩ u) g x u := heap_setCell_same w g 1 _ _ u h
theorem BlkQ.other {w : World} {g g' j : Nat} {x y : Value} (h : BlkQ w g x y) (hne : g ≠ g') (u : Value) : BlkQ (w.setCell ⟨g', j, none⟩ u) g x y := by
  unfold BlkQ
  rw [Below.heap_setCell w ⟨g', j, none⟩ u g hne]
  exact h
theorem BlkQ.lt {w : World} {g : Nat} {x y : Value} (h : BlkQ w g x y) : g < w.heap.size := lt_of_block h
theorem BlkQ.below {w w' : World} {B g : Nat} {x y : Value} (h : BlkQ w g x y) (hb : Below B w w') (hg : g < B) : BlkQ w' g x y := (hb.block g hg).trans h
theorem BlkQ.alloc {w : World} {g : Nat} {x y : Value} (h : BlkQ w g x y) (o : Obj) : BlkQ (w.alloc o) g x y := h.below ((Below.refl w.heap.size w).alloc (Nat.le_refl _) o) h.lt
theorem BlkQ.grown {w w' : World} {g : Nat} {x y : Value} {row : Option Nat} (h : BlkQ w g x y) (hg : w.grownBy w' row) (hne : some g ≠ row) : BlkQ w' g x y := (hg.block g h.lt hne).trans h
theorem blkQ_new (w : World) (x y : Value) : BlkQ (w.alloc (.cells #[x, y] 39)) w.heap.size x y := heap_alloc_new w _
theorem ret_set {fn : Func} {tmps : Array Value} {p : Tmp} (B : Nat) (W : World) (x y : Value) (hf : fn.results = #[.cell p 39]) (hp : tmps.getD p undef = .pointer (some ⟨B, 0, none⟩)) (hb : BlkQ W B x y) :
    (results fn tmps).run Tryd.prog W = .ok (.agg #[x, y]) W :=
  results_cell_row (P := Tryd.prog) hf _ _ B _ _ _ _ hp hb Tryd.underlying39 rfl (by kernel_rfl)
theorem OwnP.below {B base : Nat} {w w' : World} {v : Value} {l : List (Int × Int)} (h : OwnP w base v l) (hb : Below B w w') (hB : w.heap.size ≤ B) : OwnP w' base v l := Own2.below h hb hB
theorem OwnP.mono {w : World} {lo lo' : Nat} {v : Value} {l : List (Int × Int)} (h : OwnP w lo v l) (hl : lo' ≤ lo) : OwnP w lo' v l := by
  refine ⟨h.1, ?_⟩
  rcases h.2 with hn | ⟨g, cap, cur, hv, hg0, rest⟩
  · exact .inl hn
  · exact .inr ⟨g, cap, cur, hv, Nat.le_trans hl hg0, rest⟩
theorem OwnP.slice {w : World} {base : Nat} {v : Value} {l : List (Int × Int)} (h : OwnP w base v l) : ∃ a cap, v = .slice a l.length cap := by
  obtain ⟨a, cap, e⟩ := Own2.slice h
  rw [List.length_map] at e
  exact ⟨a, cap, e⟩
theorem OwnP.nil (w : World) (base : Nat) : OwnP w base (.slice none 0 0) [] := ⟨rfl, .inl ⟨rfl, rfl⟩⟩
theorem OwnP.other {w : World} {lo g j : Nat} {v : Value} {l : List (Int × Int)} (h : OwnP w lo v l) (hg : g < lo) (u : Value) : OwnP (w.setCell ⟨g, j, none⟩ u) lo v l := by
  refine ⟨h.1, ?_⟩
  rcases h.2 with hn | ⟨b, cap, cur, hv, hb0, hb, rest⟩
  · exact .inl hn
  · exact .inr ⟨b, cap, cur, hv, hb0, by rw [Below.heap_setCell w ⟨g, j, none⟩ u b (by simp only; omega)]; exact hb, rest⟩
theorem wpList_append_pair {ops : Array Oper} {rest : List Oper} {o : Oper} {act : Act} {Q : Exit → Act → World → Prop} (w : World) (hgd : o.guard = none) (s x : Operand)
    (ho : o.op = .call { callee := .builtin .append, args := #[s, x], argTypes := #[37, 37] })
    (base : Nat) (v : Value) (es : List (Int × Int)) (e : Int × Int) (g1 c : Nat) (hs : act.eval s = v) (hx : act.eval x = .slice (some ⟨g1, 0, none⟩) 1 c) (hown : OwnP w base v es)
    (h0 : w.cell? ⟨g1, 0, none⟩ = some (.int .u32 e.1)) (h1 : w.cell? ⟨g1, 1, none⟩ = some (.int .u32 e.2)) (hlen : es.length ≤ 1048576) (hbase : base ≤ w.heap.size)
    (h : ∀ v' w', OwnP w' base v' (es ++ [e]) → w.grownBy w' v.ownBlock → wpList Tryd.prog ops Q rest (act.put o.dst v') w') : wpList Tryd.prog ops Q (o :: rest) act w := by
  obtain ⟨i0, hi, hz0, hz1, hz2⟩ := info_parts Tryd.infoPair
  have hown' : w.ownsRow base 86 2 v es.length (two (es.map prP)) := by have := hown; unfold OwnP Own2 at this; rw [List.length_map] at this; exact this
  refine wpList_append_own w hgd s x 37 ho base 86 i0 (.agg #[.int .u32 0, .int .u32 0]) 2 8 Tryd.underlying37 hi hz0 hz1 hz2 rfl (by decide) v es.length (two (es.map prP)) hs hown' ⟨g1, 0, none⟩ 1 c [.int .u32 e.1, .int .u32 e.2] hx (by simp) ?_ ?_ (by unfold maxLen; omega) (by omega) hbase ?_
  · intro j u hj
    rw [addr_add]
    match j with
    | 0 => simp only [List.getElem?_cons_zero, Option.some.injEq] at hj; rw [← hj]; exact h0
    | 1 => simp only [List.getElem?_cons_succ, List.getElem?_cons_zero, Option.some.injEq] at hj; rw [← hj]; exact h1
    | j + 2 => simp at hj
  · intro u hu
    simp only [List.mem_cons, List.not_mem_nil, or_false] at hu
    rcases hu with rfl | rfl <;> rfl
  · intro v' w' hown2 hg _
    refine h v' w' ?_ hg
    unfold OwnP Own2
    rw [List.length_map, List.length_append, List.map_append]
    simp only [two, List.flatMap_append]
    exact hown2
/-- What ReadSet answers. -/
def SetPost (t : List UInt8) (w : World) (e : Ending) (w' : World) : Prop := ∃ v, e = .returned (.agg #[.bool (setOf t).isSome, v]) ∧ OwnP w' w.heap.size v (((setOf t).getD []).map prI) ∧ Below w.heap.size w w'
theorem set_no {t : List UInt8} {w W : World} (h : setOf t = none) (hb : Below w.heap.size w W) : SetPost t w (.returned (.agg #[.bool false, .slice none 0 0])) W := ⟨_, by rw [h]; rfl, by rw [h]; exact OwnP.nil _ _, hb⟩
theorem set_yes {t : List UInt8} {w W : World} {v : Value} {l : List (Nat × Nat)} (h : setOf t = some l) (ho : OwnP W w.heap.size v (l.map prI)) (hb : Below w.heap.size w W) : SetPost t w (.returned (.agg #[.bool true, v])) W := ⟨v, by rw [h]; rfl, by rw [h]; exact ho, hb⟩
end Go.Proofs.YtknnpgffdbkfnaaDoor
