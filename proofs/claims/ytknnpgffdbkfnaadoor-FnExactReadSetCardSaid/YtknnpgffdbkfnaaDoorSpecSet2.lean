import Derived.Test.YtknnpgffdbkfnaaDoorSetMem
import Derived.Test.YtknnpgffdbkfnaaDoorSplitSp
import Derived.Test.YtknnpgffdbkfnaaDoorSpecSet1
namespace Go.Proofs.YtknnpgffdbkfnaaDoor
open Go.RowKit
/-- How the loop of spec.ReadSet stands. -/
structure SSL (w wr : World) (lo2 g3 : Nat) (ws : List ByteArray) (v : Value) (ps : List (Int × Int)) : Prop where
  b0 : BlkQ wr w.heap.size (.bool false) (.slice none 0 0)
  b1 : BlkQ wr (w.heap.size + 1) (.bool true) v
  wd : ∀ j (h : j < ws.length), wr.cell? ⟨g3, j, none⟩ = some (.string ws[j])
  g1 : w.heap.size + 2 ≤ g3
  g2 : g3 < lo2
  ow : OwnP wr lo2 v ps
  bel : Below w.heap.size w wr
  sz : lo2 ≤ wr.heap.size
theorem SSL.below {w wr W : World} {lo2 g3 : Nat} {ws : List ByteArray} {v : Value} {ps : List (Int × Int)} (h : SSL w wr lo2 g3 ws v ps) (hb : Below wr.heap.size wr W) : SSL w W lo2 g3 ws v ps :=
  ⟨h.b0.below hb h.b0.lt, h.b1.below hb h.b1.lt, fun j hj => by rw [hb.cell (p := ⟨g3, j, none⟩) (lt_of_cell0 (h.wd j hj))]; exact h.wd j hj, h.g1, h.g2, h.ow.below hb (Nat.le_refl _), h.bel.trans (hb.mono h.bel.size), Nat.le_trans h.sz hb.size⟩
theorem SSL.push {w wr W : World} {lo2 g3 : Nat} {ws : List ByteArray} {v v' : Value} {ps : List (Int × Int)} {e : Int × Int} (h : SSL w wr lo2 g3 ws v ps) (ho : OwnP W lo2 v' (ps ++ [e])) (hg : wr.grownBy W v.ownBlock) :
    SSL w (W.setCell ⟨w.heap.size + 1, 1, none⟩ v') lo2 g3 ws v' (ps ++ [e]) := by
  have h1 := h.g1
  have h2 := h.g2
  have hlo : ∀ b, v.ownBlock = some b → lo2 ≤ b := fun b hb => (World.ownsRow.lt h.ow b hb).1
  have ne : ∀ b, b < lo2 → some b ≠ v.ownBlock := fun b hb e => by have := hlo b e.symm; omega
  refine ⟨(h.b0.grown hg (ne _ (by omega))).other (by omega) _, (h.b1.grown hg (ne _ (by omega))).set1 _, fun j hj => ?_, h1, h2, ho.other (by omega) _, ?_, ?_⟩
  · rw [World.cell?_setCell_other _ _ _ _ (by intro e; simp only [Addr.mk.injEq] at e; omega)]
    have hc := h.wd j hj
    have hb : W.heap[g3]? = wr.heap[g3]? := hg.block g3 (lt_of_cell0 hc) (ne _ h2)
    rw [← hc]
    unfold World.cell?
    simp only [hb]
  · exact (h.bel.grown hg (by have := h.bel.size; omega) (fun k e => by have := hlo k e; omega)).setCell (p := ⟨w.heap.size + 1, 1, none⟩) (by simp) _
  · have := hg.size; have := h.sz; simp; omega
theorem mapP_next {parts : List (List UInt8)} {k : Nat} (h : k < parts.length) : (parts.take (k + 1)).map (fun x => prI (prV x)) = (parts.take k).map (fun x => prI (prV x)) ++ [prI (prV parts[k])] := by
  rw [List.take_succ_eq_append_getElem h, List.map_append]; rfl
theorem allP_next {parts : List (List UInt8)} {k : Nat} (h : k < parts.length) (ha : ∀ x ∈ parts.take k, isPr x = true) (hk : isPr parts[k] = true) : ∀ x ∈ parts.take (k + 1), isPr x = true := by
  rw [List.take_succ_eq_append_getElem h]
  intro x hx
  rcases List.mem_append.1 hx with hx | hx
  · exact ha x hx
  · rw [List.mem_singleton] at hx; rw [hx]; exact hk
/-- What the ends of a part bring. -/
theorem prOf_ends {t : List UInt8} {es : List (List UInt8)} (he : es = splitOf 58 t) (h0 : 0 < es.length) : prOf t = if es.length ≤ 2 then both (plOf es[0]) (plOf (es[es.length - 1]'(by omega))) else none := by
  unfold prOf
  rw [← he]
  match es, h0 with
  | [a], _ => rfl
  | [a, b], _ => rfl
  | a :: b :: c :: r, _ => simp
end Go.Proofs.YtknnpgffdbkfnaaDoor
