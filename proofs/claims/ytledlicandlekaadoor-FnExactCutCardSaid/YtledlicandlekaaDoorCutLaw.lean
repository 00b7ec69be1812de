import Derived.Test.YtledlicandlekaaDoorCutLw8
namespace Go.Proofs.YtledlicandlekaaDoor
open Go.RowKit
theorem below_more {w w1 w2 : World} (h : Below w.heap.size w w1) (k : Below w1.heap.size w1 w2) : Below w.heap.size w w2 := h.trans (k.mono h.size)
theorem drewn_below {w w1 : World} {n : Nat} (h : w1 = w.drewN n) : Below w.heap.size w w1 := by rw [h]; exact below_drewN (Below.refl _ _) n
theorem tx_of_row {w : World} {b : Nat} {d : List Nat} (h : RowAt w (some ⟨b, 0, none⟩) d) : Tx w b 0 d := fun i hi => by
  obtain ⟨b', off, e, hc⟩ := h (by omega)
  simp only [Option.some.injEq, Addr.mk.injEq, and_true] at e
  obtain ⟨rfl, rfl⟩ := e
  exact hc i hi
/-- An answer in a block of its own: the list, the rest, its box. -/
structure Ans (W : World) (g : Nat) (a p : Option Addr) (n m cap q : Nat) (us : List UnitM) (r : List Nat) : Prop where
  box : BlkN W g (.slice a n cap) (.slice p m q)
  un : UnAt W a us
  row : RowAt W p r
theorem Ans.below {W W' : World} {g : Nat} {a p : Option Addr} {n m cap q : Nat} {us : List UnitM} {r : List Nat} (h : Ans W g a p n m cap q us r) (hb : Below W.heap.size W W') : Ans W' g a p n m cap q us r :=
  ⟨h.box.below hb h.box.lt, h.un.below hb, h.row.below hb⟩
/-- An answer of the call's own. -/
structure AnsO (W : World) (lo g : Nat) (a p : Option Addr) (n m cap q : Nat) (vs : List U4) (us : List UnitM) (r : List Nat) : Prop where
  box : BlkN W g (.slice a n cap) (.slice p m q)
  ow : OwnU W lo (.slice a n cap) vs us
  rest : OwnB W lo (.slice p m q) r
  ap : ∀ y ∈ slicesU vs, apartV y (.slice p m q)
  sp : ∀ b, (Value.slice a n cap).ownBlock = some b → b < g
  sl : ∀ s ∈ slicesU vs, ∀ b, s.ownBlock = some b → b < g
  rs : ∀ b, (Value.slice p m q).ownBlock = some b → b < g
  lo_ : lo ≤ g
theorem AnsO.below {W W' : World} {lo g : Nat} {a p : Option Addr} {n m cap q : Nat} {vs : List U4} {us : List UnitM} {r : List Nat} (h : AnsO W lo g a p n m cap q vs us r) (hb : Below W.heap.size W W') : AnsO W' lo g a p n m cap q vs us r :=
  ⟨h.box.below hb h.box.lt, h.ow.below hb (Nat.le_refl _), h.rest.below hb (Nat.le_refl _), h.ap, h.sp, h.sl, h.rs, h.lo_⟩
theorem AnsO.ans {W : World} {lo g : Nat} {a p : Option Addr} {n m cap q : Nat} {vs : List U4} {us : List UnitM} {r : List Nat} (h : AnsO W lo g a p n m cap q vs us r) : Ans W g a p n m cap q us r :=
  ⟨h.box, h.ow.unAt, h.rest.row⟩
theorem AnsO.keep {W W' : World} {lo g : Nat} {a p : Option Addr} {n m cap q : Nat} {vs : List U4} {us : List UnitM} {r : List Nat} (h : AnsO W lo g a p n m cap q vs us r) (hk : ∀ b, lo ≤ b → b < W.heap.size → W'.heap[b]? = W.heap[b]?) : AnsO W' lo g a p n m cap q vs us r :=
  ⟨(hk g h.lo_ h.box.lt).trans h.box, h.ow.keep hk, ownsK h.rest hk, h.ap, h.sp, h.sl, h.rs, h.lo_⟩
theorem Ans.cells {W : World} {g : Nat} {a p : Option Addr} {n m cap q : Nat} {us : List UnitM} {r : List Nat} (h : Ans W g a p n m cap q us r) : W.cell? ⟨g, 0, none⟩ = some (.slice a n cap) ∧ W.cell? ⟨g, 1, none⟩ = some (.slice p m q) := ⟨h.box.cell 0, h.box.cell 1⟩
/-- What was handed back, put into its box. -/
theorem ans_new {w w' : World} {v rv : Value} {vs : List U4} {us : List UnitM} {r : List Nat} (ow : OwnU w' w.heap.size v vs us) (rest : OwnB w' w.heap.size rv r) (ap : ∀ y ∈ slicesU vs, apartV y rv) (hb : Below w.heap.size w w') :
    ∃ a cap p q, v = .slice a us.length cap ∧ rv = .slice p r.length q ∧ AnsO (w'.alloc (.cells #[.slice a us.length cap, .slice p r.length q] 25)) w.heap.size w'.heap.size a p us.length r.length cap q vs us r := by
  obtain ⟨a, cap, rfl⟩ := ow.slice
  obtain ⟨p, q, rfl⟩ := rest.slice
  have hal := (Below.refl w'.heap.size w').alloc (Nat.le_refl _) (.cells #[.slice a us.length cap, .slice p r.length q] 25)
  exact ⟨a, cap, p, q, rfl, rfl, blk_new w' _ _, ow.below hal (Nat.le_refl _), rest.below hal (Nat.le_refl _), ap, fun b e => (World.ownsRow.lt ow.row b e).2, ow.lt, fun b e => (World.ownsRow.lt rest b e).2, hb.size⟩
end Go.Proofs.YtledlicandlekaaDoor
