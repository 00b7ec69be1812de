import Derived.Test.YtledlicandlekabDiskTo5
namespace Go.Proofs.Ytledlicandlekab
open Go.RowKit
structure MDisk where
  nodes : List (List Nat × Int)
  names : List (ByteArray × Int)
  kept : List (ByteArray × Int)
  pend : List (Int × ByteArray × ByteArray × Int)
  quota : Int
/-- v is the disk D. -/
def DiskAt (w : World) (v : Value) (D : MDisk) : Prop := ∃ a1 c1 a2 c2 a3 c3 a4 c4, v = .agg #[.slice a1 D.nodes.length c1, .slice a2 D.names.length c2, .slice a3 D.kept.length c3, .slice a4 D.pend.length c4, .int .i64 D.quota] ∧ NodeAt w a1 D.nodes ∧ EntAt w a2 D.names ∧ EntAt w a3 D.kept ∧ OpAt w a4 D.pend
theorem DiskAt.below {w w' : World} {v : Value} {D : MDisk} (h : DiskAt w v D) (hb : Below w.heap.size w w') : DiskAt w' v D := by
  obtain ⟨a1, c1, a2, c2, a3, c3, a4, c4, e, h1, h2, h3, h4⟩ := h
  exact ⟨a1, c1, a2, c2, a3, c3, a4, c4, e, h1.below hb, h2.below hb, h3.below hb, h4.below hb⟩
/-- v is the disk D, of the call's own. -/
def OwnD (w : World) (base : Nat) (v : Value) (D : MDisk) : Prop := ∃ v1 v2 v3 v4, v = .agg #[v1, v2, v3, v4, .int .i64 D.quota] ∧ OwnN w base v1 D.nodes ∧ OwnE w base v2 D.names ∧ OwnE w base v3 D.kept ∧ OwnO w base v4 D.pend
theorem OwnN.slice {w : World} {base : Nat} {v : Value} {ns : List (List Nat × Int)} (h : OwnN w base v ns) : ∃ a cap, v = .slice a ns.length cap := by
  obtain ⟨vs, hl, h2, _⟩ := h
  rw [← hl]; exact h2.slice
theorem OwnE.slice {w : World} {base : Nat} {v : Value} {es : List (ByteArray × Int)} (h : OwnE w base v es) : ∃ a cap, v = .slice a es.length cap := by
  have := Own2.slice h
  simpa using this
theorem OwnO.slice {w : World} {base : Nat} {v : Value} {es : List (Int × ByteArray × ByteArray × Int)} (h : OwnO w base v es) : ∃ a cap, v = .slice a es.length cap := by
  have := Own4.slice h
  simpa using this
theorem OwnD.at {w : World} {base : Nat} {v : Value} {D : MDisk} (h : OwnD w base v D) : DiskAt w v D := by
  obtain ⟨v1, v2, v3, v4, rfl, h1, h2, h3, h4⟩ := h
  obtain ⟨a1, c1, rfl⟩ := h1.slice
  obtain ⟨a2, c2, rfl⟩ := h2.slice
  obtain ⟨a3, c3, rfl⟩ := h3.slice
  obtain ⟨a4, c4, rfl⟩ := h4.slice
  exact ⟨a1, c1, a2, c2, a3, c3, a4, c4, rfl, h1.at, h2.at, h3.at, h4.at⟩
theorem Own2.mono {w : World} {base base' e : Nat} {v : Value} {l : List (Value × Value)} (h : Own2 w base e v l) (hb : base' ≤ base) : Own2 w base' e v l := by
  refine ⟨h.1, ?_⟩
  rcases h.2 with hn | ⟨g, cap, cur, hv, hg0, rest⟩
  · exact .inl hn
  · exact .inr ⟨g, cap, cur, hv, Nat.le_trans hb hg0, rest⟩
theorem Own4.mono {w : World} {base base' e : Nat} {v : Value} {l : List V4} (h : Own4 w base e v l) (hb : base' ≤ base) : Own4 w base' e v l := by
  refine ⟨h.1, ?_⟩
  rcases h.2 with hn | ⟨g, cap, cur, hv, hg0, rest⟩
  · exact .inl hn
  · exact .inr ⟨g, cap, cur, hv, Nat.le_trans hb hg0, rest⟩
theorem Own2.set_low {w : World} {base e : Nat} {v : Value} {l : List (Value × Value)} (h : Own2 w base e v l) {p : Addr} (hp : p.block < base) (u : Value) : Own2 (w.setCell p u) base e v l := by
  refine ⟨h.1, ?_⟩
  rcases h.2 with hn | ⟨g, cap, cur, hv, hbase, hg, rest⟩
  · exact .inl hn
  · exact .inr ⟨g, cap, cur, hv, hbase, (heap_setCell_other w p g u (by omega)).trans hg, rest⟩
theorem Own4.set_low {w : World} {base e : Nat} {v : Value} {l : List V4} (h : Own4 w base e v l) {p : Addr} (hp : p.block < base) (u : Value) : Own4 (w.setCell p u) base e v l := by
  refine ⟨h.1, ?_⟩
  rcases h.2 with hn | ⟨g, cap, cur, hv, hbase, hg, rest⟩
  · exact .inl hn
  · exact .inr ⟨g, cap, cur, hv, hbase, (heap_setCell_other w p g u (by omega)).trans hg, rest⟩
theorem OwnN.mono {w : World} {base base' : Nat} {v : Value} {ns : List (List Nat × Int)} (h : OwnN w base v ns) (hb : base' ≤ base) : OwnN w base' v ns := by
  obtain ⟨vs, hl, h2, hi⟩ := h
  exact ⟨vs, hl, h2.mono hb, fun i h => by obtain ⟨x, hx, ho⟩ := hi i h; exact ⟨x, hx, ho.mono hb⟩⟩
theorem OwnN.set_low {w : World} {base : Nat} {v : Value} {ns : List (List Nat × Int)} (h : OwnN w base v ns) {p : Addr} (hp : p.block < base) (u : Value) : OwnN (w.setCell p u) base v ns := by
  obtain ⟨vs, hl, h2, hi⟩ := h
  exact ⟨vs, hl, h2.set_low hp u, fun i h => by obtain ⟨x, hx, ho⟩ := hi i h; exact ⟨x, hx, ho.set_low hp u⟩⟩
theorem OwnN.below {w w' : World} {base : Nat} {v : Value} {ns : List (List Nat × Int)} (h : OwnN w base v ns) (hb : Below w.heap.size w w') : OwnN w' base v ns := by
  obtain ⟨vs, hl, h2, hi⟩ := h
  exact ⟨vs, hl, h2.below hb (Nat.le_refl _), fun i h => by obtain ⟨x, hx, ho⟩ := hi i h; exact ⟨x, hx, ho.below hb (Nat.le_refl _)⟩⟩
theorem OwnE.mono {w : World} {base base' : Nat} {v : Value} {es : List (ByteArray × Int)} (h : OwnE w base v es) (hb : base' ≤ base) : OwnE w base' v es := Own2.mono h hb
theorem OwnE.set_low {w : World} {base : Nat} {v : Value} {es : List (ByteArray × Int)} (h : OwnE w base v es) {p : Addr} (hp : p.block < base) (u : Value) : OwnE (w.setCell p u) base v es := Own2.set_low h hp u
theorem OwnE.below {w w' : World} {base : Nat} {v : Value} {es : List (ByteArray × Int)} (h : OwnE w base v es) (hb : Below w.heap.size w w') : OwnE w' base v es := Own2.below h hb (Nat.le_refl _)
theorem OwnO.mono {w : World} {base base' : Nat} {v : Value} {es : List (Int × ByteArray × ByteArray × Int)} (h : OwnO w base v es) (hb : base' ≤ base) : OwnO w base' v es := Own4.mono h hb
theorem OwnO.set_low {w : World} {base : Nat} {v : Value} {es : List (Int × ByteArray × ByteArray × Int)} (h : OwnO w base v es) {p : Addr} (hp : p.block < base) (u : Value) : OwnO (w.setCell p u) base v es := Own4.set_low h hp u
theorem OwnO.below {w w' : World} {base : Nat} {v : Value} {es : List (Int × ByteArray × ByteArray × Int)} (h : OwnO w base v es) (hb : Below w.heap.size w w') : OwnO w' base v es := Own4.below h hb (Nat.le_refl _)
/-- The three blocks of toDisk: its argument, its answer, its 'out'. -/
def TD (w wj : World) (B : Nat) (A res cur : Array Value) : Prop := Laid wj B A 26 ∧ Laid wj (B + 1) res 36 ∧ Laid wj (B + 1 + 1) cur 36 ∧ Below B w wj ∧ B + 3 ≤ wj.heap.size
theorem TD.start (w : World) (A res cur : Array Value) : TD w (((w.alloc (.cells A 26)).alloc (.cells res 36)).alloc (.cells cur 36)) w.heap.size A res cur := by
  refine ⟨?_, ?_, ?_, (((Below.refl w.heap.size w).alloc (Nat.le_refl _) _).alloc (by simp) _).alloc (by simp; omega) _, by simp⟩
  · exact Laid.below (B := w.heap.size + 2) (Laid.below (B := w.heap.size + 1) (Laid.new w _ _) ((Below.refl _ _).alloc (by simp) _) (by omega)) ((Below.refl _ _).alloc (by simp) _) (by omega)
  · have h := Laid.new (w.alloc (.cells A 26)) res 36
    rw [show (w.alloc (.cells A 26)).heap.size = w.heap.size + 1 from by simp] at h
    exact Laid.below (B := w.heap.size + 2) h ((Below.refl _ _).alloc (by simp) _) (by omega)
  · have h := Laid.new ((w.alloc (.cells A 26)).alloc (.cells res 36)) cur 36
    rw [show ((w.alloc (.cells A 26)).alloc (.cells res 36)).heap.size = w.heap.size + 1 + 1 from by simp] at h
    exact h
theorem TD.below {w wj w' : World} {B : Nat} {A res cur : Array Value} (h : TD w wj B A res cur) (hb : Below wj.heap.size wj w') : TD w w' B A res cur := by
  obtain ⟨h0, h1, h2, hn, hs⟩ := h
  exact ⟨h0.below hb h0.lt, h1.below hb h1.lt, h2.below hb h2.lt, hn.trans (hb.mono (by omega)), Nat.le_trans hs hb.size⟩
theorem TD.setOut {w wj : World} {B : Nat} {A res cur : Array Value} (h : TD w wj B A res cur) (j : Nat) (u : Value) : TD w (wj.setCell ⟨B + 1 + 1, j, none⟩ u) B A res (cur.setIfInBounds j u) := by
  obtain ⟨h0, h1, h2, hn, hs⟩ := h
  exact ⟨h0.other (by simp; omega) u, h1.other (by simp) u, h2.set j u, hn.setCell (by simp; omega) u, by simpa using hs⟩
theorem TD.setRes {w wj : World} {B : Nat} {A res cur : Array Value} (h : TD w wj B A res cur) (j : Nat) (u : Value) : TD w (wj.setCell ⟨B + 1, j, none⟩ u) B A (res.setIfInBounds j u) cur := by
  obtain ⟨h0, h1, h2, hn, hs⟩ := h
  exact ⟨h0.other (by simp) u, h1.set j u, h2.other (by simp) u, hn.setCell (by simp) u, by simpa using hs⟩
end Go.Proofs.Ytledlicandlekab
