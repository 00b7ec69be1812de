import Derived.Test.YtokcdpamcbpaiabLogMem
import Derived.Test.YtokcdpamcbpaiabUnframeMath
import Derived.Deep.LoopGhost
namespace Go.Proofs.Ytokcdpamcbpaiab
open Go.RowKit
theorem RowAt.drop {w : World} {b off : Nat} {d : List Nat} (h : RowAt w (some ⟨b, off, none⟩) d) (g : Nat) : RowAt w (some ⟨b, off + g, none⟩) (d.drop g) := fun hp => by
  simp at hp
  obtain ⟨b', off', e, hc⟩ := h (by omega)
  simp only [Option.some.injEq, Addr.mk.injEq, and_true] at e
  obtain ⟨rfl, rfl⟩ := e
  refine ⟨b, off + g, rfl, fun i hi => ?_⟩
  simp at hi
  have := hc (g + i) (by omega)
  rw [← Nat.add_assoc] at this
  rw [this]
  simp
theorem RowAt.take {w : World} {a : Option Addr} {d : List Nat} (h : RowAt w a d) (n : Nat) : RowAt w a (d.take n) := fun hp => by
  simp at hp
  obtain ⟨b, off, rfl, hc⟩ := h (by omega)
  refine ⟨b, off, rfl, fun i hi => ?_⟩
  simp at hi
  rw [hc i (by omega)]
  simp
theorem RowAt.at {w : World} {b off : Nat} {d : List Nat} (h : RowAt w (some ⟨b, off, none⟩) d) (i : Nat) (hi : i < d.length) : w.cell? ⟨b, off + i, none⟩ = some (.int .u8 ((d.getD i 0 : Nat) : Int)) := by
  obtain ⟨b', off', e, hc⟩ := h (by omega)
  simp only [Option.some.injEq, Addr.mk.injEq, and_true] at e
  obtain ⟨rfl, rfl⟩ := e
  rw [hc i hi]
  simp [hi]
theorem getD_lt {d : List Nat} (h : ∀ x ∈ d, x < 256) (i : Nat) : d.getD i 0 < 256 := by
  rcases Nat.lt_or_ge i d.length with h' | h'
  · simp [h']; exact h _ (List.getElem_mem h')
  · simp [List.getElem?_eq_none h']
/-- What an answer of type Log is: its records and its Good. -/
def LogOf (w : World) (lo : Nat) (v : Value) (L : List (List Nat) × Nat) : Prop := ∃ vr vs, v = .agg #[vr, .int .i64 (L.2 : Int)] ∧ OwnBV w lo vr vs L.1
theorem OwnBV.mono {w : World} {lo lo' : Nat} {v : Value} {vs : List Value} {ls : List (List Nat)} (h : OwnBV w lo v vs ls) (hl : lo' ≤ lo) : OwnBV w lo' v vs ls := by
  obtain ⟨h1, h2, h3⟩ := h
  refine ⟨?_, fun i hi => ?_, h3⟩
  · refine ⟨h1.1, ?_⟩
    rcases h1.2 with hn | ⟨g, cap, cur, rfl, hbase, rest⟩
    · exact .inl hn
    · exact .inr ⟨g, cap, cur, rfl, Nat.le_trans hl hbase, rest⟩
  · obtain ⟨x, hx, ho⟩ := h2 i hi
    exact ⟨x, hx, ho.mono hl⟩
/-- What stands ahead of the append and behind it. -/
theorem unf_arm {w w2 wr : World} {B e : Nat} {x y x1 y1 v u : Value} {vs : List Value} {rs : List (List Nat)} {r : List Nat} (hsz : B + 2 ≤ wr.heap.size) (hs2 : wr.heap.size ≤ w2.heap.size) (k0 : Blk2 w2 B x y) (k1 : Blk2 w2 (B + 1) x1 y1) (kv : OwnBV w2 (B + 2) v vs rs) (ho : OwnB w2 (B + 2) u r) (hn : Below B w w2) :
    OwnBV (w2.alloc (.cells #[u] e)) (B + 2) v vs rs ∧ (w2.alloc (.cells #[u] e)).cell? ⟨w2.heap.size, 0, none⟩ = some u ∧ OwnB (w2.alloc (.cells #[u] e)) (B + 2) u r ∧
      ∀ w3, (w2.alloc (.cells #[u] e)).grownBy w3 v.ownBlock → Blk2 w3 B x y ∧ Blk2 w3 (B + 1) x1 y1 ∧ Below B w w3 ∧ B + 2 ≤ w3.heap.size := by
  have ha : Below w2.heap.size w2 (w2.alloc (.cells #[u] e)) := (Below.refl _ _).alloc (Nat.le_refl _) _
  refine ⟨kv.below ha (Nat.le_refl _), ?_, World.ownsRow.alloc ho _, fun w3 hg => ?_⟩
  · rw [cell_of_row _ _ 0 _ _ (0, 0) (heap_alloc_new w2 _)]; rfl
  · have hv : ∀ k, v.ownBlock = some k → B + 2 ≤ k := fun k hk => (World.ownsRow.lt kv.1 k hk).1
    refine ⟨(k0.below ha k0.lt).grown hg (fun h => by have := hv _ h.symm; omega), (k1.below ha k1.lt).grown hg (fun h => by have := hv _ h.symm; omega), ?_, ?_⟩
    · exact (hn.alloc (by omega) _).grown hg (by simp; omega) (fun k h => by have := hv k h; omega)
    · have := hg.size
      simp at this
      omega
theorem unf_done {w w3 : World} {B : Nat} {x y v0 g0 v3 u : Value} {vs : List Value} {rs : List (List Nat)} (k0 : Blk2 w3 B x y) (k1 : Blk2 w3 (B + 1) v0 g0) (kv : OwnBV w3 (B + 2) v3 vs rs) (hn : Below B w w3) (hs : B + 2 ≤ w3.heap.size) :
    Blk2 ((w3.setCell ⟨B + 1, 0, none⟩ v3).setCell ⟨B + 1, 1, none⟩ u) B x y ∧ Blk2 ((w3.setCell ⟨B + 1, 0, none⟩ v3).setCell ⟨B + 1, 1, none⟩ u) (B + 1) v3 u ∧ OwnBV ((w3.setCell ⟨B + 1, 0, none⟩ v3).setCell ⟨B + 1, 1, none⟩ u) (B + 2) v3 vs rs ∧
      Below B w ((w3.setCell ⟨B + 1, 0, none⟩ v3).setCell ⟨B + 1, 1, none⟩ u) ∧ B + 2 ≤ ((w3.setCell ⟨B + 1, 0, none⟩ v3).setCell ⟨B + 1, 1, none⟩ u).heap.size :=
  ⟨(k0.other (by omega) _).other (by omega) _, (k1.set0 _).set1 _, (kv.other (by omega) _).other (by omega) _, (hn.setCell (by simp) _).setCell (by simp) _, by simpa using hs⟩
/-- The loop's memory: the answer's variable, the variable 'out', the records. -/
def Unf (w wr : World) (f : Nat) (d : List Nat) (rs : List (List Nat)) (g : Nat) (vr : Value) (vs : List Value) : Prop :=
  unfGo d f rs g = unfOf d ∧ d.length ≤ g + f ∧ g ≤ d.length ∧ rs.length ≤ g ∧ Blk2 wr w.heap.size (.slice none 0 0) (.int .i64 0) ∧ Blk2 wr (w.heap.size + 1) vr (.int .i64 (g : Int)) ∧ OwnBV wr (w.heap.size + 2) vr vs rs ∧ Below w.heap.size w wr ∧ w.heap.size + 2 ≤ wr.heap.size
end Go.Proofs.Ytokcdpamcbpaiab
