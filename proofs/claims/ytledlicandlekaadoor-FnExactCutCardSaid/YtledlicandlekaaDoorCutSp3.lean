import Derived.Test.YtledlicandlekaaDoorCutSp2
import Derived.Test.YtledlicandlekaaDoorCopyB
import Derived.Test.YtledlicandlekaaDoorBlkW
import Derived.Laws.ResultCell
import Derived.Deep.RegionWith
namespace Go.Proofs.YtledlicandlekaaDoor
open Go.RowKit
def unZ : Array Value := #[.slice none 0 0, .slice none 0 0, .bool false, .bool false]
/-- A block that holds a unit. -/
abbrev BlkU (w : World) (g : Nat) (cs : Array Value) : Prop := Blk w g cs 44
theorem ret_unit {fn : Func} {tmps : Array Value} {p u : Tmp} (B : Nat) (W : World) (cs : Array Value) (x : Value) (hz : cs.size = 4) (hf : fn.results = #[.cell p 44, .tmp u]) (hp : tmps.getD p undef = .pointer (some ⟨B, 0, none⟩)) (hb : BlkU W B cs) (hx : tmps.getD u undef = x) :
    (results fn tmps).run Tryd.prog W = .ok (.tuple #[.agg cs, x]) W := by
  rw [results_cell_tmp hf, hp, hx]
  simp [asAddr, run_loadVar_row (P := Tryd.prog) W B 44 44 cs (0, 0) _ hb Tryd.underlying44 rfl (by rw [hz]; kernel_rfl)]
theorem set4 {W : World} {g : Nat} {c0 c1 c2 c3 : Value} (h : BlkU W g #[c0, c1, c2, c3]) (u0 u1 u2 u3 : Value) : BlkU ((((W.setCell ⟨g, 0, none⟩ u0).setCell ⟨g, 1, none⟩ u1).setCell ⟨g, 2, none⟩ u2).setCell ⟨g, 3, none⟩ u3) g #[u0, u1, u2, u3] := (((h.set 0 u0).set 1 u1).set 2 u2).set 3 u3
theorem below4 {w W : World} {B g : Nat} (h : Below B w W) (hg : B ≤ g) (u0 u1 u2 u3 : Value) : Below B w ((((W.setCell ⟨g, 0, none⟩ u0).setCell ⟨g, 1, none⟩ u1).setCell ⟨g, 2, none⟩ u2).setCell ⟨g, 3, none⟩ u3) :=
  (((h.setCell (p := ⟨g, 0, none⟩) hg _).setCell (p := ⟨g, 1, none⟩) hg _).setCell (p := ⟨g, 2, none⟩) hg _).setCell (p := ⟨g, 3, none⟩) hg _
theorem ownB_low {w : World} {base : Nat} {v : Value} {l : List Nat} (h : OwnB w base v l) {p : Addr} (hp : p.block < base) (u : Value) : OwnB (w.setCell p u) base v l := by
  refine ⟨h.1, ?_⟩
  rcases h.2 with hn | ⟨g, cap, cur, hv, hbase, hg, rest⟩
  · exact .inl hn
  · exact .inr ⟨g, cap, cur, hv, hbase, (heap_setCell_other w p g u (by omega)).trans hg, rest⟩
theorem own4 {W : World} {B g : Nat} {v : Value} {l : List Nat} (h : OwnB W B v l) (hg : g < B) (u0 u1 u2 u3 : Value) : OwnB ((((W.setCell ⟨g, 0, none⟩ u0).setCell ⟨g, 1, none⟩ u1).setCell ⟨g, 2, none⟩ u2).setCell ⟨g, 3, none⟩ u3) B v l :=
  ownB_low (ownB_low (ownB_low (ownB_low h (p := ⟨g, 0, none⟩) hg _) (p := ⟨g, 1, none⟩) hg _) (p := ⟨g, 2, none⟩) hg _) (p := ⟨g, 3, none⟩) hg _
/-- What both readers of a unit hand back, but for the number or the word behind it. -/
def UnIs (w w' : World) (r : Option (UnitM × Nat)) (cs : Array Value) : Prop := match r with
  | none => cs = unZ
  | some (u, _) => ∃ lv bv, cs = #[lv, bv, .bool u.2.2.1, .bool u.2.2.2] ∧ OwnB w' (w.heap.size + 1) lv u.1 ∧ OwnB w' (w.heap.size + 1) bv u.2.1 ∧ (lv.ownBlock = none ∨ lv.ownBlock ≠ bv.ownBlock)
def OnePost (w : World) (r : Option (UnitM × Nat)) (e : Ending) (w' : World) : Prop := ∃ cs, e = .returned (.tuple #[.agg cs, .int .i64 (match r with | some (_, k) => (k : Int) | none => 0)]) ∧ UnIs w w' r cs ∧ Below w.heap.size w w'
theorem one_none {w W : World} {r : Option (UnitM × Nat)} (h : r = none) (hb : Below w.heap.size w W) : OnePost w r (.returned (.tuple #[.agg unZ, .int .i64 0])) W := by subst h; exact ⟨_, rfl, rfl, hb⟩
theorem one_bad {w W : World} {r : Option (UnitM × Nat)} {k : Nat} (h : r = some (badU, k)) (hb : Below w.heap.size w W) : OnePost w r (.returned (.tuple #[.agg #[.slice none 0 0, .slice none 0 0, .bool false, .bool true], .int .i64 (k : Int)])) W := by
  subst h
  exact ⟨_, rfl, ⟨_, _, rfl, OwnB.nil _ _, OwnB.nil _ _, .inl rfl⟩, hb⟩
end Go.Proofs.YtledlicandlekaaDoor
