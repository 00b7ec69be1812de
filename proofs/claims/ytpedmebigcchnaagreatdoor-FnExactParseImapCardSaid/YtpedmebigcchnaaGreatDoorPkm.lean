import Derived.Test.YtpedmebigcchnaaGreatDoorPkl
import Derived.Test.YtpedmebigcchnaaGreatDoorPkh
import Derived.Test.YtpedmebigcchnaaGreatDoorPka
import Derived.Laws.ResultCell
namespace Go.Proofs.YtpedmebigcchnaaGreatDoor
open Go.RowKit
def prI (p : Nat × Nat) : Int × Int := ((p.1 : Int), (p.2 : Int))
/-- A block that holds a set. -/
def BlkQ (w : World) (g : Nat) (x y : Value) : Prop := w.heap[g]? = some (.cells #[x, y] 65 (0, 0))
theorem BlkQ.c0 {w : World} {g : Nat} {x y : Value} (h : BlkQ w g x y) : w.cell? ⟨g, 0, none⟩ = some x := by rw [cell_of_row w g 0 _ _ (0, 0) h]; rfl
theorem BlkQ.c1 {w : World} {g : Nat} {x y : Value} (h : BlkQ w g x y) : w.cell? ⟨g, 1, none⟩ = some y := by rw [cell_of_row w g 1 _ _ (0, 0) h]; rfl
theorem BlkQ.fz {w : World} {g : Nat} {x y : Value} (h : BlkQ w g x y) (j : Nat) : w.frozen? ⟨g, j, none⟩ = false := frozen_of_row w g j _ _ h
theorem BlkQ.set0 {w : World} {g : Nat} {x y : Value} (h : BlkQ w g x y) (u : Value) : BlkQ (w.setCell ⟨g, 0, none⟩ u) g u y := heap_setCell_same w g 0 _ _ u h
theorem BlkQ.set1 {w : World} {g : Nat} {x y : Value} (h : BlkQ w g x y) (u : Value) : BlkQ (w.setCell ⟨g, 1, none⟩ u) g x u := heap_setCell_same w g 1 _ _ u h
theorem BlkQ.other {w : World} {g g' j : Nat} {x y : Value} (h : BlkQ w g x y) (hne : g ≠ g') (u : Value) : BlkQ (w.setCell ⟨g', j, none⟩ u) g x y := by
  unfold BlkQ
  rw [Below.heap_setCell w ⟨g', j, none⟩ u g hne]
  exact h
theorem BlkQ.lt {w : World} {g : Nat} {x y : Value} (h : BlkQ w g x y) : g < w.heap.size := lt_of_block h
theorem BlkQ.below {w w' : World} {B g : Nat} {x y : Value} (h : BlkQ w g x y) (hb : Below B w w') (hg : g < B) : BlkQ w' g x y := (hb.block g hg).trans h
theorem BlkQ.alloc {w : World} {g : Nat} {x y : Value} (h : BlkQ w g x y) (o : Obj) : BlkQ (w.alloc o) g x y := h.below ((Below.refl w.heap.size w).alloc (Nat.le_refl _) o) h.lt
theorem BlkQ.grown {w w' : World} {g : Nat} {x y : Value} {row : Option Nat} (h : BlkQ w g x y) (hg : w.grownBy w' row) (hne : some g ≠ row) : BlkQ w' g x y := (hg.block g h.lt hne).trans h
theorem blkQ_new (w : World) (x y : Value) : BlkQ (w.alloc (.cells #[x, y] 65)) w.heap.size x y := heap_alloc_new w _
theorem ret_set {fn : Func} {tmps : Array Value} {p : Tmp} (B : Nat) (W : World) (x y : Value) (hf : fn.results = #[.cell p 65]) (hp : tmps.getD p undef = .pointer (some ⟨B, 0, none⟩)) (hb : BlkQ W B x y) :
    (results fn tmps).run Tryz.prog W = .ok (.agg #[x, y]) W :=
  results_cell_row (P := Tryz.prog) hf _ _ B _ _ _ _ hp hb Tryz.underlying65 rfl (by kernel_rfl)
theorem OwnP.below {B base : Nat} {w w' : World} {v : Value} {l : List (Int × Int)} (h : OwnP w base v l) (hb : Below B w w') (hB : w.heap.size ≤ B) : OwnP w' base v l := Own2.below h hb hB
theorem OwnP.mono {w : World} {lo lo' : Nat} {v : Value} {l : List (Int × Int)} (h : OwnP w lo v l) (hl : lo' ≤ lo) : OwnP w lo' v l := by
  refine ⟨h.1, ?_⟩
  rcases h.2 with hn | ⟨g, cap, cur, hv, hg0, rest⟩
  · exact .inl hn
  · exact .inr ⟨g, cap, cur, hv, Nat.le_trans hl hg0, rest⟩
theorem OwnP.slice {w : World} {base : Nat} {v : Value} {l : List (Int × Int)} (h : OwnP w base v l) : ∃ a cap, v = .slice a l.length cap := by
  obtain ⟨a, cap, e⟩ := Own2.slice h
  rw [List.length_map] at e
  exact ⟨a, cap, e⟩
theorem OwnP.nil (w : World) (base : Nat) : OwnP w base (.slice none 0 0) [] := ⟨rfl, .inl ⟨rfl, rfl⟩⟩
theorem OwnP.other {w : World} {lo g j : Nat} {v : Value} {l : List (Int × Int)} (h : OwnP w lo v l) (hg : g < lo) (u : Value) : OwnP (w.setCell ⟨g, j, none⟩ u) lo v l := by
  refine ⟨h.1, ?_⟩
  rcases h.2 with hn | ⟨b, cap, cur, hv, hb0, hb, rest⟩
  · exact .inl hn
  · exact .inr ⟨b, cap, cur, hv, hb0, by rw [Below.heap_setCell w ⟨g, j, none⟩ u b (by simp only; omega)]; exact hb, rest⟩
theorem wpList_append_pair {ops : Array Oper} {rest : List Oper} {o : Oper} {act : Act} {Q : Exit → Act → World → Prop} (w : World) (hgd : o.guard = none) (s x : Operand)
    (ho : o.op = .call { callee := .builtin .append, args := #[s, x], argTypes := #[27, 27] })
    (base : Nat) (v : Value) (es : List (Int × Int)) (e : Int × Int) (g1 c : Nat) (hs : act.eval s = v) (hx : act.eval x = .slice (some ⟨g1, 0, none⟩) 1 c) (hown : OwnP w base v es)
    (h0 : w.cell? ⟨g1, 0, none⟩ = some (.int .u32 e.1)) (h1 : w.cell? ⟨g1, 1, none⟩ = some (.int .u32 e.2)) (hlen : es.length ≤ 1048576) (hbase : base ≤ w.heap.size)
    (h : ∀ v' w', OwnP w' base v' (es ++ [e]) → w.grownBy w' v.ownBlock → wpList Tryz.prog ops Q rest (act.put o.dst v') w') : wpList Tryz.prog ops Q (o :: rest) act w := by
  obtain ⟨i0, hi, hz0, hz1, hz2⟩ := info_parts Tryz.infoPair
  have hown' : w.ownsRow base 79 2 v es.length (two (es.map prP)) := by have := hown; unfold OwnP Own2 at this; rw [List.length_map] at this; exact this
  refine wpList_append_own w hgd s x 27 ho base 79 i0 (.agg #[.int .u32 0, .int .u32 0]) 2 8 Tryz.underlying27 hi hz0 hz1 hz2 rfl (by decide) v es.length (two (es.map prP)) hs hown' ⟨g1, 0, none⟩ 1 c [.int .u32 e.1, .int .u32 e.2] hx (by simp) ?_ ?_ (by unfold maxLen; omega) (by omega) hbase ?_
  · intro j u hj
    rw [addr_add]
    match j with
    | 0 => simp only [List.getElem?_cons_zero, Option.some.injEq] at hj; rw [← hj]; exact h0
    | 1 => simp only [List.getElem?_cons_succ, List.getElem?_cons_zero, Option.some.injEq] at hj; rw [← hj]; exact h1
    | j + 2 => simp at hj
  · intro u hu
    simp only [List.mem_cons, List.not_mem_nil, or_false] at hu
    rcases hu with rfl | rfl <;> rfl
  · intro v' w' hown2 hg _
    refine h v' w' ?_ hg
    unfold OwnP Own2
    rw [List.length_map, List.length_append, List.map_append]
    simp only [two, List.flatMap_append]
    exact hown2
/-- What ReadSet answers. -/
def SetPost (t : List UInt8) (w : World) (e : Ending) (w' : World) : Prop := ∃ v, e = .returned (.agg #[.bool (setOf t).isSome, v]) ∧ OwnP w' w.heap.size v (((setOf t).getD []).map prI) ∧ Below w.heap.size w w'
theorem set_no {t : List UInt8} {w W : World} (h : setOf t = none) (hb : Below w.heap.size w W) : SetPost t w (.returned (.agg #[.bool false, .slice none 0 0])) W := ⟨_, by rw [h]; rfl, by rw [h]; exact OwnP.nil _ _, hb⟩
theorem set_yes {t : List UInt8} {w W : World} {v : Value} {l : List (Nat × Nat)} (h : setOf t = some l) (ho : OwnP W w.heap.size v (l.map prI)) (hb : Below w.heap.size w W) : SetPost t w (.returned (.agg #[.bool true, v])) W := ⟨v, by rw [h]; rfl, by rw [h]; exact ho, hb⟩
end Go.Proofs.YtpedmebigcchnaaGreatDoor
namespace Go.Proofs.YtpedmebigcchnaaGreatDoor
open Go.RowKit
/-- A command of IMAP. -/
def cmI (K : Int) (tag : ByteArray) (uid : Bool) (st : Value) (it md fl : Int) (bd : Value) : Array Value := #[.int .i64 K, .string tag, .int .u32 0, .bool uid, st, .int .i64 it, .int .i64 md, .int .u32 fl, bd]
abbrev CmI (w : World) (g : Nat) (K : Int) (tag : ByteArray) (uid : Bool) (st : Value) (it md fl : Int) (bd : Value) : Prop := Blk w g (cmI K tag uid st it md fl bd) 29
theorem ret_cmdI {fn : Func} {tmps : Array Value} {p : Tmp} (B : Nat) (W : World) (cs : Array Value) (hz : cs.size = 9) (hf : fn.results = #[.cell p 29]) (hp : tmps.getD p undef = .pointer (some ⟨B, 0, none⟩)) (hb : Blk W B cs 29) :
    (results fn tmps).run Tryz.prog W = .ok (.agg cs) W :=
  results_cell_row (P := Tryz.prog) hf _ _ B _ _ _ _ hp hb Tryz.underlying29 rfl (by rw [hz]; kernel_rfl)
/-- Nine cells stored. -/
def put9 (W : World) (g : Nat) (u0 u1 u2 u3 u4 u5 u6 u7 u8 : Value) : World := ((((((((W.setCell ⟨g, 0, none⟩ u0).setCell ⟨g, 1, none⟩ u1).setCell ⟨g, 2, none⟩ u2).setCell ⟨g, 3, none⟩ u3).setCell ⟨g, 4, none⟩ u4).setCell ⟨g, 5, none⟩ u5).setCell ⟨g, 6, none⟩ u6).setCell ⟨g, 7, none⟩ u7).setCell ⟨g, 8, none⟩ u8
theorem put9_blk {W : World} {g : Nat} {K : Int} {tag : ByteArray} {uid : Bool} {st : Value} {it md fl : Int} {bd : Value} (h : CmI W g K tag uid st it md fl bd) (K' : Int) (tag' : ByteArray) (uid' : Bool) (st' : Value) (it' md' fl' : Int) (bd' : Value) :
    CmI (put9 W g (.int .i64 K') (.string tag') (.int .u32 0) (.bool uid') st' (.int .i64 it') (.int .i64 md') (.int .u32 fl') bd') g K' tag' uid' st' it' md' fl' bd' := by
  have h9 : Blk (put9 W g (.int .i64 K') (.string tag') (.int .u32 0) (.bool uid') st' (.int .i64 it') (.int .i64 md') (.int .u32 fl') bd') g (((((((((cmI K tag uid st it md fl bd).setIfInBounds 0 (.int .i64 K')).setIfInBounds 1 (.string tag')).setIfInBounds 2 (.int .u32 0)).setIfInBounds 3 (.bool uid')).setIfInBounds 4 st').setIfInBounds 5 (.int .i64 it')).setIfInBounds 6 (.int .i64 md')).setIfInBounds 7 (.int .u32 fl') |>.setIfInBounds 8 bd') 29 := by
    unfold put9
    exact ((((((((h.set 0 _).set 1 _).set 2 _).set 3 _).set 4 _).set 5 _).set 6 _).set 7 _).set 8 _
  have e : (((((((((cmI K tag uid st it md fl bd).setIfInBounds 0 (.int .i64 K')).setIfInBounds 1 (.string tag')).setIfInBounds 2 (.int .u32 0)).setIfInBounds 3 (.bool uid')).setIfInBounds 4 st').setIfInBounds 5 (.int .i64 it')).setIfInBounds 6 (.int .i64 md')).setIfInBounds 7 (.int .u32 fl') |>.setIfInBounds 8 bd') = cmI K' tag' uid' st' it' md' fl' bd' := by simp [cmI]
  rw [e] at h9
  exact h9
theorem put9_below {w W : World} {B g : Nat} (h : Below B w W) (hg : B ≤ g) (u0 u1 u2 u3 u4 u5 u6 u7 u8 : Value) : Below B w (put9 W g u0 u1 u2 u3 u4 u5 u6 u7 u8) :=
  ((((((((h.setCell (p := ⟨g, 0, none⟩) hg _).setCell (p := ⟨g, 1, none⟩) hg _).setCell (p := ⟨g, 2, none⟩) hg _).setCell (p := ⟨g, 3, none⟩) hg _).setCell (p := ⟨g, 4, none⟩) hg _).setCell (p := ⟨g, 5, none⟩) hg _).setCell (p := ⟨g, 6, none⟩) hg _).setCell (p := ⟨g, 7, none⟩) hg _).setCell (p := ⟨g, 8, none⟩) hg _
theorem set_out {B : Nat} {W : World} {g j : Nat} (u : Value) (hne : B ≤ g) : Below B W (W.setCell ⟨g, j, none⟩ u) := (Below.refl B W).setCell (p := ⟨g, j, none⟩) hne u
theorem cmI_cells {W : World} {g : Nat} {K : Int} {tag : ByteArray} {uid : Bool} {st : Value} {it md fl : Int} {bd : Value} (h : CmI W g K tag uid st it md fl bd) : W.cell? ⟨g, 0, none⟩ = some (.int .i64 K) ∧ W.cell? ⟨g, 1, none⟩ = some (.string tag) ∧ W.cell? ⟨g, 2, none⟩ = some (.int .u32 0) ∧ W.cell? ⟨g, 3, none⟩ = some (.bool uid) ∧ W.cell? ⟨g, 4, none⟩ = some st ∧ W.cell? ⟨g, 5, none⟩ = some (.int .i64 it) ∧ W.cell? ⟨g, 6, none⟩ = some (.int .i64 md) ∧ W.cell? ⟨g, 7, none⟩ = some (.int .u32 fl) ∧ W.cell? ⟨g, 8, none⟩ = some bd :=
  ⟨h.cell 0, h.cell 1, h.cell 2, h.cell 3, h.cell 4, h.cell 5, h.cell 6, h.cell 7, h.cell 8⟩
theorem CmI.kind {w : World} {g : Nat} {K : Int} {tag : ByteArray} {uid : Bool} {st : Value} {it md fl : Int} {bd : Value} (h : CmI w g K tag uid st it md fl bd) (k : Int) : CmI (w.setCell ⟨g, 0, none⟩ (.int .i64 k)) g k tag uid st it md fl bd := h.set 0 _
theorem CmI.ud {w : World} {g : Nat} {K : Int} {tag : ByteArray} {uid : Bool} {st : Value} {it md fl : Int} {bd : Value} (h : CmI w g K tag uid st it md fl bd) (k : Bool) : CmI (w.setCell ⟨g, 3, none⟩ (.bool k)) g K tag k st it md fl bd := h.set 3 _
theorem CmI.st {w : World} {g : Nat} {K : Int} {tag : ByteArray} {uid : Bool} {st : Value} {it md fl : Int} {bd : Value} (h : CmI w g K tag uid st it md fl bd) (k : Value) : CmI (w.setCell ⟨g, 4, none⟩ k) g K tag uid k it md fl bd := h.set 4 _
theorem CmI.it {w : World} {g : Nat} {K : Int} {tag : ByteArray} {uid : Bool} {st : Value} {it md fl : Int} {bd : Value} (h : CmI w g K tag uid st it md fl bd) (k : Int) : CmI (w.setCell ⟨g, 5, none⟩ (.int .i64 k)) g K tag uid st k md fl bd := h.set 5 _
theorem CmI.md {w : World} {g : Nat} {K : Int} {tag : ByteArray} {uid : Bool} {st : Value} {it md fl : Int} {bd : Value} (h : CmI w g K tag uid st it md fl bd) (k : Int) : CmI (w.setCell ⟨g, 6, none⟩ (.int .i64 k)) g K tag uid st it k fl bd := h.set 6 _
theorem CmI.fl {w : World} {g : Nat} {K : Int} {tag : ByteArray} {uid : Bool} {st : Value} {it md fl : Int} {bd : Value} (h : CmI w g K tag uid st it md fl bd) (k : Int) : CmI (w.setCell ⟨g, 7, none⟩ (.int .u32 k)) g K tag uid st it md k bd := h.set 7 _
theorem CmI.bd {w : World} {g : Nat} {K : Int} {tag : ByteArray} {uid : Bool} {st : Value} {it md fl : Int} {bd : Value} (h : CmI w g K tag uid st it md fl bd) (k : Value) : CmI (w.setCell ⟨g, 8, none⟩ k) g K tag uid st it md fl k := h.set 8 _
theorem CmI.tg {w : World} {g : Nat} {K : Int} {tag : ByteArray} {uid : Bool} {st : Value} {it md fl : Int} {bd : Value} (h : CmI w g K tag uid st it md fl bd) (k : ByteArray) : CmI (w.setCell ⟨g, 1, none⟩ (.string k)) g K k uid st it md fl bd := h.set 1 _
abbrev nilS : Value := .slice none 0 0
/-- What a call answers: a command with this tag. -/
def CmPost (w : World) (tag : ByteArray) (m : MF) (e : Ending) (w' : World) : Prop := ∃ st bd, e = .returned (.agg (cmI m.kind tag m.uid st (m.items : Int) (m.mode : Int) (m.flags : Int) bd)) ∧ OwnP w' w.heap.size st (m.set.map prI) ∧ OwnB w' w.heap.size bd m.body ∧ (st = .slice none 0 0 ∨ bd = .slice none 0 0) ∧ Below w.heap.size w w'
theorem cm_no {w W : World} {tag : ByteArray} {m : MF} (h : m = noF) (hb : Below w.heap.size w W) : CmPost w tag m (.returned (.agg (cmI 0 tag false (.slice none 0 0) 0 0 0 (.slice none 0 0)))) W := by
  subst h
  exact ⟨_, _, rfl, OwnP.nil _ _, OwnB.nil _ _, .inl rfl, hb⟩
/-- The disk of two boxes: the first holds what came in, the second is the answer's. -/
theorem box2 (w : World) (A B : Array Value) (t u : TypeId) : Blk ((w.alloc (.cells A t)).alloc (.cells B u)) w.heap.size A t ∧ Blk ((w.alloc (.cells A t)).alloc (.cells B u)) (w.heap.size + 1) B u ∧ Below w.heap.size w ((w.alloc (.cells A t)).alloc (.cells B u)) ∧ ((w.alloc (.cells A t)).alloc (.cells B u)).heap.size = w.heap.size + 2 := by
  refine ⟨(blk_new w A t).below (B := w.heap.size + 1) ((Below.refl _ _).alloc (by simp) _) (by omega), ?_, ((Below.refl _ _).alloc (Nat.le_refl _) _).alloc (by simp) _, by simp⟩
  have h := blk_new (w.alloc (.cells A t)) B u
  rw [World.size_alloc] at h
  exact h
end Go.Proofs.YtpedmebigcchnaaGreatDoor
namespace Go.Proofs.YtpedmebigcchnaaGreatDoor
open Go.RowKit
/-- What marking writes into a row of pairs. -/
def marksP (k n : Nat) : List (Int × Int) := (List.range n).map fun i => (((k + 2 * i : Nat) : Int), ((k + 2 * i + 1 : Nat) : Int))
theorem marksP_length (k n : Nat) : (marksP k n).length = n := by simp [marksP]
theorem marksP_at (k n i : Nat) (h : i < (marksP k n).length) : (marksP k n)[i] = (((k + 2 * i : Nat) : Int), ((k + 2 * i + 1 : Nat) : Int)) := by simp [marksP]
theorem marksP_succ (k n : Nat) : marksP k (n + 1) = marksP k n ++ [(((k + 2 * n : Nat) : Int), ((k + 2 * n + 1 : Nat) : Int))] := by simp [marksP, List.range_succ]
def markedP (k : Nat) (l : List (Int × Int)) (i : Nat) : List (Int × Int) := marksP k i ++ l.drop i
theorem markedP_zero (k : Nat) (l : List (Int × Int)) : markedP k l 0 = l := by simp [markedP, marksP]
theorem markedP_len (k : Nat) (l : List (Int × Int)) : markedP k l l.length = marksP k l.length := by simp [markedP]
theorem markedP_length (k : Nat) (l : List (Int × Int)) (i : Nat) (h : i ≤ l.length) : (markedP k l i).length = l.length := by simp [markedP, marksP_length]; omega
theorem markedP_set (k : Nat) (l : List (Int × Int)) (i : Nat) (h : i < l.length) : (markedP k l i).set i (((k + 2 * i : Nat) : Int), ((k + 2 * i + 1 : Nat) : Int)) = markedP k l (i + 1) := by
  unfold markedP
  rw [List.set_append_right _ _ (by simp [marksP_length])]
  have e : i - (marksP k i).length = 0 := by simp [marksP_length]
  rw [e, List.drop_eq_getElem_cons h, List.set_cons_zero, marksP_succ]
  simp
theorem OwnP.at0 {w : World} {base : Nat} {a : Option Addr} {n cap : Nat} {es : List (Int × Int)} (h : OwnP w base (.slice a n cap) es) (hp : 0 < es.length) : ∃ g, a = some ⟨g, 0, none⟩ ∧ base ≤ g ∧ g < w.heap.size := by
  rcases h.2 with ⟨_, hn⟩ | ⟨g, cap', cur, h', hb, hg, _⟩
  · simp at hn; simp [hn] at hp
  · simp only [Value.slice.injEq] at h'
    exact ⟨g, h'.1, hb, lt_of_block hg⟩
theorem grown_set1 (w : World) (p j : Nat) (u : Value) : w.grownBy (w.setCell ⟨p, j, none⟩ u) (some p) :=
  ⟨rfl, rfl, rfl, by simp, fun k _ hk => heap_setCell_other w ⟨p, j, none⟩ k u (fun e => hk (by simp [e]))⟩
set_option maxHeartbeats 1000000 in
theorem markPairS_any (base : Nat) (a : Option Addr) (cap k : Nat) (l : List (Int × Int)) (w : World) (hk : k + 2 * l.length ≤ 4294967295) (hown : OwnP w base (.slice a l.length cap) l) :
    Calls Tryz.prog 29 #[.slice a l.length cap, .int .i64 (k : Int)] w fun e w' => e = .returned (.int .i64 ((k + 2 * l.length : Nat) : Int)) ∧ OwnP w' base (.slice a l.length cap) (marksP k l.length) ∧ w.grownBy w' (Value.slice a l.length cap).ownBlock ∧ w'.heap.size = w.heap.size := by
  go_enter Tryz.func29, Tryz.ntmps29
  go_wp2
  go_loopw [1, 5] (fun s i wr => ∃ j : Nat, j ≤ l.length ∧ i = .int .i64 j ∧ s = .int .i64 ((k + 2 * j : Nat) : Int) ∧ OwnP wr base (.slice a l.length cap) (markedP k l j) ∧ w.grownBy wr (Value.slice a l.length cap).ownBlock ∧ wr.heap.size = w.heap.size) (fun _ i _ => l.length - (intOf i).toNat)
  case atStart => exact ⟨0, Nat.zero_le _, rfl, rfl, by rw [markedP_zero]; exact hown, grown_refl _ _, rfl⟩
  case round =>
    obtain ⟨j, hj, rfl, rfl, hown', hg, hsz⟩ := hrel
    clear hown
    by_cases hlt : j < l.length
    · have hml := markedP_length k l j hj
      obtain ⟨b, rfl, hb1, hb2⟩ := hown'.at0 (by omega)
      obtain ⟨hc0, hc1⟩ := Own2.cells hown' j (by rw [List.length_map]; omega)
      have hf0 := Own2.frozen hown' (j * 2)
      have hf1 := Own2.frozen hown' (j * 2 + 1)
      have hst := Own2.store hown' j (.int .u32 ((k + 2 * j : Nat) : Int)) (.int .u32 ((k + 2 * j + 1 : Nat) : Int))
      have hset : ((markedP k l j).map prP).set j (.int .u32 ((k + 2 * j : Nat) : Int), .int .u32 ((k + 2 * j + 1 : Nat) : Int)) = (markedP k l (j + 1)).map prP := by
        rw [← markedP_set k l j hlt, List.map_set]; rfl
      rw [hset] at hst
      have hsz2 : ((wr.setCell ⟨b, j * 2, none⟩ (.int .u32 ((k + 2 * j : Nat) : Int))).setCell ⟨b, j * 2 + 1, none⟩ (.int .u32 ((k + 2 * j + 1 : Nat) : Int))).heap.size = w.heap.size := by rw [← hsz]; simp
      have hbl : w.grownBy ((wr.setCell ⟨b, j * 2, none⟩ (.int .u32 ((k + 2 * j : Nat) : Int))).setCell ⟨b, j * 2 + 1, none⟩ (.int .u32 ((k + 2 * j + 1 : Nat) : Int))) (some b) := grown_trans (grown_trans hg (grown_set1 _ _ _ _)) (grown_set1 _ _ _ _)
      have e1 : ((k + 2 * j : Nat) : Int) = (k : Int) + 2 * (j : Int) := by omega
      have e2 : ((k + 2 * j + 1 : Nat) : Int) = (k : Int) + 2 * (j : Int) + 1 := by omega
      rw [e1, e2] at hst hsz2 hbl
      have HX := hide (And.intro hst (And.intro hbl hsz2))
      generalize (((markedP k l j).map prP)[j]'(by rw [List.length_map]; omega)).1 = y0 at hc0
      generalize (((markedP k l j).map prP)[j]'(by rw [List.length_map]; omega)).2 = y1 at hc1
      have hkb : (k : Int) + 2 * (j : Int) + 1 ≤ 4294967295 := by omega
      clear hst hset hown' hg hml hsz hsz2 hbl e2
      rw [e1]
      clear e1
      go_wp2
      go_roundw
      case rel => exact ⟨j + 1, by omega, by go_num, val_int (by omega), HX.out.1, HX.out.2.1, HX.out.2.2⟩
      case measure => simp [intOf]; omega
    · obtain rfl : j = l.length := by omega
      rw [markedP_len] at hown'
      go_wp2
      go_ret
      exact ⟨rfl, hown', hg, hsz⟩
set_option maxHeartbeats 1000000 in
theorem heldPairS_any (a : Option Addr) (cap k n : Nat) (w : World) (hk : k + 2 * n ≤ 4294967295) (hr : PrAt w a (marksP k n)) :
    Calls Tryz.prog 30 #[.slice a n cap, .int .i64 (k : Int)] w fun e w' => e = .returned (.int .i64 ((k + 2 * n : Nat) : Int)) ∧ w' = w := by
  go_enter Tryz.func30, Tryz.ntmps30
  go_wp2
  go_loop [1, 5] (fun s i => ∃ j : Nat, j ≤ n ∧ i = .int .i64 j ∧ s = .int .i64 ((k + 2 * j : Nat) : Int)) (fun _ i => n - (intOf i).toNat)
  case atStart => exact ⟨0, Nat.zero_le _, rfl, rfl⟩
  case round =>
    obtain ⟨j, hj, rfl, rfl⟩ := hrel
    by_cases hlt : j < n
    · have hml := marksP_length k n
      obtain ⟨b, off, rfl, hc⟩ := hr (by omega)
      obtain ⟨hc0, hc1⟩ := hc j (by omega)
      rw [marksP_at k n j (by omega)] at hc0 hc1
      have e1 : ((k + 2 * j : Nat) : Int) = (k : Int) + 2 * (j : Int) := by omega
      have e2 : ((k + 2 * j + 1 : Nat) : Int) = (k : Int) + 2 * (j : Int) + 1 := by omega
      simp only [] at hc0 hc1
      rw [e1] at hc0
      rw [e2] at hc1
      have hkb : (k : Int) + 2 * (j : Int) + 1 ≤ 4294967295 := by omega
      clear hc hr hml e2
      rw [e1]
      clear e1
      go_wp2
      go_round
      case rel => exact ⟨j + 1, by omega, by go_num, val_int (by omega)⟩
      case measure => simp [intOf]; omega
    · obtain rfl : j = n := by omega
      go_wp2
      go_ret
      exact ⟨rfl, rfl⟩
end Go.Proofs.YtpedmebigcchnaaGreatDoor
