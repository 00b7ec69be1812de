import Derived.Test.YtledlicandlekabPka
import Derived.Test.YtledlicandlekabPkb
import Derived.Test.YtledlicandlekabPkc
import Derived.Test.YtledlicandlekabPkd
import Derived.Test.YtledlicandlekabPke
import Derived.Test.YtledlicandlekabPkf
import Derived.Test.YtledlicandlekabPkg
import Derived.Test.YtledlicandlekabShelfI
import Derived.Test.YtledlicandlekabPkh
import Derived.Test.YtledlicandlekabPki
import Derived.Test.YtledlicandlekabPkj
import Derived.Test.YtledlicandlekabPkk
import Derived.Test.YtledlicandlekabPkl
import Derived.Test.YtledlicandlekabPkm
namespace Go.Proofs.Ytledlicandlekab
open Go.RowKit
theorem run_enterB (v : Value) (w : World) : (callFunc 25 #[v]).run Try.prog w = .ok (.enter 25 #[v]) w := by
  kernel_rfl
theorem run_enterC (v : Value) (w : World) : (callFunc 31 #[v]).run Try.prog w = .ok (.enter 31 #[v]) w := by
  kernel_rfl
/-- A call of a function of one argument, as a step of a statement whose order is drawn. -/
theorem step_call_one (f : FuncId) (hf : ∀ (v : Value) (w : World), (callFunc f #[v]).run Try.prog w = .ok (.enter f #[v]) w) {ops : Array Oper} {o : Oper} {act : Act} {w : World} {K : Act → World → Prop} {Q : Exit → Act → World → Prop} {E : Prop} (x : Operand) (ts : Array TypeId) (hgd : o.guard = none)
    (ho : o.op = .call { callee := .value (.func f), args := #[x], argTypes := ts }) (v : Value) (hx : act.eval x = v) (h : Calls Try.prog f #[v] w fun e w' => ∃ u, e = .returned u ∧ K (act.put o.dst u) w') :
    if Region.wanted o (yielded ops act.tmps) = true then Oper.wp Try.prog o act w K Q else E := by
  have hw : Region.wanted o (yielded ops act.tmps) = true := by simp [Region.wanted, hgd]
  rw [if_pos hw]
  obtain ⟨dst, op, ty, pos, after, guard⟩ := o
  simp only at ho hgd
  subst ho
  unfold Oper.wp
  rw [execOp_call_go]
  simp only [List.map_toArray, List.map_cons, List.map_nil, hx, List.append_toArray, List.nil_append, List.append_nil, hf, Oper.upon_enter]
  refine h.mono ?_
  rintro e w' ⟨u, rfl, hk⟩
  exact hk
/-- What holds behind the copy and the new list of one, in whatever order the statement was gone through. -/
structure NOk (w5 W0 Y : World) (o g : Nat) (q z : Int) (v1 v2 v3 u : Value) (vs : List (Value × Value)) (N : List NdM) (E K : List EN) (R : List Nat) : Prop where
  n : OwnNA Y (o + 1) v1 vs N
  c0 : Y.cell? ⟨g, 0, none⟩ = some u
  c1 : Y.cell? ⟨g, 1, none⟩ = some (.int .i64 z)
  ow : OwnB Y (o + 1) u R
  sz : o + 1 ≤ Y.heap.size
  next : ∀ w3 v', OwnNA w3 (o + 1) v' (vs ++ [(u, .int .i64 z)]) (N ++ [(R, z)]) → Y.grownBy w3 v1.ownBlock → CrL w5 (w3.setCell ⟨o, 0, none⟩ v') o q v' v2 v3 (vs ++ [(u, .int .i64 z)]) (N ++ [(R, z)]) E K ∧ w3.cell? ⟨o, 0, none⟩ = some v1 ∧ w3.frozen? ⟨o, 0, none⟩ = false ∧ (∀ b, b < W0.heap.size → v1.ownBlock ≠ some b → w3.heap[b]? = W0.heap[b]?)
theorem node_arm {w5 W0 W w2 Y : World} {o : Nat} {q : Int} {v1 v2 v3 u : Value} {vs : List (Value × Value)} {N : List NdM} {E K : List EN} {R : List Nat} (z : Int) (C : CrL w5 W0 o q v1 v2 v3 vs N E K) (e1 : W.heap = W0.heap) (e2 : W.os = W0.os) (e3 : W.tape = W0.tape) (e4 : W.output = W0.output) (hb2 : Below W.heap.size W w2) (ho2 : OwnB w2 W.heap.size u R)
    (y1 : Y.heap = (w2.alloc (.cells #[u, .int .i64 z] 56)).heap) (y2 : Y.os = w2.os) (y3 : Y.tape = w2.tape) (y4 : Y.output = w2.output) : NOk w5 W0 Y o w2.heap.size q z v1 v2 v3 u vs N E K R := by
  have hb : Below W0.heap.size W0 w2 := ⟨hb2.os.trans e2, hb2.tape.trans e3, hb2.output.trans e4, by rw [← e1]; exact hb2.size, fun k hk => by rw [← e1]; exact hb2.block k (by rw [e1]; exact hk)⟩
  have hal := (Below.refl w2.heap.size w2).alloc (Nat.le_refl _) (.cells #[u, .int .i64 z] 56)
  have hbw : Below w2.heap.size w2 Y := ⟨y2, y3, y4, by rw [y1]; exact hal.size, fun k hk => by rw [y1]; exact hal.block k hk⟩
  have hbY : Below W0.heap.size W0 Y := hb.trans (hbw.mono hb.size)
  have C' := C.below hbY
  have hL : Laid Y w2.heap.size #[u, .int .i64 z] 56 := by
    have h := Laid.new w2 #[u, .int .i64 z] 56
    unfold Laid at h ⊢
    rw [y1]; exact h
  rw [e1] at ho2
  have hou : OwnB Y W0.heap.size u R := OwnB.below ho2 hbw (Nat.le_refl _)
  refine ⟨C'.n, hL.cell 0, hL.cell 1, OwnB.mono hou C.sz, C'.sz, fun w3 v' hn hg => ⟨CrL.pushN C hbY hn hg, ?_, ?_, fun b hb1 hb2 => ?_⟩⟩
  · have ne : some o ≠ v1.ownBlock := fun e => by have := (own_ge C'.n.row e.symm).1; omega
    have kb : Laid w3 o #[v1, v2, v3, .slice none 0 0, .int .i64 q] 36 := (hg.block o C'.box.lt ne).trans C'.box
    exact kb.cell 0
  · have ne : some o ≠ v1.ownBlock := fun e => by have := (own_ge C'.n.row e.symm).1; omega
    have kb : Laid w3 o #[v1, v2, v3, .slice none 0 0, .int .i64 q] 36 := (hg.block o C'.box.lt ne).trans C'.box
    exact frozen_of_row w3 o 0 _ _ kb
  · exact (hg.block b (Nat.lt_of_lt_of_le hb1 hbY.size) (fun e => hb2 e.symm)).trans (hbY.block b hb1)
/-- The call in whatever order. -/
theorem node_call (f : FuncId) (hf : ∀ (a : Option Addr) (cap : Nat) (l : List Nat) (w : World), l.length ≤ 1048576 → RowAt w a l → Calls Try.prog f #[.slice a l.length cap] w fun e w' => ∃ v, e = .returned v ∧ OwnB w' w.heap.size v l ∧ Below w.heap.size w w')
    {w5 W0 : World} {o : Nat} {q : Int} {v1 v2 v3 : Value} {vs : List (Value × Value)} {N : List NdM} {E K : List EN} {R : List Nat} {a : Option Addr} (z : Int) (C : CrL w5 W0 o q v1 v2 v3 vs N E K) (jr : RowAt W0 a R) (n cap : Nat) (hn : n = R.length) (hR : R.length ≤ 1048576) :
    ∀ W : World, W.heap = W0.heap → W.os = W0.os → W.tape = W0.tape → W.output = W0.output → Calls Try.prog f #[.slice a n cap] W fun e w2 => ∃ a2 c2, e = .returned (.slice a2 R.length c2) ∧ (∀ y ∈ vs.map (·.1), awayV y (.slice a2 R.length c2)) ∧
      (∀ Y : World, Y.heap = (w2.alloc (.cells #[.slice a2 R.length c2, .int .i64 z] 56)).heap → Y.os = w2.os → Y.tape = w2.tape → Y.output = w2.output → NOk w5 W0 Y o w2.heap.size q z v1 v2 v3 (.slice a2 R.length c2) vs N E K R) ∧ w2.cell? ⟨o, 0, none⟩ = some v1 ∧ o < w2.heap.size := by
  intro W e1 e2 e3 e4
  subst hn
  have jr' : RowAt W a R := by
    intro hp
    obtain ⟨b, off, rfl, hc⟩ := jr hp
    refine ⟨b, off, rfl, fun i hi => ?_⟩
    rw [← hc i hi]
    exact World.cell?_of_block (by rw [e1])
  refine (hf a cap R W hR jr').mono ?_
  rintro e w2 ⟨v2', rfl, ho2, hb2⟩
  obtain ⟨a2, c2, rfl⟩ := ho2.slice
  have hb : Below W0.heap.size W0 w2 := ⟨hb2.os.trans e2, hb2.tape.trans e3, hb2.output.trans e4, by rw [← e1]; exact hb2.size, fun k hk => by rw [← e1]; exact hb2.block k (by rw [e1]; exact hk)⟩
  refine ⟨a2, c2, rfl, fun y hy => ?_, fun Y y1 y2 y3 y4 => node_arm z C e1 e2 e3 e4 hb2 ho2 y1 y2 y3 y4, (C.box.below hb C.box.lt).cell 0, Nat.lt_of_lt_of_le C.box.lt hb.size⟩
  cases hby : y.ownBlock with
  | none => exact .inl hby
  | some g =>
    refine .inr fun e => ?_
    have h1 := (C.n.lo (.inr ⟨y, hy, hby⟩)).2
    rw [hby] at e
    have h2 := (own_ge ho2 e.symm).1
    rw [e1] at h2
    omega
theorem n_next {w5 W0 w2 Y w3 : World} {o : Nat} {q z : Int} {v1 v2 v3 u v' : Value} {vs : List (Value × Value)} {N : List NdM} {E K : List EN} {R : List Nat} (h : ∀ Y : World, Y.heap = (w2.alloc (.cells #[u, .int .i64 z] 56)).heap → Y.os = w2.os → Y.tape = w2.tape → Y.output = w2.output → NOk w5 W0 Y o w2.heap.size q z v1 v2 v3 u vs N E K R)
    (ho : OwnNA w3 (o + 1) v' (vs ++ [(u, .int .i64 z)]) (N ++ [(R, z)])) (hg : Y.grownBy w3 v1.ownBlock) (y1 : Y.heap = (w2.alloc (.cells #[u, .int .i64 z] 56)).heap := by rfl) (y2 : Y.os = w2.os := by rfl) (y3 : Y.tape = w2.tape := by rfl) (y4 : Y.output = w2.output := by rfl) :
    CrL w5 (w3.setCell ⟨o, 0, none⟩ v') o q v' v2 v3 (vs ++ [(u, .int .i64 z)]) (N ++ [(R, z)]) E K ∧ w3.cell? ⟨o, 0, none⟩ = some v1 ∧ w3.frozen? ⟨o, 0, none⟩ = false ∧ (∀ b, b < W0.heap.size → v1.ownBlock ≠ some b → w3.heap[b]? = W0.heap[b]?) :=
  (h Y y1 y2 y3 y4).next w3 v' ho hg
/-- The rows of bytes have room for what they hold. -/
def CapAt (w : World) (a : Option Addr) (ns : List NdM) : Prop := 0 < ns.length → ∃ b off, a = some ⟨b, off, none⟩ ∧ ∀ i (h : i < ns.length), ∃ ai ci, w.cell? ⟨b, off + i * 2, none⟩ = some (.slice ai ns[i].1.length ci) ∧ ns[i].1.length ≤ ci
theorem CapAt.below {w w' : World} {a : Option Addr} {ns : List NdM} (h : CapAt w a ns) (hb : Below w.heap.size w w') : CapAt w' a ns := fun hp => by
  obtain ⟨b, off, rfl, hc⟩ := h hp
  refine ⟨b, off, rfl, fun i hi => ?_⟩
  obtain ⟨ai, ci, h1, h2⟩ := hc i hi
  exact ⟨ai, ci, by rw [hb.cell (p := ⟨b, off + i * 2, none⟩) (lt_of_cell0 h1)]; exact h1, h2⟩
def DiskCap (w : World) (v : Value) (D : MDisk) : Prop := ∃ a1 n1 c1 x2 x3 a4 n4 c4 x5, v = .agg #[.slice a1 n1 c1, x2, x3, .slice a4 n4 c4, x5] ∧ CapAt w a1 D.nodes ∧ n4 ≤ c4
theorem DiskCap.below {w w' : World} {v : Value} {D : MDisk} (h : DiskCap w v D) (hb : Below w.heap.size w w') : DiskCap w' v D := by
  obtain ⟨a1, n1, c1, x2, x3, a4, n4, c4, x5, e, h1, h2⟩ := h
  exact ⟨a1, n1, c1, x2, x3, a4, n4, c4, x5, e, h1.below hb, h2⟩
theorem own_cap {w : World} {base e k n m cap : Nat} {a : Option Addr} {xs : List Value} (h : w.ownsRow base e k (.slice a n cap) m xs) : n ≤ cap := by
  rcases h.2 with ⟨e1, _⟩ | ⟨g, c, cur, e1, _, _, hnc, _⟩
  · simp only [Value.slice.injEq] at e1; omega
  · simp only [Value.slice.injEq] at e1; omega
theorem OwnN.cap {w : World} {base : Nat} {a : Option Addr} {n cap : Nat} {ns : List NdM} (h : OwnN w base (.slice a n cap) ns) : CapAt w a ns := fun hp => by
  obtain ⟨vs, hlen, h2, hi⟩ := h
  rcases h2.2 with ⟨_, hn⟩ | ⟨g, cap', cur, h', _⟩
  · omega
  · simp only [Value.slice.injEq] at h'
    obtain ⟨rfl, rfl, rfl⟩ := h'
    refine ⟨g, 0, rfl, fun i hi2 => ?_⟩
    obtain ⟨x, hx, ox⟩ := hi i hi2
    obtain ⟨ai, ci, rfl⟩ := ox.slice
    obtain ⟨hl2, hx2⟩ := List.getElem?_eq_some_iff.1 hx
    obtain ⟨c0, _⟩ := Own2.cells h2 i hl2
    rw [hx2] at c0
    rw [Nat.zero_add]
    exact ⟨ai, ci, c0, own_cap ox⟩
theorem OwnD.cap {w : World} {base : Nat} {v : Value} {D : MDisk} (h : OwnD w base v D) : DiskCap w v D := by
  obtain ⟨v1, v2, v3, v4, rfl, h1, h2, h3, h4⟩ := h
  obtain ⟨a1, c1, rfl⟩ := h1.slice
  obtain ⟨a4, c4, rfl⟩ := h4.slice
  exact ⟨_, _, _, _, _, _, _, _, _, rfl, h1.cap, own_cap h4⟩
end Go.Proofs.Ytledlicandlekab
namespace Go.Proofs.Ytledlicandlekab
open Go.RowKit
theorem CrL.app {w5 W : World} {o : Nat} {q : Int} {v1 v2 v3 : Value} {vs : List (Value × Value)} {N : List NdM} {E K : List EN} (C : CrL w5 W o q v1 v2 v3 vs N E K) (x : EN) :
    Below W.heap.size W (W.alloc (.cells #[.string x.1, .int .i64 x.2] 58)) ∧ OwnE (W.alloc (.cells #[.string x.1, .int .i64 x.2] 58)) (o + 1) v2 E ∧ OwnE (W.alloc (.cells #[.string x.1, .int .i64 x.2] 58)) (o + 1) v3 K ∧ (W.alloc (.cells #[.string x.1, .int .i64 x.2] 58)).cell? ⟨W.heap.size, 0, none⟩ = some (.string x.1) ∧ (W.alloc (.cells #[.string x.1, .int .i64 x.2] 58)).cell? ⟨W.heap.size, 1, none⟩ = some (.int .i64 x.2) ∧ o + 1 ≤ (W.alloc (.cells #[.string x.1, .int .i64 x.2] 58)).heap.size := by
  have hal := (Below.refl W.heap.size W).alloc (Nat.le_refl _) (.cells #[.string x.1, .int .i64 x.2] 58)
  have hL := Laid.new W #[.string x.1, .int .i64 x.2] 58
  exact ⟨hal, C.e.below hal, C.k.below hal, hL.cell 0, hL.cell 1, Nat.le_trans C.sz hal.size⟩
theorem CrL.grown {w5 W w3 : World} {o : Nat} {q : Int} {v1 v2 v3 : Value} {vs : List (Value × Value)} {N : List NdM} {E K : List EN} {bk : Option Nat} (C : CrL w5 W o q v1 v2 v3 vs N E K) (hg : W.grownBy w3 bk) (hb : ∀ b, bk = some b → o + 1 ≤ b) : Laid w3 o #[v1, v2, v3, .slice none 0 0, .int .i64 q] 36 :=
  (hg.block o C.box.lt (fun e => by have := hb o e.symm; omega)).trans C.box
/-- Behind an append to Names. -/
theorem CrL.appE {w5 W w3 : World} {o : Nat} {q : Int} {v1 v2 v3 v' : Value} {vs : List (Value × Value)} {N : List NdM} {E K : List EN} {x : EN} (C : CrL w5 W o q v1 v2 v3 vs N E K) (ho : OwnE w3 (o + 1) v' (E ++ [x])) (hg : (W.alloc (.cells #[.string x.1, .int .i64 x.2] 58)).grownBy w3 v2.ownBlock) (hat : v'.ownBlock = v2.ownBlock ∨ v'.ownBlock = some (W.alloc (.cells #[.string x.1, .int .i64 x.2] 58)).heap.size) :
    CrL w5 (w3.setCell ⟨o, 1, none⟩ v') o q v1 v' v3 vs N (E ++ [x]) K ∧ w3.cell? ⟨o, 1, none⟩ = some v2 ∧ w3.frozen? ⟨o, 1, none⟩ = false ∧ w3.cell? ⟨o, 2, none⟩ = some v3 ∧ w3.frozen? ⟨o, 2, none⟩ = false ∧ (∀ b, b < W.heap.size → v2.ownBlock ≠ some b → w3.heap[b]? = W.heap[b]?) := by
  have hal := (C.app x).1
  have C2 := C.below hal
  have kb := C2.grown hg (fun b hb => (own_ge C2.e hb).1)
  exact ⟨C.pushE hal ho hg (away_at hat C.aw C2.k), kb.cell 1, frozen_of_row w3 o 1 _ _ kb, kb.cell 2, frozen_of_row w3 o 2 _ _ kb, fun b h1 h2 => (hg.block b (Nat.lt_of_lt_of_le h1 hal.size) (fun e => h2 e.symm)).trans (hal.block b h1)⟩
/-- Behind an append to Kept. -/
theorem CrL.appK {w5 W w3 : World} {o : Nat} {q : Int} {v1 v2 v3 v' : Value} {vs : List (Value × Value)} {N : List NdM} {E K : List EN} {x : EN} (C : CrL w5 W o q v1 v2 v3 vs N E K) (ho : OwnE w3 (o + 1) v' (K ++ [x])) (hg : (W.alloc (.cells #[.string x.1, .int .i64 x.2] 58)).grownBy w3 v3.ownBlock) (hat : v'.ownBlock = v3.ownBlock ∨ v'.ownBlock = some (W.alloc (.cells #[.string x.1, .int .i64 x.2] 58)).heap.size) :
    CrL w5 (w3.setCell ⟨o, 2, none⟩ v') o q v1 v2 v' vs N E (K ++ [x]) ∧ w3.cell? ⟨o, 2, none⟩ = some v3 ∧ w3.frozen? ⟨o, 2, none⟩ = false := by
  have hal := (C.app x).1
  have C2 := C.below hal
  have kb := C2.grown hg (fun b hb => (own_ge C2.k hb).1)
  exact ⟨C.pushK hal ho hg (away_at hat C.aw.symm C2.e).symm, kb.cell 2, frozen_of_row w3 o 2 _ _ kb⟩
end Go.Proofs.Ytledlicandlekab
namespace Go.Proofs.Ytledlicandlekab
open Go.RowKit
theorem ret_disk {fn : Func} {tmps : Array Value} {p : Tmp} (B : Nat) (W : World) (x1 x2 x3 x4 x5 : Value) (hf : fn.results = #[.cell p 36]) (hp : tmps.getD p undef = .pointer (some ⟨B, 0, none⟩)) (hb : Laid W B #[x1, x2, x3, x4, x5] 36) :
    (results fn tmps).run Try.prog W = .ok (.agg #[x1, x2, x3, x4, x5]) W :=
  results_cell_row (P := Try.prog) hf _ _ B _ _ _ _ hp hb Try.underlying36 rfl (by kernel_rfl)
def setD (W : World) (B : Nat) (x1 x2 x3 x4 x5 : Value) : World := ((((W.setCell ⟨B, 0, none⟩ x1).setCell ⟨B, 1, none⟩ x2).setCell ⟨B, 2, none⟩ x3).setCell ⟨B, 3, none⟩ x4).setCell ⟨B, 4, none⟩ x5
theorem set_disk {W : World} {B : Nat} {y1 y2 y3 y4 y5 : Value} (x1 x2 x3 x4 x5 : Value) (h : Laid W B #[y1, y2, y3, y4, y5] 36) : Laid (setD W B x1 x2 x3 x4 x5) B #[x1, x2, x3, x4, x5] 36 := ((((h.set 0 x1).set 1 x2).set 2 x3).set 3 x4).set 4 x5
theorem setD_fr (W : World) (B : Nat) (x1 x2 x3 x4 x5 : Value) : Fr (fun g => g = B) W (setD W B x1 x2 x3 x4 x5) := by
  have h0 : (fun g => g = B) B := rfl
  exact (((((Fr.refl (fun g => g = B) W).set (u := x1) (j := 0) h0).set (u := x2) (j := 1) h0).set (u := x3) (j := 2) h0).set (u := x4) (j := 3) h0).set (u := x5) (j := 4) h0
theorem setD_size (W : World) (B : Nat) (x1 x2 x3 x4 x5 : Value) : (setD W B x1 x2 x3 x4 x5).heap.size = W.heap.size := by simp [setD]
theorem own_no (w : World) (base hi : Nat) : OwnDA w base hi (.slice none 0 0) (.slice none 0 0) (.slice none 0 0) (.slice none 0 0) [] noDisk :=
  ⟨OwnNA.nil _ _, World.ownsRow_nil _ _ _ 2, World.ownsRow_nil _ _ _ 2, World.ownsRow_nil _ _ _ 4, .inl rfl, (fun g h => h.elim (fun e => by cases e) (fun ⟨_, hx, _⟩ => by cases hx)), (fun g h => by cases h), (fun g h => by cases h), (fun g h => by cases h)⟩
/-- What is handed back where the disk is no good. -/
theorem disk_no {w W : World} {B : Nat} {C : MDisk} (hC : C = noDisk) (hB : w.heap.size ≤ B) (hb : Below w.heap.size w W) : DiskPost C w (.returned (.agg #[.slice none 0 0, .slice none 0 0, .slice none 0 0, .slice none 0 0, .int .i64 0])) (setD W B (.slice none 0 0) (.slice none 0 0) (.slice none 0 0) (.slice none 0 0) (.int .i64 0)) := by
  subst hC
  exact ⟨_, _, _, _, [], rfl, own_no _ _ _, hb.trans ((setD_fr W B _ _ _ _ _).below (fun g e => by omega) hb.size)⟩
/-- What is handed back where it is. -/
theorem disk_yes {w w0 W : World} {B o : Nat} {C : MDisk} {q : Int} {v1 v2 v3 : Value} {vs : List (Value × Value)} {N : List NdM} {E K : List EN} (hC : C = ⟨N, E, K, [], q⟩) (h : CrL w0 W o q v1 v2 v3 vs N E K) (hB : w.heap.size ≤ B) (hBo : B < o) (hb : Below w.heap.size w w0) (ho : w0.heap.size = o) :
    DiskPost C w (.returned (.agg #[v1, v2, v3, .slice none 0 0, .int .i64 q])) (setD W B v1 v2 v3 (.slice none 0 0) (.int .i64 q)) := by
  subst hC
  have hbw : Below w.heap.size w W := hb.trans (h.bel.mono (by omega))
  have hz := setD_size W B v1 v2 v3 (.slice none 0 0) (.int .i64 q)
  have hf := setD_fr W B v1 v2 v3 (.slice none 0 0) (.int .i64 q)
  have h1 : OwnDA W (o + 1) W.heap.size v1 v2 v3 (.slice none 0 0) vs ⟨N, E, K, [], q⟩ := ⟨h.n, h.e, h.k, World.ownsRow_nil _ _ _ 4, h.aw, fun g hg => (h.n.lo hg).2, fun g hg => (own_ge h.e hg).2, fun g hg => (own_ge h.k hg).2, fun g hg => by cases hg⟩
  have h2 := h1.fr hf (fun g h1 _ e => by omega)
  rw [← hz] at h2
  have hle : w.heap.size ≤ o + 1 := by omega
  exact ⟨v1, v2, v3, _, vs, rfl, ⟨⟨h2.nodes.len, Own2.mono h2.nodes.row hle, fun i hi => by obtain ⟨x, hx, ho⟩ := h2.nodes.body i hi; exact ⟨x, hx, ho.mono hle⟩, h2.nodes.apart⟩, OwnE.mono h2.names hle, OwnE.mono h2.kept hle, OwnO.mono h2.pend hle, h2.away, h2.b1, h2.b2, h2.b3, h2.b4⟩, hbw.trans (hf.below (fun g e => by omega) hbw.size)⟩
open Classical in
/-- The disk that a crash leaves. -/
noncomputable def crOf (D : MDisk) (dirs : Int) (picks : List Int) : MDisk := if ValidD D then crashD D dirs picks else noDisk
theorem crOf_no {D : MDisk} {dirs : Int} {picks : List Int} (h : ¬ ValidD D) : crOf D dirs picks = noDisk := by unfold crOf; rw [if_neg h]
theorem crOf_yes {D : MDisk} {dirs : Int} {picks : List Int} (h : ValidD D) : crOf D dirs picks = crashD D dirs picks := by unfold crOf; rw [if_pos h]
theorem pre_min {nodes : Int} {es : List EN} {ops : List DO} (k d : Nat) (h : ops.length ≤ k) : preE nodes es ops (min k d) = preE nodes es ops d := by
  rcases Nat.le_total k d with h1 | h1
  · rw [Nat.min_eq_left h1, preE_all k h, preE_all d (by omega)]
  · rw [Nat.min_eq_right h1]
theorem preE_zero {nodes : Int} {es : List EN} {ops : List DO} : preE nodes es ops 0 = es := by cases ops <;> rfl
/-- A row of entries beside the disk that is being made. -/
theorem ext_keep {W w3 : World} {o i b : Nat} {ve vv u : Value} {es : List EN} (x : OwnE W b ve es) (hb : o < b) (hk : ∀ g, g < W.heap.size → vv.ownBlock ≠ some g → w3.heap[g]? = W.heap[g]?) (ha : awayV ve vv) : OwnE (w3.setCell ⟨o, i, none⟩ u) b ve es := by
  refine OwnE.set_low ?_ (by simpa using hb) u
  refine ⟨x.1, ?_⟩
  rcases x.2 with hn' | ⟨g, cap, cur, rfl, hbase, hg, rest⟩
  · exact .inl hn'
  · exact .inr ⟨g, cap, cur, rfl, hbase, (hk g (lt_of_block hg) (fun e => away_not ha g rfl e)).trans hg, rest⟩
theorem pre_min2 {nodes : Int} {es : List EN} {ops : List DO} (d : Nat) : preE nodes es ops (min d ops.length) = preE nodes es ops d := by
  rcases Nat.le_total d ops.length with h1 | h1
  · rw [Nat.min_eq_left h1]
  · rw [Nat.min_eq_right h1, preE_all d h1]
theorem quiet_same {P : Program} {f : FuncId} {args : Array Value} {w : World} {a x : Nat} {v : Value} (h : Calls P f args (w.drewN (a + x)) fun e w' => e = .returned v ∧ w' = w.drewN (a + x)) : Calls P f args (w.drewN (a + x)) fun e w'' => e = .returned v ∧ ∃ n, w'' = w.drewN (a + n) :=
  h.mono fun _ _ ⟨he, hm⟩ => ⟨he, x, hm⟩
end Go.Proofs.Ytledlicandlekab
namespace Go.Proofs.Ytledlicandlekab
open Go.RowKit
set_option maxRecDepth 20000 in
set_option maxHeartbeats 8000000 in
theorem specCrash_any (v : Value) (D : MDisk) (dirs : Int) (ap : Option Addr) (cp : Nat) (picks : List Int) (w : World) (hM : Modest D) (hd : DiskAt w v D) (hcp : DiskCap w v D) (hpl : picks.length ≤ 1048576) (hpk : IntAt w ap picks) :
    Calls Try.prog 14 #[v, .int .i64 dirs, .slice ap picks.length cp] w (DiskPost (crOf D dirs picks) w) := by
  have HAT := hide (fun w' (hb : Below w.heap.size w w') => hd.below hb)
  have HPK := hide (fun w' (hb : Below w.heap.size w w') => hpk.below hb)
  obtain ⟨a1, m1, c1, xx2, xx3, a4, m4, c4, xx5, rfl, hcap, -⟩ := hcp
  have HCAP := hide (fun w' (hb : Below w.heap.size w w') => hcap.below hb)
  obtain ⟨z1, n1, d1, a2, m2, c2, a3, m3, c3, z4, n4, d4, q, hv⟩ := hd.shape
  clear hd hpk hcap
  simp only [Value.agg.injEq, Array.mk.injEq, List.cons.injEq, Value.slice.injEq, and_true] at hv
  obtain ⟨⟨rfl, rfl, rfl⟩, rfl, rfl, ⟨rfl, rfl, rfl⟩, rfl⟩ := hv
  have hA : Below w.heap.size w ((w.alloc (.cells #[.slice a1 m1 c1, .slice a2 m2 c2, .slice a3 m3 c3, .slice a4 m4 c4, .int .i64 q] 36)).alloc (.cells #[.slice none 0 0, .slice none 0 0, .slice none 0 0, .slice none 0 0, .int .i64 0] 36)) := ((Below.refl _ _).alloc (Nat.le_refl _) _).alloc (by simp) _
  have hz : ((w.alloc (.cells #[.slice a1 m1 c1, .slice a2 m2 c2, .slice a3 m3 c3, .slice a4 m4 c4, .int .i64 q] 36)).alloc (.cells #[.slice none 0 0, .slice none 0 0, .slice none 0 0, .slice none 0 0, .int .i64 0] 36)).heap.size = w.heap.size + 2 := by simp
  have L0 : Laid ((w.alloc (.cells #[.slice a1 m1 c1, .slice a2 m2 c2, .slice a3 m3 c3, .slice a4 m4 c4, .int .i64 q] 36)).alloc (.cells #[.slice none 0 0, .slice none 0 0, .slice none 0 0, .slice none 0 0, .int .i64 0] 36)) w.heap.size #[.slice a1 m1 c1, .slice a2 m2 c2, .slice a3 m3 c3, .slice a4 m4 c4, .int .i64 q] 36 := Laid.below (B := w.heap.size + 1) (Laid.new w _ _) ((Below.refl _ _).alloc (by simp) _) (by omega)
  have C0 := Laid.new (w.alloc (.cells #[.slice a1 m1 c1, .slice a2 m2 c2, .slice a3 m3 c3, .slice a4 m4 c4, .int .i64 q] 36)) #[.slice none 0 0, .slice none 0 0, .slice none 0 0, .slice none 0 0, .int .i64 0] 36
  rw [show (w.alloc (.cells #[.slice a1 m1 c1, .slice a2 m2 c2, .slice a3 m3 c3, .slice a4 m4 c4, .int .i64 q] 36)).heap.size = w.heap.size + 1 from World.size_alloc ..] at C0
  have HM := hide hM
  clear hM
  go_enter Try.func14, Try.ntmps14
  go_wp2_with fail
  generalize (w.alloc (.cells #[.slice a1 m1 c1, .slice a2 m2 c2, .slice a3 m3 c3, .slice a4 m4 c4, .int .i64 q] 36)).alloc (.cells #[.slice none 0 0, .slice none 0 0, .slice none 0 0, .slice none 0 0, .int .i64 0] 36) = w0 at hA L0 C0 hz ⊢
  refine (specValid_v (HAT.out w0 hA) HM.out).mono ?_
  rintro e w1 ⟨r, rfl, hrr, hb1⟩
  have HB1 := hide (hA.trans (hb1.mono hA.size))
  have L1 := L0.below hb1 L0.lt
  have C1 := C0.below hb1 C0.lt
  have hsz1 : w.heap.size + 2 ≤ w1.heap.size := by have := hb1.size; omega
  have f0 : w1.frozen? ⟨w.heap.size + 1, 0, none⟩ = false := frozen_of_row w1 (w.heap.size + 1) 0 _ _ C1
  have f1 : w1.frozen? ⟨w.heap.size + 1, 1, none⟩ = false := frozen_of_row w1 (w.heap.size + 1) 1 _ _ C1
  have f2 : w1.frozen? ⟨w.heap.size + 1, 2, none⟩ = false := frozen_of_row w1 (w.heap.size + 1) 2 _ _ C1
  have f3 : w1.frozen? ⟨w.heap.size + 1, 3, none⟩ = false := frozen_of_row w1 (w.heap.size + 1) 3 _ _ C1
  have f4 : w1.frozen? ⟨w.heap.size + 1, 4, none⟩ = false := frozen_of_row w1 (w.heap.size + 1) 4 _ _ C1
  cases r with
  | false =>
    have HR := hide (crOf_no (dirs := dirs) (picks := picks) (fun h => by have := hrr.2 h; cases this))
    have z0 : w1.cell? ⟨w.heap.size + 1, 0, none⟩ = some (.slice none 0 0) := C1.cell 0
    have z1 : w1.cell? ⟨w.heap.size + 1, 1, none⟩ = some (.slice none 0 0) := C1.cell 1
    have z2 : w1.cell? ⟨w.heap.size + 1, 2, none⟩ = some (.slice none 0 0) := C1.cell 2
    have z3 : w1.cell? ⟨w.heap.size + 1, 3, none⟩ = some (.slice none 0 0) := C1.cell 3
    have z4 : w1.cell? ⟨w.heap.size + 1, 4, none⟩ = some (.int .i64 0) := C1.cell 4
    have HC := hide C1
    clear hA L0 C0 hb1 L1 C1 hrr
    go_wp2
    exact bodyPost_ret (ret_disk (w.heap.size + 1) _ _ _ _ _ _ rfl rfl (set_disk _ _ _ _ _ HC.out)) rfl (disk_no HR.out (by omega) HB1.out)
  | true =>
    have HV := hide (hrr.1 rfl)
    have HR := hide (crOf_yes (dirs := dirs) (picks := picks) (hrr.1 rfl))
    have t0 : w1.cell? ⟨w.heap.size, 0, none⟩ = some (.slice a1 m1 c1) := L1.cell 0
    have t2 : w1.cell? ⟨w.heap.size, 2, none⟩ = some (.slice a3 m3 c3) := L1.cell 2
    have t3 : w1.cell? ⟨w.heap.size, 3, none⟩ = some (.slice a4 m4 c4) := L1.cell 3
    have t4 : w1.cell? ⟨w.heap.size, 4, none⟩ = some (.int .i64 q) := L1.cell 4
    obtain ⟨e1, k1, e2, k2, e3, k3, e4, k4, hsh, r1, r2, r3, r4⟩ := HAT.out w1 HB1.out
    simp only [Value.agg.injEq, Array.mk.injEq, List.cons.injEq, Value.slice.injEq, Value.int.injEq, and_true, true_and] at hsh
    obtain ⟨⟨rfl, rfl, rfl⟩, ⟨rfl, rfl, rfl⟩, ⟨rfl, rfl, rfl⟩, ⟨rfl, rfl, rfl⟩, rfl⟩ := hsh
    have hfk := fine_kept HV.out HM.out
    have hkl := hfk.ln
    have hpl4 : D.pend.length ≤ 1000 := HV.out.2.2.1
    have hnl : D.nodes.length ≤ 600 := okNodes_len HV.out.2.2.2.1
    have L1' := hide L1
    have C1' := hide C1
    have HR1 := hide r1
    have HR4 := hide r4
    have LE := hide (l1Entries_any a3 c3 D.kept w1 (by omega) r3)
    clear hA L0 C0 hb1 L1 C1 hrr r1 r2 r3 r4 hfk f0 f1 f2 f3 f4
    go_wp2_with fail
    refine LE.out.mono ?_
    rintro e w2 ⟨vk, rfl, ok2, hb2⟩
    obtain ⟨ak, ck, rfl⟩ := ok2.slice
    have hE2 := ok2.at
    have HX2 := hide (HB1.out.trans (hb2.mono HB1.out.size))
    have L2 := hide (L1'.out.below hb2 L1'.out.lt)
    have C2 := hide (C1'.out.below hb2 C1'.out.lt)
    have HN2 := hide (HR1.out.below hb2)
    have HP2 := hide (HR4.out.below hb2)
    have HE2 := hide hE2
    have hsz2 : w.heap.size + 2 ≤ w2.heap.size := by have := hb2.size; omega
    have x3 : w2.cell? ⟨w.heap.size, 3, none⟩ = some (.slice a4 D.pend.length c4) := L2.out.cell 3
    clear LE ok2 hE2 hb2 t0 t2 t3 t4 L1' C1' HR1 HR4 HB1 hsz1
    go_wp2
    go_loopw [7, 8, 9, 26] (fun lv _ _ i wv => ∃ (k : Nat) (al : Option Addr) (cl : Nat), k ≤ D.pend.length ∧ i = .int .i64 (k : Int) ∧ lv = .slice al (preE (D.nodes.length : Int) D.kept D.pend (min k dirs.toNat)).length cl ∧ EntAt wv al (preE (D.nodes.length : Int) D.kept D.pend (min k dirs.toNat)) ∧ Below w2.heap.size w2 wv) (fun _ _ _ i _ => D.pend.length - (intOf i).toNat)
    case atStart => exact ⟨0, ak, ck, Nat.zero_le _, rfl, by rw [Nat.zero_min, preE_zero], by rw [Nat.zero_min, preE_zero]; exact HE2.out, Below.refl _ _⟩
    case round =>
      obtain ⟨k, al, cl, hk, rfl, rfl, hea, hxv⟩ := hrel
      have HEA := hide hea
      have HXV := hide hxv
      have Lv := L2.out.below hxv (by omega)
      have y0 : wr.cell? ⟨w.heap.size, 0, none⟩ = some (.slice a1 D.nodes.length c1) := Lv.cell 0
      have y4 : wr.cell? ⟨w.heap.size, 4, none⟩ = some (.int .i64 D.quota) := Lv.cell 4
      clear hea hxv Lv HE2
      by_cases hlt : k < D.pend.length
      · obtain ⟨b, off, rfl, hc⟩ := (HP2.out.below HXV.out) (by omega)
        obtain ⟨d0, d1, d2, d3⟩ := hc k hlt
        obtain ⟨hz1, hz2⟩ := HM.out.s4 _ (List.getElem_mem hlt)
        have hst := preE_step k hlt HV.out.2.2.2.2.2.2
        have hfn := (fine_pre HV.out HM.out (min k dirs.toNat)).ln
        have HST := hide hst
        clear hc hst y4
        generalize hoo : D.pend[k] = oo at d0 d1 d2 d3 hz1 hz2 HST
        obtain ⟨kd, onm, oto, ond⟩ := oo
        clear hoo
        simp only at d0 d1 d2 d3 hz1 hz2
        have hAo := (Below.refl wr.heap.size wr).alloc (Nat.le_refl _) (.cells #[.int .i64 kd, .string onm, .string oto, .int .i64 ond] 74)
        by_cases hdk : (k : Int) < dirs
        · have hmk : min k dirs.toNat = k := by omega
          have hmk1 : min (k + 1) dirs.toNat = k + 1 := by omega
          rw [hmk] at HEA hfn ⊢
          have HRE := hide (l1Replay_any al cl _ kd onm oto ond (D.nodes.length : Int) _ (by omega) hz1 hz2 (HEA.out.below hAo))
          have y0a : (wr.alloc (.cells #[.int .i64 kd, .string onm, .string oto, .int .i64 ond] 74)).cell? ⟨w.heap.size, 0, none⟩ = some (.slice a1 D.nodes.length c1) := (hAo.cell (p := ⟨w.heap.size, 0, none⟩) (lt_of_cell0 y0)).trans y0
          have HXA := hide (HXV.out.trans (hAo.mono HXV.out.size))
          have HMK := hide hmk1
          rw [HST.out] at HRE
          generalize preE (D.nodes.length : Int) D.kept D.pend k = es at HEA hfn HRE ⊢
          generalize hp1 : preE (D.nodes.length : Int) D.kept D.pend (k + 1) = es1 at HRE
          have HP1 := hide hp1
          clear hAo HEA HST hmk hmk1 hp1
          go_wp2_with fail
          generalize wr.alloc (.cells #[.int .i64 kd, .string onm, .string oto, .int .i64 ond] 74) = W5 at HRE HXA y0a ⊢
          refine (HRE.out).mono ?_
          rintro e w6 ⟨a6, c6, rfl, ho6, hb6⟩
          have HX6 := hide (HXA.out.trans (hb6.mono HXA.out.size))
          have HO6 := hide ho6.at
          clear hb6 ho6 HRE HXA
          go_wp2
          go_roundw
          case rel => exact ⟨k + 1, a6, c6, by omega, by go_num, by rw [HMK.out, HP1.out], by rw [HMK.out, HP1.out]; exact HO6.out, HX6.out⟩
          case measure => simp [intOf]; omega
        · have hmk1 : min (k + 1) dirs.toNat = min k dirs.toNat := by omega
          have HMK := hide hmk1
          have HXA := hide (HXV.out.trans (hAo.mono HXV.out.size))
          have HEB := hide (HEA.out.below hAo)
          clear hAo HEA HST hmk1
          generalize hpe : preE (D.nodes.length : Int) D.kept D.pend (min k dirs.toNat) = es at HEB hfn ⊢
          have HPE := hide hpe
          clear hpe
          go_wp2
          go_roundw
          case rel => exact ⟨k + 1, al, cl, by omega, by go_num, by rw [HMK.out, HPE.out], by rw [HMK.out, HPE.out]; exact HEB.out, HXA.out⟩
          case measure => simp [intOf]; omega
      · have hpm := pre_min (nodes := (D.nodes.length : Int)) (es := D.kept) k dirs.toNat (show D.pend.length ≤ k by omega)
        rw [hpm] at HEA ⊢
        have hfn := fine_pre HV.out HM.out dirs.toNat
        have HFN := hide hfn
        have hel := hfn.ln
        have HR' := hide (show crOf D dirs picks = ⟨outN D.nodes picks (preE (D.nodes.length : Int) D.kept D.pend dirs.toNat) (preE (D.nodes.length : Int) D.kept D.pend dirs.toNat).length, outE (preE (D.nodes.length : Int) D.kept D.pend dirs.toNat) (preE (D.nodes.length : Int) D.kept D.pend dirs.toNat).length, outE (preE (D.nodes.length : Int) D.kept D.pend dirs.toNat) (preE (D.nodes.length : Int) D.kept D.pend dirs.toNat).length, [], D.quota⟩ from HR.out)
        generalize preE (D.nodes.length : Int) D.kept D.pend dirs.toNat = es at HEA HFN hel HR' ⊢
        obtain ⟨w5, e5⟩ : ∃ x, x = wr := ⟨wr, rfl⟩
        subst e5
        have HCS := hide (CrL.start w5 D.quota)
        have hszv : w.heap.size + 2 ≤ w5.heap.size := by have := HXV.out.size; omega
        have HXW := hide (HX2.out.trans (HXV.out.mono HX2.out.size))
        clear hfn HR hpm y0 HP2
        go_wp2
        clear hlt hk
        generalize w5.alloc (.cells #[.slice none 0 0, .slice none 0 0, .slice none 0 0, .slice none 0 0, .int .i64 D.quota] 36) = W7 at HCS ⊢
        go_loopw [11, 12, 13, 14, 15, 49] (fun _ _ _ _ _ i wv => ∃ (j : Nat) (v1 v2 v3 : Value) (vs : List (Value × Value)), j ≤ es.length ∧ i = .int .i64 (j : Int) ∧ CrL w5 wv w5.heap.size D.quota v1 v2 v3 vs (outN D.nodes picks es j) (outE es j) (outE es j)) (fun _ _ _ _ _ i _ => es.length - (intOf i).toNat)
        case atStart => exact ⟨0, _, _, _, [], Nat.zero_le _, rfl, HCS.out⟩
        case round =>
          obtain ⟨j, v1, v2, v3, vs, hj, rfl, hC⟩ := hrel
          have hbv := hC.bel
          have Lv := (L2.out.below HXV.out (by omega)).below hbv (by omega)
          have y0 : wr.cell? ⟨w.heap.size, 0, none⟩ = some (.slice a1 D.nodes.length c1) := Lv.cell 0
          have hsv := hC.sz
          have HC := hide hC
          clear hC Lv HCS
          by_cases hlt : j < es.length
          · obtain ⟨b, off, rfl, hc⟩ := (HEA.out.below hbv) (by omega)
            obtain ⟨d0, d1⟩ := hc j hlt
            obtain ⟨hn0, hn1⟩ := HFN.out.nd _ (List.getElem_mem hlt)
            obtain ⟨kk, hkk⟩ := Int.eq_ofNat_of_zero_le hn0
            have hkl2 : kk < D.nodes.length := by omega
            obtain ⟨b1, off1, rfl, hcn⟩ := ((HN2.out.below HXV.out).below hbv) (by omega)
            obtain ⟨ai, ci, g0, g1, hri⟩ := hcn kk hkl2
            have hcc : D.nodes[kk].1.length ≤ ci := by
              obtain ⟨b9, off9, e9, h9⟩ := HCAP.out wr (HXW.out.trans (hbv.mono HXW.out.size)) (by omega)
              simp only [Option.some.injEq, Addr.mk.injEq, and_true] at e9
              obtain ⟨rfl, rfl⟩ := e9
              obtain ⟨ai9, ci9, h91, h92⟩ := h9 kk hkl2
              rw [g0] at h91
              simp only [Option.some.injEq, Value.slice.injEq, true_and] at h91
              rw [h91.2]; exact h92
            have hok := ok_node HV.out kk hkl2
            have hkeep := keepOf_le (picks := picks) (i := j) hok
            have hnof : nodeOf D.nodes es[j] = D.nodes[kk] := by
              unfold nodeOf
              rw [hkk]
              simp [List.getD_eq_getElem?_getD, List.getElem?_eq_getElem hkl2]
            have HSN := hide (outN_succ D.nodes picks es j hlt)
            have HSE := hide (outE_succ es j hlt)
            rw [hnof] at HSN
            rw [hkk] at d1
            unfold okNode at hok
            obtain ⟨hok1, hok2, hok3⟩ := of_decide_eq_true hok
            have hpick : (picks.length = 0 ∧ (keepOf D.nodes[kk] picks j : Int) = D.nodes[kk].2) ∨ (0 < picks.length ∧ ∃ b2 off2 p, ap = some ⟨b2, off2, none⟩ ∧ wr.cell? ⟨b2, off2 + j % picks.length, none⟩ = some (.int .i64 p) ∧ ((p ≤ 0 ∧ (keepOf D.nodes[kk] picks j : Int) = D.nodes[kk].2) ∨ (0 < p ∧ (keepOf D.nodes[kk] picks j : Int) = D.nodes[kk].2 + p % ((D.nodes[kk].1.length : Int) - D.nodes[kk].2 + 1)))) := by
              rcases Nat.eq_zero_or_pos picks.length with h0 | h0
              · exact .inl ⟨h0, by unfold keepOf; rw [if_pos h0]; omega⟩
              · obtain ⟨b2, off2, e2, hcp⟩ := HPK.out wr (HXW.out.trans (hbv.mono HXW.out.size)) h0
                have hm := Nat.mod_lt j h0
                have hgd : picks.getD (j % picks.length) 0 = picks[j % picks.length] := by simp [List.getD_eq_getElem?_getD, List.getElem?_eq_getElem hm]
                refine .inr ⟨h0, b2, off2, picks[j % picks.length], e2, hcp _ hm, ?_⟩
                unfold keepOf
                rw [if_neg (by omega), hgd]
                generalize picks[j % picks.length] = p
                by_cases hp : p ≤ 0
                · refine .inl ⟨hp, ?_⟩
                  rw [Int.max_eq_right hp]
                  simp
                  omega
                · refine .inr ⟨by omega, ?_⟩
                  rw [Int.max_eq_left (by omega)]
                  have e3 : (D.nodes[kk].1.length : Int) - D.nodes[kk].2 + 1 = ((D.nodes[kk].1.length - D.nodes[kk].2.toNat + 1 : Nat) : Int) := by omega
                  have e4 : p = (p.toNat : Int) := by omega
                  rw [e3]
                  generalize D.nodes[kk].1.length - D.nodes[kk].2.toNat + 1 = zz
                  rw [e4, ← Int.natCast_emod]
                  simp
                  omega
            have HKP := hide hkeep
            generalize hkp : keepOf D.nodes[kk] picks j = kp at HKP HSN hpick
            generalize hdd : D.nodes[kk].1 = dd at *
            generalize D.nodes[kk].2 = sf at *
            have HSZ := hide hsv
            generalize es[j].1 = nm0 at d0 HSE
            have hA8 := ((Below.refl wr.heap.size wr).alloc (Nat.le_refl _) (.cells #[.string nm0, .int .i64 (kk : Int)] 58)).alloc (by simp) (.cells #[.slice ai dd.length ci, .int .i64 sf] 56)
            have LE8 := (Laid.new wr #[.string nm0, .int .i64 (kk : Int)] 58).below (B := wr.heap.size + 1) (((Below.refl _ _).alloc (by simp) (.cells #[.slice ai dd.length ci, .int .i64 sf] 56))) (by omega)
            have LN8 := Laid.new (wr.alloc (.cells #[.string nm0, .int .i64 (kk : Int)] 58)) #[.slice ai dd.length ci, .int .i64 sf] 56
            rw [show (wr.alloc (.cells #[.string nm0, .int .i64 (kk : Int)] 58)).heap.size = wr.heap.size + 1 from World.size_alloc ..] at LN8
            have C8 := HC.out.below hA8
            have HV1 := hide (fun b (hb : v1.ownBlock = some b) => (own_ge HC.out.n.row hb).2)
            have HV2 := hide (fun b (hb : v2.ownBlock = some b) => (own_ge HC.out.e hb).2)
            have hrt : RowAt wr ai (dd.take kp) := fun hp => by
              have hp2 : 0 < dd.length := by rw [List.length_take] at hp; omega
              obtain ⟨b3, off3, e3, h3⟩ := hri hp2
              refine ⟨b3, off3, e3, fun i hi => ?_⟩
              rw [List.length_take] at hi
              rw [h3 i (by omega), List.getElem_take]
            have hrl : (dd.take kp).length = kp := by rw [List.length_take]; exact Nat.min_eq_left HKP.out
            have CALL := hide (node_call 25 bytes_v (z := (kp : Int)) C8 (hrt.below hA8) kp ci hrl.symm (by rw [hrl]; have := HKP.out; omega))
            have hA7 := (Below.refl wr.heap.size wr).alloc (Nat.le_refl _) (.cells #[.string nm0, .int .i64 (kk : Int)] 58)
            have y0a := (hA7.cell (p := ⟨w.heap.size, 0, none⟩) (lt_of_cell0 y0)).trans y0
            have g0a := (hA7.cell (p := ⟨b1, off1 + kk * 2, none⟩) (lt_of_cell0 g0)).trans g0
            have g1a := (hA7.cell (p := ⟨b1, off1 + kk * 2 + 1, none⟩) (lt_of_cell0 g1)).trans g1
            clear hA7
            have n0 := LN8.cell 0
            have n1 := LN8.cell 1
            have o0 := C8.box.cell 0
            have HLE := hide LE8
            have HC8 := hide C8
            have HA8 := hide hA8
            clear hc hcn hri hrt hkp hdd hnof hkk hn0 hn1 C8 LE8 LN8 hok hkeep HC
            have hkc : kp ≤ ci := Nat.le_trans HKP.out hcc
            have hkd := HKP.out
            have hNl := outN_length D.nodes picks es j
            have hEl := outE_length es j
            generalize outN D.nodes picks es j = N0 at HC8 CALL HSN hNl
            generalize outE es j = E0 at HC8 CALL HSE hEl
            generalize hR : dd.take kp = R at CALL HSN hrl
            have HRL := hide hrl
            have hNb : N0.length ≤ 1048576 := by omega
            have hEb : E0.length ≤ 1048576 := by omega
            clear hR hrl hNl hEl hbv hszv hA8 hcc
            rcases hpick with ⟨hp0, hkp1⟩ | ⟨hp0, b2, off2, p, rfl, hcp, hpp⟩
            · have hpi : ¬ (0 : Int) < (picks.length : Int) := by omega
              have HP0 := hide hp0
              have HK1 := hide hkp1.symm
              clear hp0 hkp1
              go_wp2
              generalize (wr.alloc (.cells #[.string nm0, .int .i64 (kk : Int)] 58)).alloc (.cells #[.slice ai dd.length ci, .int .i64 sf] 56) = W8 at HLE HC8 HA8 CALL n0 n1 o0 ⊢
              simp only [HK1.out]
              clear y0a g0a g1a
              go_region_law (first
                | (refine step_call_one 25 run_enterB (.tmp 90) #[28] (by rfl) (by rfl) (.slice ai kp ci) (by rfl) ?_; refine (CALL.out _ ?_ ?_ ?_ ?_).mono ?_; (exact rfl); (exact rfl); (exact rfl); (exact rfl); rintro e w9 ⟨a9, c9, rfl, hkn, ha, p1, l2⟩; have HKN := hide hkn; have HA := hide ha; clear hkn ha; refine ⟨_, rfl, ?_⟩)
                | (refine step_append_node _ (by rfl) (.tmp 86) (.tmp 94) (by rfl) (w5.heap.size + 1) v1 vs N0 (.slice a9 R.length c9) R (kp : Int) w9.heap.size 1 (by rfl) (by rfl) ?_ ?_ ?_ ?_ ?_ ?_ ?_ ?_; (refine (HA.out _ ?_ ?_ ?_ ?_).n <;> rfl); (refine (HA.out _ ?_ ?_ ?_ ?_).c0 <;> rfl); (refine (HA.out _ ?_ ?_ ?_ ?_).c1 <;> rfl); (refine (HA.out _ ?_ ?_ ?_ ?_).ow <;> rfl); (exact HKN.out); (exact hNb); (refine (HA.out _ ?_ ?_ ?_ ?_).sz <;> rfl); intro v9 w10 ho9 hg9; have hz := n_next HA.out ho9 hg9; obtain ⟨a10, c10, rfl⟩ := ho9.slice; have p3 := hz.2.1; have f3 := hz.2.2.1))
              all_goals
                have hE11 : Laid (w10.setCell ⟨w5.heap.size, 0, none⟩ (.slice a10 (N0 ++ [(R, (kp : Int))]).length c10)) wr.heap.size #[.string nm0, .int .i64 (kk : Int)] 58 := Laid.other ((hz.2.2.2 _ HLE.out.lt (fun e => by have := HV1.out _ e; omega)).trans HLE.out) (by show wr.heap.size ≠ w5.heap.size; have := HSZ.out; omega) _
                have HC11 := hide hz.1
                rw [show (N0 ++ [(R, (kp : Int))]).length = N0.length + 1 from by simp] at hE11 HC11
                clear hz p3 f3 HA HKN p1 l2 hg9 ho9
                generalize w10.setCell ⟨w5.heap.size, 0, none⟩ (.slice a10 (N0.length + 1) c10) = W11 at hE11 HC11 ⊢
                have e0 := hE11.cell 0
                have b1 := HC11.out.box.cell 1
                have A11 := hide (HC11.out.app (nm0, (j : Int)))
                have HE11 := hide hE11
                clear hE11 n0 n1 o0 HLE HC8 HA8 CALL
                obtain ⟨x2, cx2, rfl⟩ := HC11.out.e.slice
                obtain ⟨x3, cx3, rfl⟩ := HC11.out.k.slice
                go_wp2_with (first
                  | (at_builtin; refine wpList_append_entry_at _ rfl (.tmp 98) (.tmp 103) rfl (w5.heap.size + 1) (.slice x2 E0.length cx2) E0 (nm0, (j : Int)) W11.heap.size 1 rfl rfl ?_ ?_ ?_ hEb ?_ ?_; (exact A11.out.2.1); (exact A11.out.2.2.2.1); (exact A11.out.2.2.2.2.1); (exact A11.out.2.2.2.2.2); intro v12 w12 ho12 hg12 hat12; have hq := HC11.out.appE ho12 hg12 hat12; obtain ⟨a12, c12, rfl⟩ := ho12.slice; have q1 := hq.2.1; have q2 := hq.2.2.1; have q3 := hq.2.2.2.1; have q4 : w12.cell? ⟨wr.heap.size, 0, none⟩ = some (.string nm0) := (Laid.cell (show Laid w12 wr.heap.size #[.string nm0, .int .i64 (kk : Int)] 58 from (hq.2.2.2.2.2 _ HE11.out.lt (fun e => by have := HV2.out _ e; omega)).trans HE11.out) 0); have HQ := hide hq.1; rw [show (E0 ++ [(nm0, (j : Int))]).length = E0.length + 1 from by simp] at HQ; have AQ := hide (HQ.out.app (nm0, (j : Int))); rw [show (w12.setCell ⟨w5.heap.size, 1, none⟩ (.slice a12 (E0.length + 1) c12)).heap.size = w12.heap.size from by simp] at AQ; clear hq ho12 hg12 hat12 b1 e0)
                  | (at_builtin; refine wpList_append_entry_at _ rfl (.tmp 107) (.tmp 112) rfl (w5.heap.size + 1) (.slice x3 E0.length cx3) E0 (nm0, (j : Int)) w12.heap.size 1 rfl rfl ?_ ?_ ?_ hEb ?_ ?_; (exact AQ.out.2.2.1); (exact AQ.out.2.2.2.1); (exact AQ.out.2.2.2.2.1); (exact AQ.out.2.2.2.2.2); intro v14 w14 ho14 hg14 hat14; have hs := HQ.out.appK ho14 hg14 hat14; obtain ⟨a14, c14, rfl⟩ := ho14.slice; have s1 := hs.2.1; have s2 := hs.2.2; have HS := hide hs.1; rw [show (E0 ++ [(nm0, (j : Int))]).length = E0.length + 1 from by simp] at HS; clear hs ho14 hg14 hat14 q1 q2 q3 q4)
                  | go_in)
                exact ⟨⟨j + 1, _, _, _, _, by omega, by go_num, by rw [HSN.out, HSE.out]; exact HS.out⟩, by simp [intOf]; omega⟩
            · have hpi : (0 : Int) < (picks.length : Int) := by omega
              have hne0 : ¬ (picks.length : Int) = 0 := by omega
              have hcp8 := (HA8.out.cell (p := ⟨b2, off2 + j % picks.length, none⟩) (lt_of_cell0 hcp)).trans hcp
              have hmlt : j % picks.length < picks.length := Nat.mod_lt j hp0
              have hmod : ((j : Int) % (picks.length : Int)) = ((j % picks.length : Nat) : Int) := by omega
              generalize j % picks.length = mm at hcp8 hmlt hmod
              clear hcp hp0
              rcases hpp with ⟨hpn, hkp1⟩ | ⟨hpn, hkp3⟩
              · have hpn' : ¬ (0 : Int) < p := by omega
                have HK1 := hide hkp1.symm
                clear hkp1 hpn
                go_wp2
                generalize (wr.alloc (.cells #[.string nm0, .int .i64 (kk : Int)] 58)).alloc (.cells #[.slice ai dd.length ci, .int .i64 sf] 56) = W8 at HLE HC8 HA8 CALL n0 n1 o0 hcp8 ⊢
                simp only [HK1.out]
                clear y0a g0a g1a hcp8
                go_region_law (first
                  | (refine step_call_one 25 run_enterB (.tmp 90) #[28] (by rfl) (by rfl) (.slice ai kp ci) (by rfl) ?_; refine (CALL.out _ ?_ ?_ ?_ ?_).mono ?_; (exact rfl); (exact rfl); (exact rfl); (exact rfl); rintro e w9 ⟨a9, c9, rfl, hkn, ha, p1, l2⟩; have HKN := hide hkn; have HA := hide ha; clear hkn ha; refine ⟨_, rfl, ?_⟩)
                  | (refine step_append_node _ (by rfl) (.tmp 86) (.tmp 94) (by rfl) (w5.heap.size + 1) v1 vs N0 (.slice a9 R.length c9) R (kp : Int) w9.heap.size 1 (by rfl) (by rfl) ?_ ?_ ?_ ?_ ?_ ?_ ?_ ?_; (refine (HA.out _ ?_ ?_ ?_ ?_).n <;> rfl); (refine (HA.out _ ?_ ?_ ?_ ?_).c0 <;> rfl); (refine (HA.out _ ?_ ?_ ?_ ?_).c1 <;> rfl); (refine (HA.out _ ?_ ?_ ?_ ?_).ow <;> rfl); (exact HKN.out); (exact hNb); (refine (HA.out _ ?_ ?_ ?_ ?_).sz <;> rfl); intro v9 w10 ho9 hg9; have hz := n_next HA.out ho9 hg9; obtain ⟨a10, c10, rfl⟩ := ho9.slice; have p3 := hz.2.1; have f3 := hz.2.2.1))
                all_goals
                  have hE11 : Laid (w10.setCell ⟨w5.heap.size, 0, none⟩ (.slice a10 (N0 ++ [(R, (kp : Int))]).length c10)) wr.heap.size #[.string nm0, .int .i64 (kk : Int)] 58 := Laid.other ((hz.2.2.2 _ HLE.out.lt (fun e => by have := HV1.out _ e; omega)).trans HLE.out) (by show wr.heap.size ≠ w5.heap.size; have := HSZ.out; omega) _
                  have HC11 := hide hz.1
                  rw [show (N0 ++ [(R, (kp : Int))]).length = N0.length + 1 from by simp] at hE11 HC11
                  clear hz p3 f3 HA HKN p1 l2 hg9 ho9
                  generalize w10.setCell ⟨w5.heap.size, 0, none⟩ (.slice a10 (N0.length + 1) c10) = W11 at hE11 HC11 ⊢
                  have e0 := hE11.cell 0
                  have b1 := HC11.out.box.cell 1
                  have A11 := hide (HC11.out.app (nm0, (j : Int)))
                  have HE11 := hide hE11
                  clear hE11 n0 n1 o0 HLE HC8 HA8 CALL
                  obtain ⟨x2, cx2, rfl⟩ := HC11.out.e.slice
                  obtain ⟨x3, cx3, rfl⟩ := HC11.out.k.slice
                  go_wp2_with (first
                    | (at_builtin; refine wpList_append_entry_at _ rfl (.tmp 98) (.tmp 103) rfl (w5.heap.size + 1) (.slice x2 E0.length cx2) E0 (nm0, (j : Int)) W11.heap.size 1 rfl rfl ?_ ?_ ?_ hEb ?_ ?_; (exact A11.out.2.1); (exact A11.out.2.2.2.1); (exact A11.out.2.2.2.2.1); (exact A11.out.2.2.2.2.2); intro v12 w12 ho12 hg12 hat12; have hq := HC11.out.appE ho12 hg12 hat12; obtain ⟨a12, c12, rfl⟩ := ho12.slice; have q1 := hq.2.1; have q2 := hq.2.2.1; have q3 := hq.2.2.2.1; have q4 : w12.cell? ⟨wr.heap.size, 0, none⟩ = some (.string nm0) := (Laid.cell (show Laid w12 wr.heap.size #[.string nm0, .int .i64 (kk : Int)] 58 from (hq.2.2.2.2.2 _ HE11.out.lt (fun e => by have := HV2.out _ e; omega)).trans HE11.out) 0); have HQ := hide hq.1; rw [show (E0 ++ [(nm0, (j : Int))]).length = E0.length + 1 from by simp] at HQ; have AQ := hide (HQ.out.app (nm0, (j : Int))); rw [show (w12.setCell ⟨w5.heap.size, 1, none⟩ (.slice a12 (E0.length + 1) c12)).heap.size = w12.heap.size from by simp] at AQ; clear hq ho12 hg12 hat12 b1 e0)
                    | (at_builtin; refine wpList_append_entry_at _ rfl (.tmp 107) (.tmp 112) rfl (w5.heap.size + 1) (.slice x3 E0.length cx3) E0 (nm0, (j : Int)) w12.heap.size 1 rfl rfl ?_ ?_ ?_ hEb ?_ ?_; (exact AQ.out.2.2.1); (exact AQ.out.2.2.2.1); (exact AQ.out.2.2.2.2.1); (exact AQ.out.2.2.2.2.2); intro v14 w14 ho14 hg14 hat14; have hs := HQ.out.appK ho14 hg14 hat14; obtain ⟨a14, c14, rfl⟩ := ho14.slice; have s1 := hs.2.1; have s2 := hs.2.2; have HS := hide hs.1; rw [show (E0 ++ [(nm0, (j : Int))]).length = E0.length + 1 from by simp] at HS; clear hs ho14 hg14 hat14 q1 q2 q3 q4)
                    | go_in)
                  exact ⟨⟨j + 1, _, _, _, _, by omega, by go_num, by rw [HSN.out, HSE.out]; exact HS.out⟩, by simp [intOf]; omega⟩
              · have hkb0 : 0 ≤ sf + p % ((dd.length : Int) - sf + 1) := by rw [← hkp3]; omega
                have hkb1 : sf + p % ((dd.length : Int) - sf + 1) ≤ 40000 := by rw [← hkp3]; omega
                have hdz : ¬ (dd.length : Int) - sf + 1 = 0 := by omega
                have HK1 := hide hkp3.symm
                clear hkp3
                go_wp2
                generalize (wr.alloc (.cells #[.string nm0, .int .i64 (kk : Int)] 58)).alloc (.cells #[.slice ai dd.length ci, .int .i64 sf] 56) = W8 at HLE HC8 HA8 CALL n0 n1 o0 hcp8 ⊢
                rw [HK1.out]
                clear y0a g0a g1a hcp8
                go_region_law (first
                  | (refine step_call_one 25 run_enterB (.tmp 90) #[28] (by rfl) (by rfl) (.slice ai kp ci) (by rfl) ?_; refine (CALL.out _ ?_ ?_ ?_ ?_).mono ?_; (exact rfl); (exact rfl); (exact rfl); (exact rfl); rintro e w9 ⟨a9, c9, rfl, hkn, ha, p1, l2⟩; have HKN := hide hkn; have HA := hide ha; clear hkn ha; refine ⟨_, rfl, ?_⟩)
                  | (refine step_append_node _ (by rfl) (.tmp 86) (.tmp 94) (by rfl) (w5.heap.size + 1) v1 vs N0 (.slice a9 R.length c9) R (kp : Int) w9.heap.size 1 (by rfl) (by rfl) ?_ ?_ ?_ ?_ ?_ ?_ ?_ ?_; (refine (HA.out _ ?_ ?_ ?_ ?_).n <;> rfl); (refine (HA.out _ ?_ ?_ ?_ ?_).c0 <;> rfl); (refine (HA.out _ ?_ ?_ ?_ ?_).c1 <;> rfl); (refine (HA.out _ ?_ ?_ ?_ ?_).ow <;> rfl); (exact HKN.out); (exact hNb); (refine (HA.out _ ?_ ?_ ?_ ?_).sz <;> rfl); intro v9 w10 ho9 hg9; have hz := n_next HA.out ho9 hg9; obtain ⟨a10, c10, rfl⟩ := ho9.slice; have p3 := hz.2.1; have f3 := hz.2.2.1))
                all_goals
                  have hE11 : Laid (w10.setCell ⟨w5.heap.size, 0, none⟩ (.slice a10 (N0 ++ [(R, (kp : Int))]).length c10)) wr.heap.size #[.string nm0, .int .i64 (kk : Int)] 58 := Laid.other ((hz.2.2.2 _ HLE.out.lt (fun e => by have := HV1.out _ e; omega)).trans HLE.out) (by show wr.heap.size ≠ w5.heap.size; have := HSZ.out; omega) _
                  have HC11 := hide hz.1
                  rw [show (N0 ++ [(R, (kp : Int))]).length = N0.length + 1 from by simp] at hE11 HC11
                  clear hz p3 f3 HA HKN p1 l2 hg9 ho9
                  generalize w10.setCell ⟨w5.heap.size, 0, none⟩ (.slice a10 (N0.length + 1) c10) = W11 at hE11 HC11 ⊢
                  have e0 := hE11.cell 0
                  have b1 := HC11.out.box.cell 1
                  have A11 := hide (HC11.out.app (nm0, (j : Int)))
                  have HE11 := hide hE11
                  clear hE11 n0 n1 o0 HLE HC8 HA8 CALL
                  obtain ⟨x2, cx2, rfl⟩ := HC11.out.e.slice
                  obtain ⟨x3, cx3, rfl⟩ := HC11.out.k.slice
                  go_wp2_with (first
                    | (at_builtin; refine wpList_append_entry_at _ rfl (.tmp 98) (.tmp 103) rfl (w5.heap.size + 1) (.slice x2 E0.length cx2) E0 (nm0, (j : Int)) W11.heap.size 1 rfl rfl ?_ ?_ ?_ hEb ?_ ?_; (exact A11.out.2.1); (exact A11.out.2.2.2.1); (exact A11.out.2.2.2.2.1); (exact A11.out.2.2.2.2.2); intro v12 w12 ho12 hg12 hat12; have hq := HC11.out.appE ho12 hg12 hat12; obtain ⟨a12, c12, rfl⟩ := ho12.slice; have q1 := hq.2.1; have q2 := hq.2.2.1; have q3 := hq.2.2.2.1; have q4 : w12.cell? ⟨wr.heap.size, 0, none⟩ = some (.string nm0) := (Laid.cell (show Laid w12 wr.heap.size #[.string nm0, .int .i64 (kk : Int)] 58 from (hq.2.2.2.2.2 _ HE11.out.lt (fun e => by have := HV2.out _ e; omega)).trans HE11.out) 0); have HQ := hide hq.1; rw [show (E0 ++ [(nm0, (j : Int))]).length = E0.length + 1 from by simp] at HQ; have AQ := hide (HQ.out.app (nm0, (j : Int))); rw [show (w12.setCell ⟨w5.heap.size, 1, none⟩ (.slice a12 (E0.length + 1) c12)).heap.size = w12.heap.size from by simp] at AQ; clear hq ho12 hg12 hat12 b1 e0)
                    | (at_builtin; refine wpList_append_entry_at _ rfl (.tmp 107) (.tmp 112) rfl (w5.heap.size + 1) (.slice x3 E0.length cx3) E0 (nm0, (j : Int)) w12.heap.size 1 rfl rfl ?_ ?_ ?_ hEb ?_ ?_; (exact AQ.out.2.2.1); (exact AQ.out.2.2.2.1); (exact AQ.out.2.2.2.2.1); (exact AQ.out.2.2.2.2.2); intro v14 w14 ho14 hg14 hat14; have hs := HQ.out.appK ho14 hg14 hat14; obtain ⟨a14, c14, rfl⟩ := ho14.slice; have s1 := hs.2.1; have s2 := hs.2.2; have HS := hide hs.1; rw [show (E0 ++ [(nm0, (j : Int))]).length = E0.length + 1 from by simp] at HS; clear hs ho14 hg14 hat14 q1 q2 q3 q4)
                    | go_in)
                  exact ⟨⟨j + 1, _, _, _, _, by omega, by go_num, by rw [HSN.out, HSE.out]; exact HS.out⟩, by simp [intOf]; omega⟩
          · obtain rfl : j = es.length := by omega
            obtain ⟨x1, cx1, rfl⟩ := HC.out.n.slice
            obtain ⟨x2, cx2, rfl⟩ := HC.out.e.slice
            obtain ⟨x3, cx3, rfl⟩ := HC.out.k.slice
            have b0 := HC.out.box.cell 0
            have b1 := HC.out.box.cell 1
            have b2 := HC.out.box.cell 2
            have b3 := HC.out.box.cell 3
            have b4 := HC.out.box.cell 4
            have hCr : Laid wr (w.heap.size + 1) #[.slice none 0 0, .slice none 0 0, .slice none 0 0, .slice none 0 0, .int .i64 0] 36 := (C2.out.below HXV.out (by omega)).below hbv (by omega)
            have f0 := frozen_of_row wr (w.heap.size + 1) 0 _ _ hCr
            have f1 := frozen_of_row wr (w.heap.size + 1) 1 _ _ hCr
            have f2 := frozen_of_row wr (w.heap.size + 1) 2 _ _ hCr
            have f3 := frozen_of_row wr (w.heap.size + 1) 3 _ _ hCr
            have f4 := frozen_of_row wr (w.heap.size + 1) 4 _ _ hCr
            have z0 := hCr.cell 0
            have z1 := hCr.cell 1
            have z2 := hCr.cell 2
            have z3 := hCr.cell 3
            have z4 := hCr.cell 4
            have HCR := hide hCr
            simp only [outN_length, outE_length] at b0 b1 b2 HC
            have HL := hide HXW.out
            clear hCr hbv hlt
            go_wp2
            exact bodyPost_ret (ret_disk (w.heap.size + 1) _ _ _ _ _ _ rfl rfl (set_disk _ _ _ _ _ HCR.out)) rfl (disk_yes HR'.out HC.out (by omega) (by omega) HL.out rfl)
end Go.Proofs.Ytledlicandlekab
namespace Go.Proofs.Ytledlicandlekab
open Go.RowKit
theorem IntAt.drew {w : World} {a : Option Addr} {l : List Int} (h : IntAt w a l) (n : Nat) : IntAt (w.drewN n) a l := h
theorem quiet_zero {P : Program} {f : FuncId} {args : Array Value} {w : World} {x : Nat} {v : Value} (h : Calls P f args (w.drewN x) fun e w' => e = .returned v ∧ w' = w.drewN x) : Calls P f args (w.drewN x) fun e w'' => e = .returned v ∧ ∃ n, w'' = w.drewN n :=
  h.mono fun _ _ ⟨he, hm⟩ => ⟨he, x, hm⟩
theorem at_world {F : World → Prop} {wr : World} {k : Nat} (h : ∀ W, W = wr.drewN k → F W) : F (wr.drewN k) := h _ rfl
theorem drewN_below {w w1 : World} {n : Nat} (h : w1 = w.drewN n) : Below w.heap.size w w1 := by rw [h]; exact below_drewN (Below.refl _ _) n
set_option maxRecDepth 20000 in
set_option maxHeartbeats 4000000 in
theorem implCrash_any (v : Value) (D : MDisk) (dirs : Int) (ap : Option Addr) (cp : Nat) (picks : List Int) (w : World) (hM : Modest D) (hw : ∀ o ∈ D.pend, (Lit.int .i64 o.2.2.2).wf = true) (hd : DiskAt w v D) (hcp : DiskCap w v D) (hpl : picks.length ≤ 1048576) (hpk : IntAt w ap picks) :
    Calls Try.prog 16 #[v, .int .i64 dirs, .slice ap picks.length cp] w (DiskPost (crOf D dirs picks) w) := by
  have HAT := hide (fun w' (hb : Below w.heap.size w w') => hd.below hb)
  have HPK := hide (fun w' (hb : Below w.heap.size w w') => hpk.below hb)
  obtain ⟨a1, m1, c1, xx2, xx3, a4, m4, c4, xx5, rfl, hcap, hpcap⟩ := hcp
  have HCAP := hide (fun w' (hb : Below w.heap.size w w') => hcap.below hb)
  obtain ⟨z1, n1, d1, a2, m2, c2, a3, m3, c3, z4, n4, d4, q, hv⟩ := hd.shape
  clear hd hpk hcap
  simp only [Value.agg.injEq, Array.mk.injEq, List.cons.injEq, Value.slice.injEq, and_true] at hv
  obtain ⟨⟨rfl, rfl, rfl⟩, rfl, rfl, ⟨rfl, rfl, rfl⟩, rfl⟩ := hv
  have hA : Below w.heap.size w ((w.alloc (.cells #[.slice a1 m1 c1, .slice a2 m2 c2, .slice a3 m3 c3, .slice a4 m4 c4, .int .i64 q] 36)).alloc (.cells #[.slice none 0 0, .slice none 0 0, .slice none 0 0, .slice none 0 0, .int .i64 0] 36)) := ((Below.refl _ _).alloc (Nat.le_refl _) _).alloc (by simp) _
  have hz : ((w.alloc (.cells #[.slice a1 m1 c1, .slice a2 m2 c2, .slice a3 m3 c3, .slice a4 m4 c4, .int .i64 q] 36)).alloc (.cells #[.slice none 0 0, .slice none 0 0, .slice none 0 0, .slice none 0 0, .int .i64 0] 36)).heap.size = w.heap.size + 2 := by simp
  have L0 : Laid ((w.alloc (.cells #[.slice a1 m1 c1, .slice a2 m2 c2, .slice a3 m3 c3, .slice a4 m4 c4, .int .i64 q] 36)).alloc (.cells #[.slice none 0 0, .slice none 0 0, .slice none 0 0, .slice none 0 0, .int .i64 0] 36)) w.heap.size #[.slice a1 m1 c1, .slice a2 m2 c2, .slice a3 m3 c3, .slice a4 m4 c4, .int .i64 q] 36 := Laid.below (B := w.heap.size + 1) (Laid.new w _ _) ((Below.refl _ _).alloc (by simp) _) (by omega)
  have C0 := Laid.new (w.alloc (.cells #[.slice a1 m1 c1, .slice a2 m2 c2, .slice a3 m3 c3, .slice a4 m4 c4, .int .i64 q] 36)) #[.slice none 0 0, .slice none 0 0, .slice none 0 0, .slice none 0 0, .int .i64 0] 36
  rw [show (w.alloc (.cells #[.slice a1 m1 c1, .slice a2 m2 c2, .slice a3 m3 c3, .slice a4 m4 c4, .int .i64 q] 36)).heap.size = w.heap.size + 1 from World.size_alloc ..] at C0
  have HM := hide hM
  have HW := hide hw
  clear hM hw
  go_enter Try.func16, Try.ntmps16
  go_wp2_with fail
  generalize (w.alloc (.cells #[.slice a1 m1 c1, .slice a2 m2 c2, .slice a3 m3 c3, .slice a4 m4 c4, .int .i64 q] 36)).alloc (.cells #[.slice none 0 0, .slice none 0 0, .slice none 0 0, .slice none 0 0, .int .i64 0] 36) = w0 at hA L0 C0 hz ⊢
  refine (implValid_v (HAT.out w0 hA) HM.out HW.out).mono ?_
  rintro e w1 ⟨r, rfl, hrr, hb1⟩
  have HB1 := hide (hA.trans (hb1.mono hA.size))
  have L1 := L0.below hb1 L0.lt
  have C1 := C0.below hb1 C0.lt
  have hsz1 : w.heap.size + 2 ≤ w1.heap.size := by have := hb1.size; omega
  have f0 : w1.frozen? ⟨w.heap.size + 1, 0, none⟩ = false := frozen_of_row w1 (w.heap.size + 1) 0 _ _ C1
  have f1 : w1.frozen? ⟨w.heap.size + 1, 1, none⟩ = false := frozen_of_row w1 (w.heap.size + 1) 1 _ _ C1
  have f2 : w1.frozen? ⟨w.heap.size + 1, 2, none⟩ = false := frozen_of_row w1 (w.heap.size + 1) 2 _ _ C1
  have f3 : w1.frozen? ⟨w.heap.size + 1, 3, none⟩ = false := frozen_of_row w1 (w.heap.size + 1) 3 _ _ C1
  have f4 : w1.frozen? ⟨w.heap.size + 1, 4, none⟩ = false := frozen_of_row w1 (w.heap.size + 1) 4 _ _ C1
  cases r with
  | false =>
    have HR := hide (crOf_no (dirs := dirs) (picks := picks) (fun h => by have := hrr.2 h; cases this))
    have z0 : w1.cell? ⟨w.heap.size + 1, 0, none⟩ = some (.slice none 0 0) := C1.cell 0
    have z1 : w1.cell? ⟨w.heap.size + 1, 1, none⟩ = some (.slice none 0 0) := C1.cell 1
    have z2 : w1.cell? ⟨w.heap.size + 1, 2, none⟩ = some (.slice none 0 0) := C1.cell 2
    have z3 : w1.cell? ⟨w.heap.size + 1, 3, none⟩ = some (.slice none 0 0) := C1.cell 3
    have z4 : w1.cell? ⟨w.heap.size + 1, 4, none⟩ = some (.int .i64 0) := C1.cell 4
    have HC := hide C1
    clear hA L0 C0 hb1 L1 C1 hrr
    go_wp2
    exact bodyPost_ret (ret_disk (w.heap.size + 1) _ _ _ _ _ _ rfl rfl (set_disk _ _ _ _ _ HC.out)) rfl (disk_no HR.out (by omega) HB1.out)
  | true =>
    have HV := hide (hrr.1 rfl)
    have HR := hide (crOf_yes (dirs := dirs) (picks := picks) (hrr.1 rfl))
    have t0 : w1.cell? ⟨w.heap.size, 0, none⟩ = some (.slice a1 m1 c1) := L1.cell 0
    have t2 : w1.cell? ⟨w.heap.size, 2, none⟩ = some (.slice a3 m3 c3) := L1.cell 2
    have t3 : w1.cell? ⟨w.heap.size, 3, none⟩ = some (.slice a4 m4 c4) := L1.cell 3
    have t4 : w1.cell? ⟨w.heap.size, 4, none⟩ = some (.int .i64 q) := L1.cell 4
    obtain ⟨e1, k1, e2, k2, e3, k3, e4, k4, hsh, r1, r2, r3, r4⟩ := HAT.out w1 HB1.out
    simp only [Value.agg.injEq, Array.mk.injEq, List.cons.injEq, Value.slice.injEq, Value.int.injEq, and_true, true_and] at hsh
    obtain ⟨⟨rfl, rfl, rfl⟩, ⟨rfl, rfl, rfl⟩, ⟨rfl, rfl, rfl⟩, ⟨rfl, rfl, rfl⟩, rfl⟩ := hsh
    have hfk := fine_kept HV.out HM.out
    have hkl := hfk.ln
    have hpl4 : D.pend.length ≤ 1000 := HV.out.2.2.1
    have hnl : D.nodes.length ≤ 600 := okNodes_len HV.out.2.2.2.1
    have L1' := hide L1
    have C1' := hide C1
    have HR1 := hide r1
    have HR4 := hide r4
    have LO := hide (listingOf_any a3 c3 D.kept w1 (by omega) hfk.sz (fun e he => wf_node (hfk.nd e he).1 (by have := (hfk.nd e he).2; omega)) hfk.ap r3)
    have FO := hide (fun W => firstOf_any a4 c4 D.pend.length dirs W (by omega) hpcap)
    clear hA L0 C0 hb1 L1 C1 hrr r1 r2 r3 r4 hfk f0 f1 f2 f3 f4 hpcap
    go_wp2_with fail
    refine LO.out.mono ?_
    rintro e w2 ⟨b1, b2, rfl, hl1, hl2, hLs, hb2⟩
    have hAl := (Below.refl w2.heap.size w2).alloc (Nat.le_refl _) (.cells #[.map (some b1), .map (some b2)] 80)
    have hbA := hb2.trans (hAl.mono hb2.size)
    have NL := hide (Laid.new w2 #[.map (some b1), .map (some b2)] 80)
    have HLs := hide (hLs.below hAl hLs.lt.1 hLs.lt.2)
    have hlt2 := hLs.lt
    have L2 := hide (L1'.out.below hbA L1'.out.lt)
    have HBA := hide hbA
    have x3 := L2.out.cell 3
    have hs12 := hb2.size
    unfold lstV
    clear LO hLs hb2 hAl hbA t0 t2 t3 t4
    go_wp2_with fail
    generalize w2.alloc (.cells #[.map (some b1), .map (some b2)] 80) = W3 at NL HLs L2 HBA x3 ⊢
    refine (FO.out W3).mono ?_
    rintro e W3' ⟨rfl, rfl⟩
    have HMN := hide (show min dirs.toNat D.pend.length ≤ D.pend.length from Nat.min_le_right _ _)
    have HPM := hide (pre_min2 (nodes := (D.nodes.length : Int)) (es := D.kept) (ops := D.pend) dirs.toNat)
    generalize min dirs.toNat D.pend.length = n0 at HMN HPM ⊢
    have hn0 := HMN.out
    clear FO x3
    go_wp2
    go_loopw [9, 27] (fun _ i wv => ∃ k : Nat, k ≤ n0 ∧ i = .int .i64 (k : Int) ∧ LstAt wv b1 b2 (D.kept.length + k) (preE (D.nodes.length : Int) D.kept D.pend k) ∧ Laid wv w2.heap.size #[.map (some b1), .map (some b2)] 80 ∧ Below w1.heap.size w1 wv) (fun _ i _ => n0 - (intOf i).toNat)
    case atStart => exact ⟨0, Nat.zero_le _, rfl, by rw [preE_zero]; exact HLs.out, NL.out, HBA.out⟩
    case round =>
      obtain ⟨k, hk, rfl, hls, hnl1, hbv⟩ := hrel
      have HL := hide hls
      have HJ1 := hide hnl1
      have HBV := hide hbv
      have hJ0 := L1'.out.below hbv L1'.out.lt
      have u0 : wr.cell? ⟨w.heap.size, 0, none⟩ = some (.slice a1 D.nodes.length c1) := hJ0.cell 0
      have u4 : wr.cell? ⟨w.heap.size, 4, none⟩ = some (.int .i64 D.quota) := hJ0.cell 4
      have m0 : wr.cell? ⟨w2.heap.size, 0, none⟩ = some (.map (some b1)) := hnl1.cell 0
      have m1 : wr.cell? ⟨w2.heap.size, 1, none⟩ = some (.map (some b2)) := hnl1.cell 1
      have hltv := hls.lt
      have hlt1 := hnl1.lt
      have hbvs := hbv.size
      have HFN := hide (fine_pre HV.out HM.out k)
      clear hls hnl1 hbv HLs NL HBA L2 hJ0
      by_cases hlt : k < n0
      · obtain ⟨b, off, rfl, hc⟩ := (HR4.out.below HBV.out) (by omega)
        obtain ⟨d0, d1, d2, d3⟩ := hc k (by omega)
        have hkp : k < D.pend.length := by omega
        obtain ⟨hz1, hz2⟩ := HM.out.s4 _ (List.getElem_mem hkp)
        have hwf := HW.out _ (List.getElem_mem hkp)
        have hst := preE_step k hkp HV.out.2.2.2.2.2.2
        have HST := hide hst
        clear hc hst u4
        generalize hoo : D.pend[k] = oo at d0 d1 d2 d3 hz1 hz2 hwf HST
        obtain ⟨kd, onm, oto, ond⟩ := oo
        clear hoo
        simp only at d0 d1 d2 d3 hz1 hz2 hwf
        have hAo := (Below.refl wr.heap.size wr).alloc (Nat.le_refl _) (.cells #[.int .i64 kd, .string onm, .string oto, .int .i64 ond] 74)
        have HRE := hide (replay_list b1 b2 (D.kept.length + k) _ kd onm oto ond (D.nodes.length : Int) _ hz1 hz2 (by omega) hwf (HL.out.below hAo hltv.1 hltv.2) HFN.out.ap)
        rw [HST.out] at HRE
        unfold lstV at HRE
        have HJ1a := hide (HJ1.out.below hAo HJ1.out.lt)
        have HXA := hide (HBV.out.trans (hAo.mono HBV.out.size))
        have u0a : (wr.alloc (.cells #[.int .i64 kd, .string onm, .string oto, .int .i64 ond] 74)).cell? ⟨w.heap.size, 0, none⟩ = some (.slice a1 D.nodes.length c1) := (hAo.cell (p := ⟨w.heap.size, 0, none⟩) (lt_of_cell0 u0)).trans u0
        have m0a : (wr.alloc (.cells #[.int .i64 kd, .string onm, .string oto, .int .i64 ond] 74)).cell? ⟨w2.heap.size, 0, none⟩ = some (.map (some b1)) := HJ1a.out.cell 0
        have m1a : (wr.alloc (.cells #[.int .i64 kd, .string onm, .string oto, .int .i64 ond] 74)).cell? ⟨w2.heap.size, 1, none⟩ = some (.map (some b2)) := HJ1a.out.cell 1
        have hsA : (wr.alloc (.cells #[.int .i64 kd, .string onm, .string oto, .int .i64 ond] 74)).heap.size = wr.heap.size + 1 := World.size_alloc ..
        clear hAo HL HJ1 HBV
        go_wp2_with fail
        generalize wr.alloc (.cells #[.int .i64 kd, .string onm, .string oto, .int .i64 ond] 74) = W5 at HRE HJ1a HXA u0a m0a m1a hsA ⊢
        refine (HRE.out).mono ?_
        rintro e w6 ⟨rfl, hl6, hof6⟩
        have HJ6 := hide (HJ1a.out.off hof6 (by omega) (by omega))
        have HL6 := hide hl6
        have HX6 := hide (HXA.out.trans (hof6.below (B := w1.heap.size) hl1 hl2 (by omega)))
        clear hl6 hof6 HRE u0 m0 m1 d0 d1 d2 d3 u0a m0a m1a HXA HJ1a
        go_wp2
        go_roundw
        case rel => exact ⟨k + 1, by omega, by go_num, HL6.out, HJ6.out, HX6.out⟩
        case measure => simp [intOf]; omega
      · obtain rfl : k = n0 := by omega
        rw [HPM.out] at HL HFN
        have hel := HFN.out.ln
        have HR' := hide (show crOf D dirs picks = ⟨outN D.nodes picks (preE (D.nodes.length : Int) D.kept D.pend dirs.toNat) (preE (D.nodes.length : Int) D.kept D.pend dirs.toNat).length, outE (preE (D.nodes.length : Int) D.kept D.pend dirs.toNat) (preE (D.nodes.length : Int) D.kept D.pend dirs.toNat).length, outE (preE (D.nodes.length : Int) D.kept D.pend dirs.toNat) (preE (D.nodes.length : Int) D.kept D.pend dirs.toNat).length, [], D.quota⟩ from HR.out)
        generalize preE (D.nodes.length : Int) D.kept D.pend dirs.toNat = es at HL HFN hel HR'
        obtain ⟨w5, e5⟩ : ∃ x, x = wr := ⟨wr, rfl⟩
        subst e5
        have hcs := CrL.start w5 D.quota
        have hA7 := (Below.refl w5.heap.size w5).alloc (Nat.le_refl _) (.cells #[.slice none 0 0, .slice none 0 0, .slice none 0 0, .slice none 0 0, .int .i64 D.quota] 36)
        have EN := hide (entries_holds b1 b2 (D.kept.length + k) es _ (by omega) hel HFN.out.ap HFN.out.so HFN.out.sz (HL.out.below hA7 hltv.1 hltv.2))
        unfold lstV at EN
        have m0a := (hA7.cell (p := ⟨w2.heap.size, 0, none⟩) (lt_of_cell0 m0)).trans m0
        have m1a := (hA7.cell (p := ⟨w2.heap.size, 1, none⟩) (lt_of_cell0 m1)).trans m1
        have HXW := hide (HB1.out.trans (HBV.out.mono HB1.out.size))
        have HCS := hide hcs
        have hszv : w.heap.size + 2 ≤ w5.heap.size := by omega
        have hz7 : (w5.alloc (.cells #[.slice none 0 0, .slice none 0 0, .slice none 0 0, .slice none 0 0, .int .i64 D.quota] 36)).heap.size = w5.heap.size + 1 := World.size_alloc ..
        clear hA7 hcs HR HL HJ1 HR4
        go_wp2_with fail
        generalize w5.alloc (.cells #[.slice none 0 0, .slice none 0 0, .slice none 0 0, .slice none 0 0, .int .i64 D.quota] 36) = W7 at EN HCS m0a m1a hz7 ⊢
        refine EN.out.mono ?_
        rintro e w8 ⟨ve, rfl, hoe, hb8⟩
        obtain ⟨ae, ce, rfl⟩ := hoe.slice
        have HC8 := hide (HCS.out.below hb8)
        rw [hz7] at hoe
        have HOE := hide hoe
        clear EN HCS hb8 hoe m0 m1 m0a m1a u0 u4 hz7
        go_wp2
        clear hlt hk
        go_loopw [11, 12, 13, 14, 44] (fun _ _ _ _ i wv => ∃ (j : Nat) (v1 v2 : Value) (vs : List (Value × Value)), j ≤ es.length ∧ i = .int .i64 (j : Int) ∧ CrL w5 wv w5.heap.size D.quota v1 v2 (.slice none 0 0) vs (outN D.nodes picks es j) (outE es j) [] ∧ OwnE wv (w5.heap.size + 1) (.slice ae es.length ce) es ∧ awayV v2 (.slice ae es.length ce)) (fun _ _ _ _ i _ => es.length - (intOf i).toNat)
        case atStart => exact ⟨0, _, _, [], Nat.zero_le _, rfl, HC8.out, HOE.out, .inl rfl⟩
        case round =>
          obtain ⟨j, v1, v2, vs, hj, rfl, hC, hoe, hae⟩ := hrel
          have hbv := hC.bel
          have Lv := (L1'.out.below HBV.out (by omega)).below hbv (by omega)
          have y0 : wr.cell? ⟨w.heap.size, 0, none⟩ = some (.slice a1 D.nodes.length c1) := Lv.cell 0
          have hsv := hC.sz
          have HC := hide hC
          have HOW := hide hoe
          have HAE := hide hae
          clear hC Lv HC8 HOE hae
          by_cases hlt : j < es.length
          · obtain ⟨b, off, rfl, hc⟩ := hoe.at (by omega)
            obtain ⟨d0, d1⟩ := hc j hlt
            obtain ⟨hn0', hn1⟩ := HFN.out.nd _ (List.getElem_mem hlt)
            obtain ⟨kk, hkk⟩ := Int.eq_ofNat_of_zero_le hn0'
            have hkl2 : kk < D.nodes.length := by omega
            obtain ⟨b3, off3, rfl, hcn⟩ := ((HR1.out.below HBV.out).below hbv) (by omega)
            obtain ⟨ai, ci, g0, g1, hri⟩ := hcn kk hkl2
            have hcc : D.nodes[kk].1.length ≤ ci := by
              obtain ⟨b9, off9, e9, h9⟩ := HCAP.out wr (HXW.out.trans (hbv.mono HXW.out.size)) (by omega)
              simp only [Option.some.injEq, Addr.mk.injEq, and_true] at e9
              obtain ⟨rfl, rfl⟩ := e9
              obtain ⟨ai9, ci9, h91, h92⟩ := h9 kk hkl2
              rw [g0] at h91
              simp only [Option.some.injEq, Value.slice.injEq, true_and] at h91
              rw [h91.2]; exact h92
            have hok := ok_node HV.out kk hkl2
            have hkeep := keepOf_le (picks := picks) (i := j) hok
            have hnof : nodeOf D.nodes es[j] = D.nodes[kk] := by
              unfold nodeOf
              rw [hkk]
              simp [List.getD_eq_getElem?_getD, List.getElem?_eq_getElem hkl2]
            have HSN := hide (outN_succ D.nodes picks es j hlt)
            have HSE := hide (outE_succ es j hlt)
            rw [hnof] at HSN
            rw [hkk] at d1
            unfold okNode at hok
            obtain ⟨hok1, hok2, hok3⟩ := of_decide_eq_true hok
            have hke : (keepOf D.nodes[kk] picks j : Int) = D.nodes[kk].2 + (((if picks.length = 0 then 0 else (max (picks.getD (j % picks.length) 0) 0).toNat % (D.nodes[kk].1.length - D.nodes[kk].2.toNat + 1)) : Nat) : Int) := by
              unfold keepOf
              omega
            have HKP := hide hkeep
            have hia := HPK.out wr (HXW.out.trans (hbv.mono HXW.out.size))
            generalize hkp : keepOf D.nodes[kk] picks j = kp at HKP HSN hke
            generalize hdd : D.nodes[kk].1 = dd at *
            generalize D.nodes[kk].2 = sf at *
            have hzz : (dd.length : Int) - sf = ((dd.length - sf.toNat : Nat) : Int) := by omega
            have HSZ := hide hsv
            generalize es[j].1 = nm0 at d0 HSE
            have hA8 := ((Below.refl wr.heap.size wr).alloc (Nat.le_refl _) (.cells #[.string nm0, .int .i64 (kk : Int)] 58)).alloc (by simp) (.cells #[.slice ai dd.length ci, .int .i64 sf] 56)
            have LE8 := (Laid.new wr #[.string nm0, .int .i64 (kk : Int)] 58).below (B := wr.heap.size + 1) (((Below.refl _ _).alloc (by simp) (.cells #[.slice ai dd.length ci, .int .i64 sf] 56))) (by omega)
            have LN8 := Laid.new (wr.alloc (.cells #[.string nm0, .int .i64 (kk : Int)] 58)) #[.slice ai dd.length ci, .int .i64 sf] 56
            rw [show (wr.alloc (.cells #[.string nm0, .int .i64 (kk : Int)] 58)).heap.size = wr.heap.size + 1 from World.size_alloc ..] at LN8
            have C8 := HC.out.below hA8
            have HV1 := hide (fun b (hb : v1.ownBlock = some b) => (own_ge HC.out.n.row hb).2)
            have HV2 := hide (fun b (hb : v2.ownBlock = some b) => (own_ge HC.out.e hb).2)
            have hrt : RowAt wr ai (dd.take kp) := fun hp => by
              have hp2 : 0 < dd.length := by rw [List.length_take] at hp; omega
              obtain ⟨b3, off3, e3, h3⟩ := hri hp2
              refine ⟨b3, off3, e3, fun i hi => ?_⟩
              rw [List.length_take] at hi
              rw [h3 i (by omega), List.getElem_take]
            have hrl : (dd.take kp).length = kp := by rw [List.length_take]; exact Nat.min_eq_left HKP.out
            have LK := hide (fun n => looseKept_any ap cp picks j (dd.length - sf.toNat) (World.drewN ((wr.alloc (.cells #[.string nm0, .int .i64 (kk : Int)] 58)).alloc (.cells #[.slice ai dd.length ci, .int .i64 sf] 56)) n) hpl (by omega) (by omega) ((hia.below hA8).drew n))
            rw [← hzz] at LK
            generalize (if picks.length = 0 then 0 else (max (picks.getD (j % picks.length) 0) 0).toNat % (dd.length - sf.toNat + 1)) = lk at LK hke
            have hrt8 := hrt.below hA8
            have HX8 := hide (OwnE.below HOW.out hA8)
            have hA7 := (Below.refl wr.heap.size wr).alloc (Nat.le_refl _) (.cells #[.string nm0, .int .i64 (kk : Int)] 58)
            have y0a := (hA7.cell (p := ⟨w.heap.size, 0, none⟩) (lt_of_cell0 y0)).trans y0
            have g0a := (hA7.cell (p := ⟨b3, off3 + kk * 2, none⟩) (lt_of_cell0 g0)).trans g0
            have g1a := (hA7.cell (p := ⟨b3, off3 + kk * 2 + 1, none⟩) (lt_of_cell0 g1)).trans g1
            clear hA7
            have n0' := LN8.cell 0
            have n1' := LN8.cell 1
            have o0 := C8.box.cell 0
            have HLE := hide LE8
            have HC8 := hide C8
            have hkd := HKP.out
            have hkc : kp ≤ ci := Nat.le_trans HKP.out hcc
            have hNl := outN_length D.nodes picks es j
            have hEl := outE_length es j
            generalize outN D.nodes picks es j = N0 at HC8 HSN hNl
            generalize outE es j = E0 at HC8 HSE hEl
            generalize hR : dd.take kp = R at hrt8 HSN hrl
            have hNb : N0.length ≤ 1048576 := by omega
            have hEb : E0.length ≤ 1048576 := by omega
            have hlkb : (lk : Int) ≤ 40000 := by omega
            have HKE := hide hke.symm
            have HRT := hide hrt8
            have HRL := hide hrl
            clear hc hcn hri hrt hkp hdd hnof hkk hn0' hn1 C8 LE8 LN8 hok hkeep HC HOW hoe hia hR hrl hrt8 hNl hEl hbv hA8 hcc hke hzz
            go_wp2
            go_quiet (go_loud (go_at_call 47; exact quiet_zero (LK.out _)))
            clear LK y0a g0a g1a
            go_wp2
            simp only [HKE.out]
            refine at_world (F := fun W => Code.wp _ _ _ _ W) ?_
            intro W9 e9
            have hb9 := drewN_below e9
            clear e9
            have n9 := (hb9.cell (p := ⟨wr.heap.size + 1, 0, none⟩) (lt_of_cell0 n0')).trans n0'
            have HC9 := hide (HC8.out.below hb9)
            have o9 := HC9.out.box.cell 0
            have HLE9 := hide (HLE.out.below hb9 HLE.out.lt)
            have HX9 := hide (OwnE.below HX8.out hb9)
            have CALL := hide (node_call 31 clone_own (z := (kp : Int)) HC9.out (HRT.out.below hb9) kp ci HRL.out.symm (by rw [HRL.out]; omega))
            clear hb9 n0' n1' o0 HC8 HLE HX8 HRT
            generalize (wr.alloc (.cells #[.string nm0, .int .i64 (kk : Int)] 58)).alloc (.cells #[.slice ai dd.length ci, .int .i64 sf] 56) = W8 at *
            go_region_law (first
              | (refine step_call_one 31 run_enterC (.tmp 72) #[28] (by rfl) (by rfl) (.slice ai kp ci) (by rfl) ?_; refine (CALL.out _ ?_ ?_ ?_ ?_).mono ?_; (exact rfl); (exact rfl); (exact rfl); (exact rfl); rintro e w9 ⟨a9, c9, rfl, hkn, ha, p1, l2⟩; have HKN := hide hkn; have HA := hide ha; clear hkn ha; refine ⟨_, rfl, ?_⟩)
              | (refine step_append_node _ (by rfl) (.tmp 68) (.tmp 76) (by rfl) (w5.heap.size + 1) v1 vs N0 (.slice a9 R.length c9) R (kp : Int) w9.heap.size 1 (by rfl) (by rfl) ?_ ?_ ?_ ?_ ?_ ?_ ?_ ?_; (refine (HA.out _ ?_ ?_ ?_ ?_).n <;> rfl); (refine (HA.out _ ?_ ?_ ?_ ?_).c0 <;> rfl); (refine (HA.out _ ?_ ?_ ?_ ?_).c1 <;> rfl); (refine (HA.out _ ?_ ?_ ?_ ?_).ow <;> rfl); (exact HKN.out); (exact hNb); (refine (HA.out _ ?_ ?_ ?_ ?_).sz <;> rfl); intro v9 w10 ho9 hg9; have hz := n_next HA.out ho9 hg9; obtain ⟨a10, c10, rfl⟩ := ho9.slice; have p3 := hz.2.1; have f3 := hz.2.2.1))
            all_goals
              have hE11 : Laid (w10.setCell ⟨w5.heap.size, 0, none⟩ (.slice a10 (N0 ++ [(R, (kp : Int))]).length c10)) wr.heap.size #[.string nm0, .int .i64 (kk : Int)] 58 := Laid.other ((hz.2.2.2 _ HLE9.out.lt (fun e => by have := HV1.out _ e; omega)).trans HLE9.out) (by show wr.heap.size ≠ w5.heap.size; have := HSZ.out; omega) _
              have hX11 : OwnE (w10.setCell ⟨w5.heap.size, 0, none⟩ (.slice a10 (N0 ++ [(R, (kp : Int))]).length c10)) (w5.heap.size + 1) (.slice (some ⟨b, off, none⟩) es.length ce) es := ext_keep HX9.out (by omega) hz.2.2.2 (owns_away HX9.out HC9.out.n.row (by decide))
              have HC11 := hide hz.1
              rw [show (N0 ++ [(R, (kp : Int))]).length = N0.length + 1 from by simp] at hE11 HC11 hX11
              clear hz p3 f3 HA HKN p1 l2 hg9 ho9
              generalize w10.setCell ⟨w5.heap.size, 0, none⟩ (.slice a10 (N0.length + 1) c10) = W11 at hE11 HC11 hX11 ⊢
              have e0 := hE11.cell 0
              have b1 := HC11.out.box.cell 1
              have A11 := hide (HC11.out.app (nm0, (j : Int)))
              have HE11 := hide hE11
              have HX11 := hide hX11
              clear hE11 hX11 n9 o9 HLE9 HC9 HX9 CALL
              obtain ⟨x2, cx2, rfl⟩ := HC11.out.e.slice
              go_wp2_with (first
                | (at_builtin; refine wpList_append_entry_at _ rfl (.tmp 80) (.tmp 85) rfl (w5.heap.size + 1) (.slice x2 E0.length cx2) E0 (nm0, (j : Int)) W11.heap.size 1 rfl rfl ?_ ?_ ?_ hEb ?_ ?_; (exact A11.out.2.1); (exact A11.out.2.2.2.1); (exact A11.out.2.2.2.2.1); (exact A11.out.2.2.2.2.2); intro v12 w12 ho12 hg12 hat12; have hq := HC11.out.appE ho12 hg12 hat12; have haw := away_at hat12 HAE.out (OwnE.below HX11.out A11.out.1); have hx12 := fun u => ext_keep (o := w5.heap.size) (i := 1) (u := u) HX11.out (by omega) hq.2.2.2.2.2 HAE.out.symm; obtain ⟨a12, c12, rfl⟩ := ho12.slice; have q1 := hq.2.1; have q2 := hq.2.2.1; have HQ := hide hq.1; have HAW := hide haw; have HX12 := hide (hx12 (.slice a12 (E0 ++ [(nm0, (j : Int))]).length c12)); rw [show (E0 ++ [(nm0, (j : Int))]).length = E0.length + 1 from by simp] at HQ HAW HX12; clear hq haw hx12 ho12 hg12 hat12 b1 e0)
                | go_in)
              exact ⟨⟨j + 1, _, _, _, by omega, by go_num, by rw [HSN.out, HSE.out]; exact HQ.out, HX12.out, HAW.out⟩, by simp [intOf]; omega⟩
          · obtain rfl : j = es.length := by omega
            obtain ⟨x1, cx1, rfl⟩ := HC.out.n.slice
            obtain ⟨x2, cx2, rfl⟩ := HC.out.e.slice
            have hCr : Laid wr (w.heap.size + 1) #[.slice none 0 0, .slice none 0 0, .slice none 0 0, .slice none 0 0, .int .i64 0] 36 := (C1'.out.below HBV.out (by omega)).below hbv (by omega)
            simp only [outN_length, outE_length] at HC
            have b1 := HC.out.box.cell 1
            have CE := hide (cloneE_any x2 cx2 (outE es es.length) wr (by rw [outE_length]; omega) (HC.out.e.at))
            rw [outE_length] at CE
            have HCR := hide hCr
            clear hCr hlt hoe
            go_wp2_with fail
            refine CE.out.mono ?_
            rintro e w9 ⟨vc, rfl, hoc, hb9⟩
            have haw : awayV (.slice x2 es.length cx2) vc := by
              cases hby : (Value.slice x2 es.length cx2).ownBlock with
              | none => exact .inl hby
              | some g =>
                refine .inr fun e => ?_
                have h1 := (own_ge HC.out.e hby).2
                rw [hby] at e
                have h2 := (own_ge hoc e.symm).1
                omega
            have C10 := HC.out.pushK hb9 (OwnE.mono hoc hsv) (grown_refl _ _) haw
            have hC9 := HC.out.below hb9
            obtain ⟨xc, cc, rfl⟩ := hoc.slice
            rw [outE_length] at C10 ⊢
            have hR9 : Laid w9 (w.heap.size + 1) #[.slice none 0 0, .slice none 0 0, .slice none 0 0, .slice none 0 0, .int .i64 0] 36 := HCR.out.below hb9 HCR.out.lt
            have hR10 := hR9.other (p := ⟨w5.heap.size, 2, none⟩) (by show w.heap.size + 1 ≠ w5.heap.size; omega) (.slice xc es.length cc)
            have b0 := C10.box.cell 0
            have b1' := C10.box.cell 1
            have b2' := C10.box.cell 2
            have b3' := C10.box.cell 3
            have b4 := C10.box.cell 4
            have s2 := hC9.box.cell 2
            have s2f := frozen_of_row w9 w5.heap.size 2 _ _ hC9.box
            have f0 := frozen_of_row _ (w.heap.size + 1) 0 _ _ hR10
            have z0 := hR10.cell 0
            have f1 := frozen_of_row _ (w.heap.size + 1) 1 _ _ hR10
            have z1 := hR10.cell 1
            have f2 := frozen_of_row _ (w.heap.size + 1) 2 _ _ hR10
            have z2 := hR10.cell 2
            have f3 := frozen_of_row _ (w.heap.size + 1) 3 _ _ hR10
            have z3 := hR10.cell 3
            have f4 := frozen_of_row _ (w.heap.size + 1) 4 _ _ hR10
            have z4 := hR10.cell 4
            have HC10 := hide C10
            have HCR10 := hide hR10
            have HL := hide HXW.out
            clear C10 hC9 hR9 hR10 hb9 hoc haw b1 hbv CE
            go_wp2
            exact bodyPost_ret (ret_disk (w.heap.size + 1) _ _ _ _ _ _ rfl rfl (set_disk _ _ _ _ _ HCR10.out)) rfl (disk_yes HR'.out HC10.out (by omega) (by omega) HL.out rfl)
end Go.Proofs.Ytledlicandlekab
namespace Go.Proofs.Ytledlicandlekab
open Go.RowKit
theorem eqContent_any (a a' : Option Addr) (cap cap' : Nat) (f : Bool) (l : List Nat) (w : World) (hl : l.length ≤ 9223372036854775807) (hr : RowAt w a l) (hr' : RowAt w a' l) :
    Calls Try.prog 9 #[.agg #[.bool f, .slice a l.length cap], .agg #[.bool f, .slice a' l.length cap']] w fun e w' => e = .returned (.bool true) ∧ Below w.heap.size w w' := by
  have hb1 : Below w.heap.size w ((w.alloc (.cells #[.bool f, .slice a l.length cap] 30)).alloc (.cells #[.bool f, .slice a' l.length cap'] 30)) := ((Below.refl _ _).alloc (Nat.le_refl _) _).alloc (by simp) _
  have h1 := hr.below hb1
  have h2 := hr'.below hb1
  have hne : (f != f) = false := by simp
  go_enter Try.func9, Try.ntmps9
  go_wp2_with fail
  refine (eqByteS_any a a' cap cap' l l _ hl h1 h2).mono ?_
  rintro e w2 ⟨rfl, n2, rfl⟩
  rw [decide_eq_true (rfl : l = l)]
  go_wp2
  go_ret
  exact ⟨rfl, below_drewN hb1 _⟩
theorem markContent_any (base hi k : Nat) (a : Option Addr) (cap : Nat) (f : Bool) (l : List Nat) (w : World) (hk : k ≤ 4503599627370496) (hl : l.length ≤ 4503599627370496) (hown : OwnB w base (.slice a l.length cap) l) (hin : ∀ j, (Value.slice a l.length cap).ownBlock = some j → j < hi) :
    Calls Try.prog 12 #[.agg #[.bool f, .slice a l.length cap], .int .i64 (k : Int)] w fun e w' => e = .returned (.int .i64 ((k + l.length : Nat) : Int)) ∧ OwnB w' base (.slice a l.length cap) (marks k l.length) ∧ Out base hi w w' := by
  have hb1 : Below w.heap.size w (w.alloc (.cells #[.bool f, .slice a l.length cap] 30)) := (Below.refl _ _).alloc (Nat.le_refl _) _
  have HLT := hide (fun j hj => And.intro (World.ownsRow.lt hown j hj).1 (hin j hj))
  clear hin
  go_enter Try.func12, Try.ntmps12
  go_wp2_with fail
  refine (markByteS_any base a cap k l _ hk hl (hown.below hb1 (Nat.le_refl _))).mono ?_
  rintro e w2 ⟨rfl, o2, t2, _⟩
  go_wp2
  go_ret
  exact ⟨rfl, o2, (Out.of_below hb1).trans (Out.of_grown t2 (fun j hj => HLT.out j hj))⟩
theorem heldContent_any (a : Option Addr) (cap k n : Nat) (f : Bool) (w : World) (hk : k ≤ 4503599627370496) (hl : n ≤ 4503599627370496) (hr : RowAt w a (marks k n)) :
    Calls Try.prog 13 #[.agg #[.bool f, .slice a n cap], .int .i64 (k : Int)] w fun e w' => e = .returned (.int .i64 ((k + n : Nat) : Int)) ∧ Below w.heap.size w w' := by
  have hb1 : Below w.heap.size w (w.alloc (.cells #[.bool f, .slice a n cap] 30)) := (Below.refl _ _).alloc (Nat.le_refl _) _
  have h1 := hr.below hb1
  have hpos : ¬ (((k + n : Nat) : Int)) < 0 := by omega
  go_enter Try.func13, Try.ntmps13
  go_wp2_with fail
  refine (heldByteS_any a cap k n _ hk hl h1).mono ?_
  rintro e w2 ⟨rfl, rfl⟩
  generalize hz : ((k + n : Nat) : Int) = z at hpos ⊢
  have HZ := hide hz
  clear hz
  go_wp2
  go_ret
  exact ⟨by rw [HZ.out]; rfl, hb1⟩
end Go.Proofs.Ytledlicandlekab
