import Derived.Test.YtknnpgffdbkfnaaImplSplit
import Derived.Test.YtknnpgffdbkfnaaSpecUnquote
namespace Go.Proofs.Ytknnpgffdbkfnaa
open Go.RowKit
structure Spg (w wr : World) (lo2 : Nat) (sv v : Value) (ex nx : Nat) (xs : List Value) (vs : List S3) (ls : List (List Nat)) : Prop where
  b0 : BlkS wr w.heap.size (.bool false) (.slice none 0 0)
  b1 : BlkS wr (w.heap.size + 1) (.bool true) v
  st : World.ownsRow wr (w.heap.size + 2) ex 1 sv nx xs
  stlt : ∀ g, sv.ownBlock = some g → g < lo2
  os : OwnS wr lo2 v vs ls
  bel : Below w.heap.size w wr
  sz : lo2 ≤ wr.heap.size
  lo : w.heap.size + 2 ≤ lo2
theorem Spg.below {w W W' : World} {lo2 : Nat} {sv v : Value} {ex nx : Nat} {xs : List Value} {vs : List S3} {ls : List (List Nat)} (h : Spg w W lo2 sv v ex nx xs vs ls) (hb : Below W.heap.size W W') : Spg w W' lo2 sv v ex nx xs vs ls :=
  ⟨h.b0.below hb h.b0.lt, h.b1.below hb h.b1.lt, own_keepK h.st (fun g _ hg => hb.block g hg), h.stlt, h.os.below hb (Nat.le_refl _), h.bel.trans (hb.mono h.bel.size), Nat.le_trans h.sz hb.size, h.lo⟩
/-- What stands beside the list when it has grown. -/
structure SgRest (w w3 : World) (lo2 : Nat) (sv v : Value) (ex nx : Nat) (xs : List Value) : Prop where
  b0 : BlkS w3 w.heap.size (.bool false) (.slice none 0 0)
  b1 : BlkS w3 (w.heap.size + 1) (.bool true) v
  st : World.ownsRow w3 (w.heap.size + 2) ex 1 sv nx xs
  bel : Below w.heap.size w w3
  sz : lo2 ≤ w3.heap.size
def SgOk (w w2 : World) (lo2 : Nat) (sv v u : Value) (p q : Nat) (ex nx : Nat) (xs : List Value) (vs : List S3) (ls : List (List Nat)) (U : List Nat) : Prop :=
  ∀ Y : World, Y.heap = (w2.alloc (.cells #[.int .i64 (p : Int), .int .i64 (q : Int), u] 59)).heap → Y.os = w2.os → Y.tape = w2.tape → Y.output = w2.output →
    OwnS Y lo2 v vs ls ∧ Y.cell? ⟨w2.heap.size, 0, none⟩ = some (iv p) ∧ Y.cell? ⟨w2.heap.size, 1, none⟩ = some (iv q) ∧ Y.cell? ⟨w2.heap.size, 2, none⟩ = some u ∧ OwnB Y lo2 u U ∧ lo2 ≤ Y.heap.size ∧ ∀ w3, Y.grownBy w3 v.ownBlock → SgRest w w3 lo2 sv v ex nx xs
theorem sg_next {w w2 Y w3 : World} {lo2 : Nat} {sv v u : Value} {p q : Nat} {ex nx : Nat} {xs : List Value} {vs : List S3} {ls : List (List Nat)} {U : List Nat} (h : SgOk w w2 lo2 sv v u p q ex nx xs vs ls U) (hg : Y.grownBy w3 v.ownBlock) (h1 : Y.heap = (w2.alloc (.cells #[.int .i64 (p : Int), .int .i64 (q : Int), u] 59)).heap := by rfl) (h2 : Y.os = w2.os := by rfl) (h3 : Y.tape = w2.tape := by rfl) (h4 : Y.output = w2.output := by rfl) : SgRest w w3 lo2 sv v ex nx xs :=
  (h Y h1 h2 h3 h4).2.2.2.2.2.2 w3 hg
theorem sg_done {w w3 : World} {lo2 : Nat} {sv v v3 : Value} {ex nx : Nat} {xs : List Value} {vs : List S3} {ls : List (List Nat)} (h : SgRest w w3 lo2 sv v ex nx xs) (hl : w.heap.size + 2 ≤ lo2) (hs : ∀ g, sv.ownBlock = some g → g < lo2) (ho : OwnS w3 lo2 v3 vs ls) : Spg w (w3.setCell ⟨w.heap.size + 1, 1, none⟩ v3) lo2 sv v3 ex nx xs vs ls :=
  ⟨h.b0.other (show w.heap.size ≠ w.heap.size + 1 by omega) _, h.b1.set1 _, ownsRow_setCell_below h.st (show w.heap.size + 1 < w.heap.size + 2 by omega) _, hs, ho.other (show w.heap.size + 1 < lo2 by omega) _, h.bel.setCell (p := ⟨w.heap.size + 1, 1, none⟩) (by simp) _, by simpa using h.sz, hl⟩
theorem sunq_at {w W0 : World} {lo2 : Nat} {sv v : Value} {ex nx : Nat} {xs : List Value} {vs : List S3} {ls : List (List Nat)} (S : Spg w W0 lo2 sv v ex nx xs vs ls) (b o n c p q : Nat) (U : List Nat) (hn : U.length = n) (hU : U.length ≤ 1048576) (hc : U.length ≤ c) (hT : TextAt W0 b o U) (hbw : b < W0.heap.size) (hb : ∀ x ∈ U, x < 256) :
    ∀ W : World, W.heap = W0.heap → W.os = W0.os → W.tape = W0.tape → W.output = W0.output → Calls Try.prog 47 #[.slice (some ⟨b, o, none⟩) n c] W fun e w2 => ∃ a2 c2, e = .returned (.slice a2 (unquoteOf U).length c2) ∧ (∀ y ∈ vs, y.2.2.ownBlock = none ∨ y.2.2.ownBlock ≠ (Value.slice a2 (unquoteOf U).length c2).ownBlock) ∧
      SgOk w w2 lo2 sv v (.slice a2 (unquoteOf U).length c2) p q ex nx xs vs ls (unquoteOf U) ∧ w2.cell? ⟨w.heap.size + 1, 1, none⟩ = some v ∧ w.heap.size + 1 < w2.heap.size := by
  intro W e1 e2 e3 e4
  subst hn
  have hT' : TextAt W b o U := fun i hi => by rw [← hT i hi]; exact World.cell?_of_block (by rw [e1])
  refine (specUnquote_any b o c U W hU hc hT' (by rw [e1]; exact hbw) hb).mono ?_
  rintro e w2 ⟨v2, rfl, ho2, hb2⟩
  obtain ⟨a2, c2, rfl⟩ := ho2.slice
  rw [e1] at ho2
  have hB : Below W0.heap.size W0 w2 := ⟨hb2.os.trans e2, hb2.tape.trans e3, hb2.output.trans e4, by rw [← e1]; exact hb2.size, fun k hk => by rw [← e1]; exact hb2.block k (by rw [e1]; exact hk)⟩
  have S2 := S.below hB
  have hsz := hB.size
  refine ⟨a2, c2, rfl, S.os.ne_new ho2, ?_, S2.b1.c1, S2.b1.lt⟩
  have hal := (Below.refl w2.heap.size w2).alloc (Nat.le_refl _) (.cells #[.int .i64 (p : Int), .int .i64 (q : Int), .slice a2 (unquoteOf U).length c2] 59)
  have S3' := S2.below hal
  have ho3 : OwnB _ lo2 (.slice a2 (unquoteOf U).length c2) (unquoteOf U) := (ho2.below hal (Nat.le_refl _)).mono S.sz
  have hx3 := heap_alloc_new w2 (.cells #[.int .i64 (p : Int), .int .i64 (q : Int), .slice a2 (unquoteOf U).length c2] 59)
  intro Y y1 y2 y3 y4
  have hxY : Y.heap[w2.heap.size]? = some (.cells #[.int .i64 (p : Int), .int .i64 (q : Int), .slice a2 (unquoteOf U).length c2] 59 (0, 0)) := by rw [y1]; exact hx3
  have hv2 : ∀ g, v.ownBlock = some g → lo2 ≤ g := fun g hg => (World.ownsRow.lt S2.os.row g hg).1
  refine ⟨heap_ownS S3'.os y1, by rw [cell_of_row _ _ _ _ _ _ hxY]; rfl, by rw [cell_of_row _ _ _ _ _ _ hxY]; rfl, by rw [cell_of_row _ _ _ _ _ _ hxY]; rfl, heap_ownK ho3 y1, by rw [y1]; exact S3'.sz, fun w3 hg => ?_⟩
  have c0 : BlkS Y w.heap.size (.bool false) (.slice none 0 0) := by unfold BlkS; rw [y1]; exact S3'.b0
  have c1 : BlkS Y (w.heap.size + 1) (.bool true) v := by unfold BlkS; rw [y1]; exact S3'.b1
  have c2' : World.ownsRow Y (w.heap.size + 2) ex 1 sv nx xs := heap_ownK S3'.st y1
  have hlo := S.lo
  refine ⟨c0.grown hg (fun e => by have := hv2 _ e.symm; omega), c1.grown hg (fun e => by have := hv2 _ e.symm; omega), World.ownsRow.kept c2' hg ?_, ?_, Nat.le_trans (by rw [y1]; exact S3'.sz) hg.size⟩
  · cases hb' : sv.ownBlock with
    | none => exact .inl rfl
    | some g => exact .inr fun e => by have := hv2 g e.symm; have := S.stlt g hb'; omega
  · have hbY : Below w.heap.size w Y := ⟨y2.trans S2.bel.os, y3.trans S2.bel.tape, y4.trans S2.bel.output, by rw [y1]; exact S3'.bel.size, fun k hk => by rw [y1]; exact S3'.bel.block k hk⟩
    exact hbY.grown hg (by have := hbY.size; omega) (fun g hg' => by have := hv2 g hg'; omega)
theorem run_sunq (v : Value) (w : World) : (callFunc 47 #[v]).run Try.prog w = .ok (.enter 47 #[v]) w := by
  kernel_rfl
theorem step_call_sunq {ops : Array Oper} {o : Oper} {act : Act} {w : World} {K : Act → World → Prop} {Q : Exit → Act → World → Prop} {E : Prop} (x : Operand) (ts : Array TypeId) (hgd : o.guard = none)
    (ho : o.op = .call { callee := .value (.func 47), args := #[x], argTypes := ts }) (v : Value) (hx : act.eval x = v) (h : Calls Try.prog 47 #[v] w fun e w' => ∃ u, e = .returned u ∧ K (act.put o.dst u) w') :
    if Region.wanted o (yielded ops act.tmps) = true then Oper.wp Try.prog o act w K Q else E := by
  have hw : Region.wanted o (yielded ops act.tmps) = true := by simp [Region.wanted, hgd]
  rw [if_pos hw]
  obtain ⟨dst, op, ty, pos, after, guard⟩ := o
  simp only at ho hgd
  subst ho
  unfold Oper.wp
  rw [execOp_call_go]
  simp only [List.map_toArray, List.map_cons, List.map_nil, hx, List.append_toArray, List.nil_append, List.append_nil, run_sunq, Oper.upon_enter]
  refine h.mono ?_
  rintro e w' ⟨u, rfl, hk⟩
  exact hk
end Go.Proofs.Ytknnpgffdbkfnaa
