import Derived.Test.YtledlicandlekaaDoorPka
import Derived.Test.YtledlicandlekaaDoorPkb
import Derived.Test.YtledlicandlekaaDoorShelf
import Derived.Test.YtledlicandlekaaDoorPkc
import Derived.Test.YtledlicandlekaaDoorShelfB
import Derived.Test.YtledlicandlekaaDoorPkd
import Derived.Test.YtledlicandlekaaDoorPke
import Derived.Test.YtledlicandlekaaDoorPkf
import Derived.Test.YtledlicandlekaaDoorPkg
import Derived.Test.YtledlicandlekaaDoorPkh
import Derived.Test.YtledlicandlekaaDoorPki
import Derived.Deep.DeepCutAuto
import Derived.Lib.Builder
import Derived.Lib.AppendStr
import Derived.Deep.RegionWith
import Derived.Deep.RegionLaw
namespace Go.Proofs.YtledlicandlekaaDoor
open Go.RowKit
/-- append of bytes, perhaps none, as a step of a statement whose order is drawn. -/
theorem step_append_blk {ops : Array Oper} {o : Oper} {act : Act} {K : Act → World → Prop} {Q : Exit → Act → World → Prop} {E : Prop} (w : World) (hgd : o.guard = none) (s x : Operand)
    (ho : o.op = .call { callee := .builtin .append, args := #[s, x], argTypes := #[22, 22] })
    (base : Nat) (v : Value) (l m : List Nat) (hs : act.eval s = v) (hown : OwnB w base v l) (ad : Option Addr) (c : Nat) (hx : act.eval x = .slice ad m.length c) (hr : RowAt w ad m)
    (hlen : l.length + m.length ≤ 1099511627776) (hbase : base ≤ w.heap.size)
    (h : ∀ v' w', OwnB w' base v' (l ++ m) → w.grownBy w' v.ownBlock → (v'.ownBlock = v.ownBlock ∨ v'.ownBlock = some w.heap.size) → K (act.put o.dst v') w') : if Region.wanted o (yielded ops act.tmps) = true then Oper.wp Tryd.prog o act w K Q else E := by
  have hw : Region.wanted o (yielded ops act.tmps) = true := by simp [Region.wanted, hgd]
  rw [if_pos hw]
  obtain ⟨i0, hi, hz0, hz1, hz2⟩ := info_parts Tryd.info5
  by_cases hm : 0 < m.length
  · obtain ⟨b, off, rfl, hc⟩ := hr hm
    have hnews : ∀ j u, (m.map bv)[j]? = some u → w.cell? ((⟨b, off, none⟩ : Addr).add j) = some u := by
      intro j u hj
      rw [addr_add]
      have hjm : j < m.length := by
        rcases Nat.lt_or_ge j m.length with h' | h'
        · exact h'
        · simp [List.getElem?_eq_none h'] at hj
      rw [hc j hjm]
      simp [hjm, bv] at hj
      rw [hj]
    have h1 : ∀ u ∈ m.map bv, u.oneCell' = true := by
      intro u hu
      simp only [List.mem_map] at hu
      obtain ⟨y, _, rfl⟩ := hu
      rfl
    obtain ⟨v', w', hr', h2, h3, _⟩ := run_append_own (P := Tryd.prog) w base 22 o.type 5 i0 (.int .u8 0) 1 1 Tryd.underlying22 hi hz0 hz1 hz2 rfl (by decide) v l.length (l.map bv) hown ⟨b, off, none⟩ m.length c (m.map bv) (by simp) hnews h1 (by unfold maxLen; omega) (by omega) hbase
    have hblk : v'.ownBlock = v.ownBlock ∨ v'.ownBlock = some w.heap.size := by
      rcases hown.2 with ⟨rfl, hn⟩ | ⟨g, cap, cur, rfl, hbg, hg, hnc, hcm, hcs, htake⟩
      · have hr2 := run_append_nil (P := Tryd.prog) w 22 o.type 5 i0 (.int .u8 0) Tryd.underlying22 hi hz0 ⟨b, off, none⟩ m.length c (m.map bv) (by rw [hz1]; simp) hnews (by omega) (by omega) (by rw [hz2]; omega)
        rw [hr'] at hr2
        simp only [Result.ok.injEq] at hr2
        rw [hr2.1]
        exact .inr rfl
      · by_cases hroom : l.length + m.length ≤ cap
        · have hr2 := run_append_room (P := Tryd.prog) w 22 o.type 5 i0 Tryd.underlying22 hi g l.length cap cur hg ⟨b, off, none⟩ m.length c (m.map bv) (by rw [hz1]; simp) hnews h1 hroom (by rw [hz1]; simp; omega)
          rw [hr'] at hr2
          simp only [Result.ok.injEq] at hr2
          rw [hr2.1]
          exact .inl rfl
        · have hr2 := run_append_grow (P := Tryd.prog) w 22 o.type 5 i0 (.int .u8 0) Tryd.underlying22 hi hz0 ⟨g, 0, none⟩ l.length cap (l.map bv) (by rw [hz1]; simp) (hown.cells (g := g) rfl) ⟨b, off, none⟩ m.length c (m.map bv) (by rw [hz1]; simp) hnews (by omega) (by omega) (growslice_fits (by omega) (by rw [hz2]; omega))
          rw [hr'] at hr2
          simp only [Result.ok.injEq] at hr2
          rw [hr2.1]
          exact .inr rfl
    unfold Oper.wp execOp
    simp only [ho, resolve, invoke, builtin, Sem.run_bind, Sem.run_pure, Result.andThen_ok, List.map_toArray, List.map_cons, List.map_nil, hs, hx, hr']
    refine (h v' w' ?_ h3 hblk)
    unfold OwnB
    rw [List.length_append, List.map_append]
    exact h2
  · have hm0 : m = [] := List.eq_nil_of_length_eq_zero (by omega)
    subst hm0
    have hr' : (Builtin.append_ #[22, 22] o.type #[v, .slice ad 0 c]).run Tryd.prog w = .ok v w := by
      rcases hown.2 with ⟨rfl, hn⟩ | ⟨g, cap, cur, rfl, hbg, hg, hnc, _⟩
      · cases ad <;> simp [Builtin.append_, run_underlying Tryd.underlying22, sizeOf, typeInfo, hi, Builtin.lenOf, Builtin.firstCells, loadCells, loadCellsFrom]
      · cases ad <;> simp [Builtin.append_, run_underlying Tryd.underlying22, sizeOf, typeInfo, hi, Builtin.lenOf, Builtin.firstCells, storeCells, loadCells, loadCellsFrom, hnc]
    unfold Oper.wp execOp
    simp only [List.length_nil] at hx
    simp only [ho, resolve, invoke, builtin, Sem.run_bind, Sem.run_pure, Result.andThen_ok, List.map_toArray, List.map_cons, List.map_nil, hs, hx, hr']
    exact (h v w (by rw [List.append_nil]; exact hown) (grown_refl _ _) (.inl rfl))
/-- A call of a function of two arguments, as a step of a statement whose order is drawn. -/
theorem step_call_two (f : FuncId) (hf : ∀ (v u : Value) (w : World), (callFunc f #[v, u]).run Tryd.prog w = .ok (.enter f #[v, u]) w) {ops : Array Oper} {o : Oper} {act : Act} {w : World} {K : Act → World → Prop} {Q : Exit → Act → World → Prop} {E : Prop} (x y : Operand) (ts : Array TypeId) (hgd : o.guard = none)
    (ho : o.op = .call { callee := .value (.func f), args := #[x, y], argTypes := ts }) (v u : Value) (hx : act.eval x = v) (hy : act.eval y = u) (h : Calls Tryd.prog f #[v, u] w fun e w' => ∃ z, e = .returned z ∧ K (act.put o.dst z) w') :
    if Region.wanted o (yielded ops act.tmps) = true then Oper.wp Tryd.prog o act w K Q else E := by
  have hw : Region.wanted o (yielded ops act.tmps) = true := by simp [Region.wanted, hgd]
  rw [if_pos hw]
  obtain ⟨dst, op, ty, pos, after, guard⟩ := o
  simp only at ho hgd
  subst ho
  unfold Oper.wp
  rw [execOp_call_go]
  simp only [List.map_toArray, List.map_cons, List.map_nil, hx, hy, List.append_toArray, List.nil_append, List.append_nil, hf, Oper.upon_enter]
  refine h.mono ?_
  rintro e w' ⟨z, rfl, hk⟩
  exact hk
theorem run_enterCut (v u : Value) (w : World) : (callFunc 8 #[v, u]).run Tryd.prog w = .ok (.enter 8 #[v, u]) w := by
  kernel_rfl
theorem cut_rest_mem (lits : Bool) (d : List Nat) : ∀ x ∈ (cutAll lits d).2, x ∈ d := by
  unfold cutAll
  generalize d.length = f
  induction f generalizing d with
  | zero => intro x hx; exact hx
  | succ f ih =>
    intro x hx
    cases ho : oneOf lits d with
    | none => simp only [cutOf, ho] at hx; exact hx
    | some z =>
      obtain ⟨u, k⟩ := z
      simp only [cutOf, ho] at hx
      exact List.mem_of_mem_drop (ih _ x hx)
end Go.Proofs.YtledlicandlekaaDoor
namespace Go.Proofs.YtledlicandlekaaDoor
open Go.RowKit
/-- The box of an answer, as it is made. -/
abbrev unBox : Obj := .cells #[.slice none 0 0, .slice none 0 0] 25
/-- How the statement stands: a row of its own, and perhaps the box. -/
structure PcSt (w5 W : World) (v : Value) (l : List Nat) (G : Option Nat) : Prop where
  own : OwnB W w5.heap.size v l
  bel : Below w5.heap.size w5 W
  some_ : ∃ g c, v = .slice (some ⟨g, 0, none⟩) l.length c
  box : ∀ g, G = some g → w5.heap.size ≤ g ∧ W.heap[g]? = some unBox ∧ v.ownBlock ≠ some g
theorem bel_like {w X W : World} (h : Below w.heap.size w X) (e1 : W.heap = X.heap) (e2 : W.os = X.os) (e3 : W.tape = X.tape) (e4 : W.output = X.output) : Below w.heap.size w W :=
  ⟨e2.trans h.os, e3.trans h.tape, e4.trans h.output, by rw [e1]; exact h.size, fun k hk => by rw [e1]; exact h.block k hk⟩
theorem PcSt.like {w5 W X : World} {v : Value} {l : List Nat} {G : Option Nat} (h : PcSt w5 X v l G) (e1 : W.heap = X.heap) (e2 : W.os = X.os) (e3 : W.tape = X.tape) (e4 : W.output = X.output) : PcSt w5 W v l G :=
  ⟨own_keep h.own fun g _ _ => by rw [e1], bel_like h.bel e1 e2 e3 e4, h.some_, fun g hg => by rw [e1]; exact h.box g hg⟩
theorem PcSt.alloc {w5 X : World} {v : Value} {l : List Nat} (h : PcSt w5 X v l none) : PcSt w5 (X.alloc unBox) v l (some X.heap.size) := by
  have hal := (Below.refl X.heap.size X).alloc (Nat.le_refl _) unBox
  refine ⟨OwnB.below h.own hal (Nat.le_refl _), h.bel.alloc h.bel.size _, h.some_, fun g hg => ?_⟩
  obtain rfl : X.heap.size = g := by simpa using hg
  exact ⟨h.bel.size, heap_alloc_new X _, fun e => by have := (World.ownsRow.lt h.own _ e).2; omega⟩
theorem PcSt.app {w5 W W' : World} {v v' : Value} {l m : List Nat} {G : Option Nat} (h : PcSt w5 W v l G) (ho : OwnB W' w5.heap.size v' (l ++ m)) (hg : W.grownBy W' v.ownBlock) (hk : v'.ownBlock = v.ownBlock ∨ v'.ownBlock = some W.heap.size) : PcSt w5 W' v' (l ++ m) G := by
  obtain ⟨g0, c0, rfl⟩ := h.some_
  refine ⟨ho, h.bel.grown hg h.bel.size (fun k e => (World.ownsRow.lt h.own k e).1), ?_, fun g e => ?_⟩
  · rcases ho.2 with ⟨rfl, hn⟩ | ⟨g, cap, cur, rfl, _⟩
    · rcases hk with hk | hk <;> simp [Value.ownBlock] at hk
    · exact ⟨g, cap, rfl⟩
  · obtain ⟨b1, b2, b3⟩ := h.box g e
    have hlt : g < W.heap.size := by
      rcases Nat.lt_or_ge g W.heap.size with h' | h'
      · exact h'
      · rw [Array.getElem?_eq_none h'] at b2; cases b2
    refine ⟨b1, (hg.block g hlt (fun e => b3 e.symm)).trans b2, fun e2 => ?_⟩
    rcases hk with hk | hk
    · exact b3 (hk.symm.trans e2)
    · rw [hk] at e2
      simp only [Option.some.injEq] at e2
      omega
/-- The empty row that the statement begins with. -/
theorem pc_empty (w5 X : World) (hb : Below w5.heap.size w5 X) : PcSt w5 (X.alloc (.cells #[] 5)) (.slice (some ⟨X.heap.size, 0, none⟩) 0 0) [] none :=
  ⟨⟨rfl, .inr ⟨X.heap.size, 0, #[], rfl, hb.size, heap_alloc_new X _, Nat.le_refl _, by unfold maxLen; omega, rfl, rfl⟩⟩, hb.alloc hb.size _, ⟨_, _, rfl⟩, fun g e => by cases e⟩
theorem pc_a (w5 : World) : PcSt w5 (w5.alloc (.cells #[] 5)) (.slice (some ⟨w5.heap.size, 0, none⟩) 0 0) [] none := pc_empty w5 w5 (Below.refl _ _)
theorem pc_b (w5 : World) : PcSt w5 ((w5.alloc (.cells #[] 5)).alloc unBox) (.slice (some ⟨w5.heap.size, 0, none⟩) 0 0) [] (some (w5.heap.size + 1)) := by
  have h := (pc_a w5).alloc
  rw [show (w5.alloc (.cells #[] 5)).heap.size = w5.heap.size + 1 by simp] at h
  exact h
theorem pc_c (w5 : World) : PcSt w5 ((w5.alloc unBox).alloc (.cells #[] 5)) (.slice (some ⟨w5.heap.size + 1, 0, none⟩) 0 0) [] (some w5.heap.size) := by
  have h := pc_empty w5 (w5.alloc unBox) ((Below.refl _ _).alloc (Nat.le_refl _) _)
  have hz : (w5.alloc unBox).heap.size = w5.heap.size + 1 := by simp
  rw [hz] at h
  refine ⟨h.own, h.bel, h.some_, fun g e => ?_⟩
  obtain rfl : w5.heap.size = g := by simpa using e
  have hal := (Below.refl (w5.alloc unBox).heap.size (w5.alloc unBox)).alloc (Nat.le_refl _) (.cells #[] 5)
  exact ⟨Nat.le_refl _, (hal.block w5.heap.size (by rw [hz]; omega)).trans (heap_alloc_new w5 _), by simp [Value.ownBlock]⟩
theorem box_cells {W : World} {g : Nat} (h : Blk W g #[.slice none 0 0, .slice none 0 0] 25) : W.cell? ⟨g, 0, none⟩ = some (.slice none 0 0) ∧ W.cell? ⟨g, 1, none⟩ = some (.slice none 0 0) ∧ W.frozen? ⟨g, 0, none⟩ = false ∧ W.frozen? ⟨g, 1, none⟩ = false :=
  ⟨h.cell 0, h.cell 1, frozen_of_row W g 0 _ _ h, frozen_of_row W g 1 _ _ h⟩
/-- What stands behind the second cut. -/
def PcGot (w5 : World) (us : List UnitM) (r : List Nat) (G : Option Nat) (a p : Option Addr) (c q : Nat) (w' : World) : Prop :=
  UnAt w' a us ∧ RowAt w' p r ∧ Below w5.heap.size w5 w' ∧ ∀ g, G = some g → (w'.cell? ⟨g, 0, none⟩ = some (.slice none 0 0) ∧ w'.cell? ⟨g, 1, none⟩ = some (.slice none 0 0) ∧ w'.frozen? ⟨g, 0, none⟩ = false ∧ w'.frozen? ⟨g, 1, none⟩ = false) ∧ Ans ((w'.setCell ⟨g, 0, none⟩ (.slice a us.length c)).setCell ⟨g, 1, none⟩ (.slice p r.length q)) g a p us.length r.length c q us r ∧ Below w5.heap.size w5 ((w'.setCell ⟨g, 0, none⟩ (.slice a us.length c)).setCell ⟨g, 1, none⟩ (.slice p r.length q))
/-- The second cut, whatever stands. -/
theorem pc_call (lits : Bool) (d : List Nat) (h256 : ∀ x ∈ d, x < 256) (hd : d.length ≤ 1048576) {w5 W : World} {G : Option Nat} {g c : Nat} (hE : ∀ W, Below w5.heap.size w5 W → Env W) (n : Nat) (hn : d.length = n) (h : PcSt w5 W (.slice (some ⟨g, 0, none⟩) n c) d G) :
    Calls Tryd.prog 8 #[.bool lits, .slice (some ⟨g, 0, none⟩) n c] W fun e w' => ∃ a c p q, e = .returned (.agg #[.slice a (cutAll lits d).1.length c, .slice p (cutAll lits d).2.length q]) ∧ PcGot w5 (cutAll lits d).1 (cutAll lits d).2 G a p c q w' := by
  subst hn
  have hlt := (World.ownsRow.lt h.own _ rfl).2
  have hcap : d.length ≤ c := by
    rcases h.own.2 with ⟨e, _⟩ | ⟨g1, cap, cur, e, _, _, hn, _⟩
    · cases e
    · simp only [Value.slice.injEq] at e; omega
  refine (implCut_any lits g 0 c d W (hE W h.bel) h256 hd hcap (tx_of_row h.own.row) hlt).mono ?_
  rintro e w' ⟨v, vs, rv, rfl, ow, rs, ap, hb⟩
  obtain ⟨a, c', rfl⟩ := ow.slice
  obtain ⟨p, q, rfl⟩ := rs.slice
  have hB := h.bel.trans (hb.mono h.bel.size)
  refine ⟨a, c', p, q, rfl, ow.unAt, rs.row, hB, fun g1 e => ?_⟩
  obtain ⟨b1, b2, _⟩ := h.box g1 e
  have hl1 : g1 < W.heap.size := by
    rcases Nat.lt_or_ge g1 W.heap.size with h' | h'
    · exact h'
    · rw [Array.getElem?_eq_none h'] at b2; cases b2
  have hk : Blk w' g1 #[.slice none 0 0, .slice none 0 0] 25 := (hb.block g1 hl1).trans b2
  refine ⟨box_cells hk, ⟨(hk.set 0 _).set 1 _, ((ow.other hl1 _).other hl1 _).unAt, (ownB_low (ownB_low rs hl1 _) hl1 _).row⟩, ?_⟩
  exact (hB.setCell b1 _).setCell b1 _
/-- One append of the statement. -/
theorem pc_append {ops : Array Oper} {o : Oper} {act : Act} {K : Act → World → Prop} {Q : Exit → Act → World → Prop} {E : Prop} (W : World) (hgd : o.guard = none) (s x : Operand)
    (ho : o.op = .call { callee := .builtin .append, args := #[s, x], argTypes := #[22, 22] })
    (w5 : World) (v : Value) (l m : List Nat) (G : Option Nat) (n : Nat) (hn : m.length = n) (ad : Option Addr) (c : Nat) (hs : act.eval s = v) (hx : act.eval x = .slice ad n c) (h : PcSt w5 W v l G) (hr : RowAt w5 ad m) (hlen : l.length + m.length ≤ 1099511627776) (d : List Nat) (hd : l ++ m = d) (N : Nat) (hN : d.length = N)
    (hK : ∀ g c' w', PcSt w5 w' (.slice (some ⟨g, 0, none⟩) N c') d G → K (act.put o.dst (.slice (some ⟨g, 0, none⟩) N c')) w') : if Region.wanted o (yielded ops act.tmps) = true then Oper.wp Tryd.prog o act W K Q else E := by
  subst hn
  subst hd
  subst hN
  refine step_append_blk W hgd s x ho w5.heap.size v l m hs h.own ad c hx (hr.below h.bel) hlen h.bel.size ?_
  intro v' w' ho' hg hk
  have h2 := h.app ho' hg hk
  obtain ⟨g, c', rfl⟩ := h2.some_
  exact hK g c' w' h2
end Go.Proofs.YtledlicandlekaaDoor
namespace Go.Proofs.YtledlicandlekaaDoor
open Go.RowKit
set_option maxRecDepth 20000 in
set_option maxHeartbeats 4000000 in
theorem pieces_small (a0 : Option Addr) (cap0 : Nat) (code : List Nat) (w : World) (hc : CodeIn w a0 code) (hE : Env w) (DC : Calls Tryd.prog 19 #[.slice a0 code.length cap0] w (DrawnC w)) :
    Calls Tryd.prog 5 #[.slice a0 code.length cap0] w fun e w' => e = .returned (.bool true) ∧ Below w.heap.size w w' := by
  have hi : ¬ (1048576 : Int) < (code.length : Int) := by have := hc.len; omega
  have HE := hide (fun (W : World) (h : Below w.heap.size w W) => hE.below h)
  have D0 := hide DC
  clear hc hE DC
  go_enter Tryd.func5, Tryd.ntmps5
  go_wp2_with fail
  refine D0.out.mono ?_
  rintro e w1 ⟨lits, b, c, l, rfl, hlc, hl2, h256, hrow, hbw, hb1⟩
  have SP := hide (spec_cut lits b 0 c l.length l rfl w1 (by omega) hlc (tx_of_row hrow) hbw)
  have HR1 := hide (tx_of_row hrow)
  have HB1 := hide hb1
  have H256 := hide h256
  have hcl := cut_len lits l
  clear hrow hb1 h256 D0
  go_wp2_with fail
  refine SP.out.mono ?_
  rintro e w2 ⟨a2, c2, p2, q2, rfl, hu2, hr2, hb2⟩
  have hur : ∃ us r, cutAll lits l = (us, r) := ⟨_, _, rfl⟩
  obtain ⟨us, r, hur⟩ := hur
  simp only [hur] at hu2 hr2 hcl ⊢
  have HUR := hide hur
  clear hur
  have A3 := hide (ans_box (n := us.length) (m := r.length) (c := c2) (q := q2) hu2 hr2)
  have hal2 := (Below.refl w2.heap.size w2).alloc (Nat.le_refl _) (.cells #[.slice a2 us.length c2, .slice p2 r.length q2] 25)
  have B13 := hide (hb2.trans (hal2.mono hb2.size))
  have hz1 := HB1.out.size
  have hz2 := hb2.size
  have hbw3 : b < w2.heap.size + 1 := by omega
  clear hu2 hr2 hb2 SP hal2
  have hPC := hide (fun (x y : List Nat) => cut_pieces lits x.length x y (Nat.le_refl _))
  go_wp2
  generalize hw3 : w2.alloc (.cells #[.slice a2 us.length c2, .slice p2 r.length q2] 25) = w3 at A3 B13 ⊢
  have hz3 : w3.heap.size = w2.heap.size + 1 := by rw [← hw3]; simp
  clear hw3
  generalize w2.heap.size = g2 at A3 hbw3 hz3 hz2 ⊢
  go_loopw [6] (fun n wr => ∃ k : Nat, k ≤ 301 ∧ n = .int .i64 (k : Int) ∧ Below w3.heap.size w3 wr) (fun n _ => 301 - (intOf n).toNat)
  case atStart => exact ⟨0, by omega, rfl, Below.refl _ _⟩
  case round =>
    obtain ⟨k, hk, rfl, hbr⟩ := hrel
    have hzr := hbr.size
    have BR := hide hbr
    clear hbr
    by_cases hkl : k ≤ l.length
    · have hkl' : (k : Int) ≤ (l.length : Int) := by omega
      by_cases hk3 : k ≤ 300
      · have hk3' : (k : Int) ≤ 300 := by omega
        have hBw := hide ((HB1.out.trans (B13.out.mono HB1.out.size)).trans (BR.out.mono (by omega)))
        have TXr := hide ((HR1.out.below B13.out).below BR.out)
        have IP := hide (impl_cut lits b 0 c k (l.take k) (by rw [List.length_take]; omega) wr (HE.out wr hBw.out) (fun x hx => H256.out x (List.mem_of_mem_take hx)) (by rw [List.length_take]; omega) (by rw [List.length_take]; omega) (TXr.out.take k) (by omega))
        have hkc : k ≤ c := by omega
        have hkc' : (k : Int) ≤ (c : Int) := by omega
        go_wp2_with fail
        refine IP.out.mono ?_
        rintro e w4 ⟨a4, c4, p4, q4, rfl, hu4, hr4, hb4⟩
        have A5 := hide (ans_box (n := (cutAll lits (l.take k)).1.length) (m := (cutAll lits (l.take k)).2.length) (c := c4) (q := q4) hu4 hr4)
        have hal4 := (Below.refl w4.heap.size w4).alloc (Nat.le_refl _) (.cells #[.slice a4 (cutAll lits (l.take k)).1.length c4, .slice p4 (cutAll lits (l.take k)).2.length q4] 25)
        have B35 := hide (BR.out.trans ((hb4.trans (hal4.mono hb4.size)).mono BR.out.size))
        clear hu4 hr4 hb4 hal4 IP TXr
        have hcl4 := cut_len lits (l.take k)
        have hp := hPC.out (l.take k) (l.drop k)
        rw [List.take_append_drop] at hp
        have hlk : (l.take k).length = k := by rw [List.length_take]; omega
        rw [hlk] at hcl4
        have hdl : (l.drop k).length = l.length - k := List.length_drop
        have hd256 : ∀ x ∈ l.drop k, x < 256 := fun x hx => H256.out x (List.mem_of_mem_drop hx)
        have hr256 : ∀ x ∈ (cutAll lits (l.take k)).2, x < 256 := fun x hx => H256.out x (List.mem_of_mem_take (cut_rest_mem lits (l.take k) x hx))
        generalize (cutAll lits (l.take k)).1 = us4 at A5 B35 hp hcl4 ⊢
        generalize (cutAll lits (l.take k)).2 = r4 at A5 B35 hp hcl4 hr256 ⊢
        have hcl5 := cut_len lits (r4 ++ l.drop k)
        rw [List.length_append, hdl] at hcl5
        have HU := hide (congrArg Prod.fst (HUR.out.symm.trans hp))
        have HV := hide (congrArg Prod.snd (HUR.out.symm.trans hp))
        clear hp
        go_wp2
        generalize w4.alloc (.cells #[.slice a4 us4.length c4, .slice p4 r4.length q4] 25) = w5 at A5 B35 ⊢
        generalize w4.heap.size = g4 at A5 ⊢
        have hg4 : g4 < w5.heap.size := A5.out.box.lt
        obtain ⟨y0, y1⟩ := A5.out.cells
        have TX5 := hide ((HR1.out.below B13.out).below B35.out)
        have RD := hide (show RowAt w5 (some ⟨b, k, none⟩) (l.drop k) by have h := TX5.out.drop k; rw [Nat.zero_add] at h; exact h.row)
        have RR := hide A5.out.row
        have B05 := hide ((HB1.out.trans (B13.out.mono HB1.out.size)).trans (B35.out.mono (by omega)))
        have HEW := hide (fun (W : World) (h : Below w5.heap.size w5 W) => HE.out W (B05.out.trans (h.mono B05.out.size)))
        have hN5 : (r4 ++ l.drop k).length = r4.length + (l.length - k) := by rw [List.length_append, hdl]
        have PC := hide (fun (W : World) (G : Option Nat) (g c : Nat) (h : PcSt w5 W (.slice (some ⟨g, 0, none⟩) (r4.length + (l.length - k)) c) (r4 ++ l.drop k) G) => pc_call lits (r4 ++ l.drop k) (fun x hx => (List.mem_append.1 hx).elim (hr256 x) (hd256 x)) (by rw [hN5]; omega) HEW.out _ hN5 h)
        have HN5 := hide hN5
        have HDL := hide hdl
        clear hN5 hdl
        have hrl4 : r4.length ≤ 20000 := by omega
        clear hr256 hd256
        go_cut [8] (fun s8 wx => ∃ (G : Nat) (a6 p6 : Option Addr) (c6 q6 : Nat), s8 = .pointer (some ⟨G, 0, none⟩) ∧ Ans wx G a6 p6 (cutAll lits (r4 ++ l.drop k)).1.length (cutAll lits (r4 ++ l.drop k)).2.length c6 q6 (cutAll lits (r4 ++ l.drop k)).1 (cutAll lits (r4 ++ l.drop k)).2 ∧ Below w5.heap.size w5 wx)
        case first =>
          by_cases hck : c = k
          · have RD0 := hide (show RowAt w5 (some ⟨b, 0, none⟩) (l.drop k) from fun hp => by rw [HDL.out] at hp; omega)
            clear RD
            go_region_law (first
              | (refine pc_append _ (by rfl) (.tmp 39) (.tmp 41) (by rfl) w5 (.slice (some ⟨w5.heap.size, 0, none⟩) 0 0) [] r4 _ r4.length rfl p4 q4 (by rfl) (by rfl) (PcSt.like (pc_a w5) (by rfl) (by rfl) (by rfl) (by rfl)) RR.out (by simp; omega) r4 rfl r4.length rfl ?_; intro g6 c6 w6 hs6; have HS6 := hide hs6; clear hs6)
              | (refine pc_append _ (by rfl) (.tmp 39) (.tmp 41) (by rfl) w5 (.slice (some ⟨w5.heap.size, 0, none⟩) 0 0) [] r4 _ r4.length rfl p4 q4 (by rfl) (by rfl) (PcSt.like (pc_b w5) (by rfl) (by rfl) (by rfl) (by rfl)) RR.out (by simp; omega) r4 rfl r4.length rfl ?_; intro g6 c6 w6 hs6; have HS6 := hide hs6; clear hs6)
              | (refine pc_append _ (by rfl) (.tmp 39) (.tmp 41) (by rfl) w5 (.slice (some ⟨w5.heap.size + 1, 0, none⟩) 0 0) [] r4 _ r4.length rfl p4 q4 (by rfl) (by rfl) (PcSt.like (pc_c w5) (by rfl) (by rfl) (by rfl) (by rfl)) RR.out (by simp; omega) r4 rfl r4.length rfl ?_; intro g6 c6 w6 hs6; have HS6 := hide hs6; clear hs6)
              | (refine pc_append _ (by rfl) (.tmp 42) (.tmp 45) (by rfl) w5 (.slice (some ⟨g6, 0, none⟩) r4.length c6) r4 (l.drop k) _ (l.length - k) HDL.out (some ⟨b, 0, none⟩) 0 (by rfl) (by rfl) (PcSt.like HS6.out (by rfl) (by rfl) (by rfl) (by rfl)) RD0.out (by rw [HDL.out]; omega) (r4 ++ l.drop k) rfl (r4.length + (l.length - k)) HN5.out ?_; intro g7 c7 w7 hs7; have HS7 := hide hs7; clear hs7)
              | (refine pc_append _ (by rfl) (.tmp 42) (.tmp 45) (by rfl) w5 (.slice (some ⟨g6, 0, none⟩) r4.length c6) r4 (l.drop k) _ (l.length - k) HDL.out (some ⟨b, 0, none⟩) 0 (by rfl) (by rfl) (PcSt.like HS6.out.alloc (by rfl) (by rfl) (by rfl) (by rfl)) RD0.out (by rw [HDL.out]; omega) (r4 ++ l.drop k) rfl (r4.length + (l.length - k)) HN5.out ?_; intro g7 c7 w7 hs7; have HS7 := hide hs7; clear hs7)
              | (refine step_call_two 8 run_enterCut (.tmp 38) (.tmp 46) #[4, 22] (by rfl) (by rfl) (.bool lits) (.slice (some ⟨g7, 0, none⟩) (r4.length + (l.length - k)) c7) (by rfl) (by rfl) ?_; refine (PC.out _ _ _ _ (PcSt.like HS7.out (by rfl) (by rfl) (by rfl) (by rfl))).mono ?_; rintro e w8 ⟨a8, c8, p8, q8, rfl, hg8⟩; have HG := hide hg8; clear hg8; obtain ⟨⟨x0, x1, x2, x3⟩, -⟩ := HG.out.2.2.2 _ rfl; refine ⟨_, rfl, ?_⟩)
              | (refine step_call_two 8 run_enterCut (.tmp 38) (.tmp 46) #[4, 22] (by rfl) (by rfl) (.bool lits) (.slice (some ⟨g7, 0, none⟩) (r4.length + (l.length - k)) c7) (by rfl) (by rfl) ?_; refine (PC.out _ _ _ _ (PcSt.like HS7.out.alloc (by rfl) (by rfl) (by rfl) (by rfl))).mono ?_; rintro e w8 ⟨a8, c8, p8, q8, rfl, hg8⟩; have HG := hide hg8; clear hg8; obtain ⟨⟨x0, x1, x2, x3⟩, -⟩ := HG.out.2.2.2 _ rfl; refine ⟨_, rfl, ?_⟩)
              | (refine step_call_two 8 run_enterCut (.tmp 38) (.tmp 46) #[4, 22] (by rfl) (by rfl) (.bool lits) (.slice (some ⟨g7, 0, none⟩) (r4.length + (l.length - k)) c7) (by rfl) (by rfl) ?_; refine (PC.out _ _ _ _ (PcSt.like HS7.out (by rfl) (by rfl) (by rfl) (by rfl))).mono ?_; rintro e w8 ⟨a8, c8, p8, q8, rfl, hg8⟩; have HG := hide hg8; clear hg8; refine ⟨_, rfl, ?_⟩)
              | fail)
            all_goals
              go_wp2_with fail
              subst hck
              go_meet
              first
              | exact ⟨_, a8, p8, c8, q8, rfl, Ans.below (HG.out.2.2.2 _ rfl).2.1 (bel_like (Below.refl _ _) rfl rfl rfl rfl), bel_like (HG.out.2.2.2 _ rfl).2.2 rfl rfl rfl rfl⟩
              | exact ⟨_, a8, p8, c8, q8, rfl, Ans.below (ans_box HG.out.1 HG.out.2.1) (bel_like (Below.refl _ _) rfl rfl rfl rfl), bel_like (HG.out.2.2.1.alloc HG.out.2.2.1.size _) rfl rfl rfl rfl⟩
          · clear hk3 hi
            go_region_law (first
              | (refine pc_append _ (by rfl) (.tmp 39) (.tmp 41) (by rfl) w5 (.slice (some ⟨w5.heap.size, 0, none⟩) 0 0) [] r4 _ r4.length rfl p4 q4 (by rfl) (by rfl) (PcSt.like (pc_a w5) (by rfl) (by rfl) (by rfl) (by rfl)) RR.out (by simp; omega) r4 rfl r4.length rfl ?_; intro g6 c6 w6 hs6; have HS6 := hide hs6; clear hs6)
              | (refine pc_append _ (by rfl) (.tmp 39) (.tmp 41) (by rfl) w5 (.slice (some ⟨w5.heap.size, 0, none⟩) 0 0) [] r4 _ r4.length rfl p4 q4 (by rfl) (by rfl) (PcSt.like (pc_b w5) (by rfl) (by rfl) (by rfl) (by rfl)) RR.out (by simp; omega) r4 rfl r4.length rfl ?_; intro g6 c6 w6 hs6; have HS6 := hide hs6; clear hs6)
              | (refine pc_append _ (by rfl) (.tmp 39) (.tmp 41) (by rfl) w5 (.slice (some ⟨w5.heap.size + 1, 0, none⟩) 0 0) [] r4 _ r4.length rfl p4 q4 (by rfl) (by rfl) (PcSt.like (pc_c w5) (by rfl) (by rfl) (by rfl) (by rfl)) RR.out (by simp; omega) r4 rfl r4.length rfl ?_; intro g6 c6 w6 hs6; have HS6 := hide hs6; clear hs6)
              | (refine pc_append _ (by rfl) (.tmp 42) (.tmp 45) (by rfl) w5 (.slice (some ⟨g6, 0, none⟩) r4.length c6) r4 (l.drop k) _ (l.length - k) HDL.out (some ⟨b, k, none⟩) (c - k) (by rfl) (by rfl) (PcSt.like HS6.out (by rfl) (by rfl) (by rfl) (by rfl)) RD.out (by rw [HDL.out]; omega) (r4 ++ l.drop k) rfl (r4.length + (l.length - k)) HN5.out ?_; intro g7 c7 w7 hs7; have HS7 := hide hs7; clear hs7)
              | (refine pc_append _ (by rfl) (.tmp 42) (.tmp 45) (by rfl) w5 (.slice (some ⟨g6, 0, none⟩) r4.length c6) r4 (l.drop k) _ (l.length - k) HDL.out (some ⟨b, k, none⟩) (c - k) (by rfl) (by rfl) (PcSt.like HS6.out.alloc (by rfl) (by rfl) (by rfl) (by rfl)) RD.out (by rw [HDL.out]; omega) (r4 ++ l.drop k) rfl (r4.length + (l.length - k)) HN5.out ?_; intro g7 c7 w7 hs7; have HS7 := hide hs7; clear hs7)
              | (refine step_call_two 8 run_enterCut (.tmp 38) (.tmp 46) #[4, 22] (by rfl) (by rfl) (.bool lits) (.slice (some ⟨g7, 0, none⟩) (r4.length + (l.length - k)) c7) (by rfl) (by rfl) ?_; refine (PC.out _ _ _ _ (PcSt.like HS7.out (by rfl) (by rfl) (by rfl) (by rfl))).mono ?_; rintro e w8 ⟨a8, c8, p8, q8, rfl, hg8⟩; have HG := hide hg8; clear hg8; obtain ⟨⟨x0, x1, x2, x3⟩, -⟩ := HG.out.2.2.2 _ rfl; refine ⟨_, rfl, ?_⟩)
              | (refine step_call_two 8 run_enterCut (.tmp 38) (.tmp 46) #[4, 22] (by rfl) (by rfl) (.bool lits) (.slice (some ⟨g7, 0, none⟩) (r4.length + (l.length - k)) c7) (by rfl) (by rfl) ?_; refine (PC.out _ _ _ _ (PcSt.like HS7.out.alloc (by rfl) (by rfl) (by rfl) (by rfl))).mono ?_; rintro e w8 ⟨a8, c8, p8, q8, rfl, hg8⟩; have HG := hide hg8; clear hg8; obtain ⟨⟨x0, x1, x2, x3⟩, -⟩ := HG.out.2.2.2 _ rfl; refine ⟨_, rfl, ?_⟩)
              | (refine step_call_two 8 run_enterCut (.tmp 38) (.tmp 46) #[4, 22] (by rfl) (by rfl) (.bool lits) (.slice (some ⟨g7, 0, none⟩) (r4.length + (l.length - k)) c7) (by rfl) (by rfl) ?_; refine (PC.out _ _ _ _ (PcSt.like HS7.out (by rfl) (by rfl) (by rfl) (by rfl))).mono ?_; rintro e w8 ⟨a8, c8, p8, q8, rfl, hg8⟩; have HG := hide hg8; clear hg8; refine ⟨_, rfl, ?_⟩)
              | fail)
            all_goals
              go_wp2_with fail
              go_meet
              first
              | exact ⟨_, a8, p8, c8, q8, rfl, Ans.below (HG.out.2.2.2 _ rfl).2.1 (bel_like (Below.refl _ _) rfl rfl rfl rfl), bel_like (HG.out.2.2.2 _ rfl).2.2 rfl rfl rfl rfl⟩
              | exact ⟨_, a8, p8, c8, q8, rfl, Ans.below (ans_box HG.out.1 HG.out.2.1) (bel_like (Below.refl _ _) rfl rfl rfl rfl), bel_like (HG.out.2.2.1.alloc HG.out.2.2.1.size _) rfl rfl rfl rfl⟩
        case rest =>
          obtain ⟨G, a6, p6, c6, q6, rfl, hA6, hb6⟩ := hcut
          have A6 := hide hA6
          have A56 := hide (A5.out.below hb6)
          have A36 := hide ((A3.out.below B35.out).below hb6)
          have B36 := hide (B35.out.trans (hb6.mono B35.out.size))
          clear hA6 hb6 A5 B35 y0 y1 RD RR PC HEW TX5
          have hus := congrArg List.length HU.out
          rw [List.length_append] at hus
          generalize (cutAll lits (r4 ++ l.drop k)).1 = us5 at A6 HU hus hcl5 ⊢
          generalize (cutAll lits (r4 ++ l.drop k)).2 = r5 at A6 HV hcl5 ⊢
          obtain ⟨x0, x1⟩ := A6.out.cells
          obtain ⟨y0, y1⟩ := A56.out.cells
          obtain ⟨z0, z1⟩ := A36.out.cells
          have hsum : (us4.length : Int) + (us5.length : Int) = (us.length : Int) := by omega
          have HUS := hide hus
          clear hus
          have HSB := hide (show Calls Tryd.prog 20 #[.slice p6 r5.length q6, .slice p2 r.length q2] wc fun e w' => e = .returned (.bool true) ∧ w' = wc by
            have h := A36.out.row
            rw [HV.out] at h ⊢
            exact sameBytes_any p6 p2 q6 q2 r5 wc A6.out.row h)
          go_wp2_with fail
          refine HSB.out.mono ?_
          rintro e w9 ⟨rfl, rfl⟩
          clear HSB
          go_wp2_with fail
          clear x0 x1 y0 y1 z0 z1 hsum
          go_loopw [70] (fun i wq => ∃ m : Nat, m ≤ us.length ∧ i = .int .i64 (m : Int) ∧ Below w9.heap.size w9 wq) (fun i _ => us.length - (intOf i).toNat)
          case atStart => exact ⟨0, Nat.zero_le _, rfl, Below.refl _ _⟩
          case round =>
            obtain ⟨m, hm, rfl, hnm⟩ := hrel
            have HN := hide hnm
            clear hnm
            by_cases hlt : m < us.length
            · have hmi : (m : Int) < (us.length : Int) := by omega
              obtain ⟨b2, off2, rfl, hc2⟩ := (A36.out.un.below HN.out) (by omega)
              obtain ⟨ai, ci, pi, qi, e0, e1, e2, e3, ri, si⟩ := hc2 m hlt
              by_cases h4 : m < us4.length
              · have hmi4 : (m : Int) < (us4.length : Int) := by omega
                have hue : us[m] = us4[m]'(h4) := by
                  have h := congrArg (fun x => x[m]?) HU.out
                  rw [List.getElem?_append_left h4, List.getElem?_eq_getElem hlt, List.getElem?_eq_getElem h4, Option.some.injEq] at h; exact h
                obtain ⟨b4, off4, rfl, hc4⟩ := (A56.out.un.below HN.out) (by omega)
                obtain ⟨aj, cj, pj, qj, d0, d1, d2, d3, rj, sj⟩ := hc4 (m) (h4)
                rw [← hue] at d0 d1 d2 d3 rj sj
                obtain ⟨x0, -⟩ := (A6.out.below HN.out).cells
                obtain ⟨y0, -⟩ := (A56.out.below HN.out).cells
                have hg4w := (A56.out.below HN.out).box.lt
                have hGw := (A6.out.below HN.out).box.lt
                have hb4w : b4 < wr.heap.size := lt_of_cell0 d0
                have hb2w : b2 < wr.heap.size := lt_of_cell0 e0
                have hB2 := ((Below.refl wr.heap.size wr).alloc (Nat.le_refl _) (.cells #[.slice ai us[m].1.length ci, .slice pi us[m].2.1.length qi, .bool us[m].2.2.1, .bool us[m].2.2.2] 44)).alloc (by simp) (.cells #[.slice aj us[m].1.length cj, .slice pj us[m].2.1.length qj, .bool us[m].2.2.1, .bool us[m].2.2.2] 44)
                have S1 := hide (sameBytes_any aj ai cj ci us[m].1 _ (rj.below hB2) (ri.below hB2))
                have S2 := hide (sameBytes_any pj pi qj qi us[m].2.1 _ (sj.below hB2) (si.below hB2))
                have HN2 := hide (HN.out.trans (hB2.mono HN.out.size))
                clear hB2 ri si rj sj hc2 hc4 hue A6 A56 A36
                generalize us[m].1 = l0 at *
                generalize us[m].2.1 = m0 at *
                generalize us[m].2.2.1 = f0 at *
                generalize us[m].2.2.2 = f1 at *
                go_wp2_with fail
                refine S1.out.mono ?_
                rintro e w10 ⟨rfl, rfl⟩
                go_wp2_with fail
                refine S2.out.mono ?_
                rintro e w11 ⟨rfl, rfl⟩
                go_wp2
                go_roundw
                case rel => exact ⟨m + 1, by omega, by go_num, HN2.out⟩
                case measure => simp [intOf]; omega
              · have hmi4 : ¬ (m : Int) < (us4.length : Int) := by omega
                have h5 : m - us4.length < us5.length := by have := HUS.out; omega
                have hsub : (m : Int) - (us4.length : Int) = ((m - us4.length : Nat) : Int) := by omega
                have hue : us[m] = us5[m - us4.length]'(h5) := by
                  have h := congrArg (fun x => x[m]?) HU.out
                  rw [List.getElem?_append_right (by omega), List.getElem?_eq_getElem hlt, List.getElem?_eq_getElem h5, Option.some.injEq] at h; exact h
                obtain ⟨b4, off4, rfl, hc4⟩ := (A6.out.un.below HN.out) (by omega)
                obtain ⟨aj, cj, pj, qj, d0, d1, d2, d3, rj, sj⟩ := hc4 (m - us4.length) (h5)
                rw [← hue] at d0 d1 d2 d3 rj sj
                obtain ⟨x0, -⟩ := (A6.out.below HN.out).cells
                obtain ⟨y0, -⟩ := (A56.out.below HN.out).cells
                have hg4w := (A56.out.below HN.out).box.lt
                have hGw := (A6.out.below HN.out).box.lt
                have hb4w : b4 < wr.heap.size := lt_of_cell0 d0
                have hb2w : b2 < wr.heap.size := lt_of_cell0 e0
                have hB2 := ((Below.refl wr.heap.size wr).alloc (Nat.le_refl _) (.cells #[.slice ai us[m].1.length ci, .slice pi us[m].2.1.length qi, .bool us[m].2.2.1, .bool us[m].2.2.2] 44)).alloc (by simp) (.cells #[.slice aj us[m].1.length cj, .slice pj us[m].2.1.length qj, .bool us[m].2.2.1, .bool us[m].2.2.2] 44)
                have S1 := hide (sameBytes_any aj ai cj ci us[m].1 _ (rj.below hB2) (ri.below hB2))
                have S2 := hide (sameBytes_any pj pi qj qi us[m].2.1 _ (sj.below hB2) (si.below hB2))
                have HN2 := hide (HN.out.trans (hB2.mono HN.out.size))
                clear hB2 ri si rj sj hc2 hc4 hue A6 A56 A36
                generalize us[m].1 = l0 at *
                generalize us[m].2.1 = m0 at *
                generalize us[m].2.2.1 = f0 at *
                generalize us[m].2.2.2 = f1 at *
                go_wp2_with fail
                refine S1.out.mono ?_
                rintro e w10 ⟨rfl, rfl⟩
                go_wp2_with fail
                refine S2.out.mono ?_
                rintro e w11 ⟨rfl, rfl⟩
                go_wp2
                go_roundw
                case rel => exact ⟨m + 1, by omega, by go_num, HN2.out⟩
                case measure => simp [intOf]; omega
            · have hmi : ¬ (m : Int) < (us.length : Int) := by omega
              go_wp2
              go_roundw
              case rel => exact ⟨k + 1, by omega, by go_num, B36.out.trans (HN.out.mono B36.out.size)⟩
              case measure => simp [intOf]; omega
      · have hk3' : ¬ (k : Int) ≤ 300 := by omega
        go_wp2
        go_ret
        exact ⟨rfl, (HB1.out.trans (B13.out.mono HB1.out.size)).trans (BR.out.mono (by omega))⟩
    · have hkl' : ¬ (k : Int) ≤ (l.length : Int) := by omega
      go_wp2
      go_ret
      exact ⟨rfl, (HB1.out.trans (B13.out.mono HB1.out.size)).trans (BR.out.mono (by omega))⟩
end Go.Proofs.YtledlicandlekaaDoor
namespace Go.Proofs.YtledlicandlekaaDoor
open Go.RowKit
/-- append of bytes, maybe none, that lie at some address. -/
theorem wpList_append_at {ops : Array Oper} {rest : List Oper} {o : Oper} {act : Act} {Q : Exit → Act → World → Prop} (w : World) (hgd : o.guard = none) (s x : Operand)
    (ho : o.op = .call { callee := .builtin .append, args := #[s, x], argTypes := #[22, 22] })
    (base : Nat) (v : Value) (l m : List Nat) (n : Nat) (hn : m.length = n) (hs : act.eval s = v) (hown : OwnB w base v l) (p : Addr) (c : Nat) (hx : act.eval x = .slice (some p) n c) (hr : RowAt w (some p) m)
    (hlen : l.length + m.length ≤ 1099511627776) (hbase : base ≤ w.heap.size)
    (h : ∀ v' w', OwnB w' base v' (l ++ m) → w.grownBy w' v.ownBlock → wpList Tryd.prog ops Q rest (act.put o.dst v') w') : wpList Tryd.prog ops Q (o :: rest) act w := by
  obtain ⟨i0, hi, hz0, hz1, hz2⟩ := info_parts Tryd.info5
  subst hn
  refine wpList_append_own w hgd s x 22 ho base 5 i0 (.int .u8 0) 1 1 Tryd.underlying22 hi hz0 hz1 hz2 rfl (by decide) v l.length (l.map bv) hs hown p m.length c (m.map bv) hx (by simp) ?_ ?_ (by unfold maxLen; omega) (by omega) hbase ?_
  · intro j u hj
    have hjm : j < m.length := by
      rcases Nat.lt_or_ge j m.length with h' | h'
      · exact h'
      · simp [List.getElem?_eq_none h'] at hj
    obtain ⟨b, off, e, hc⟩ := hr (by omega)
    simp only [Option.some.injEq] at e
    subst e
    rw [addr_add, hc j hjm]
    simp [hjm, bv] at hj
    rw [hj]
  · intro u hu
    simp only [List.mem_map] at hu
    obtain ⟨y, _, rfl⟩ := hu
    rfl
  · intro v' w' hown' hg _
    refine h v' w' ?_ hg
    unfold OwnB
    rw [List.length_append, List.map_append]
    exact hown'
end Go.Proofs.YtledlicandlekaaDoor
namespace Go.Proofs.YtledlicandlekaaDoor
open Go.RowKit
/-- The bytes of a string. -/
def strL (s : ByteArray) : List Nat := s.data.toList.map (·.toNat)
theorem strL_length (s : ByteArray) : (strL s).length = s.size := by unfold strL; rw [List.length_map, Array.length_toList]; rfl
theorem strL_byte (s : ByteArray) : ∀ x ∈ strL s, x < 256 := by
  intro x hx
  unfold strL at hx
  obtain ⟨b, _, rfl⟩ := List.mem_map.1 hx
  exact b.toNat_lt
theorem strL_cells (s : ByteArray) : Lib.strCells s = (strL s).map bv := by
  unfold Lib.strCells strL bv
  rw [List.map_map]
  rfl
theorem wpList_append_str {ops : Array Oper} {rest : List Oper} {o : Oper} {act : Act} {Q : Exit → Act → World → Prop} (w : World) (hgd : o.guard = none) (s x : Operand)
    (ho : o.op = .call { callee := .builtin .append, args := #[s, x], argTypes := #[22, 9] })
    (base : Nat) (v : Value) (l : List Nat) (t : ByteArray) (hs : act.eval s = v) (hown : OwnB w base v l) (hx : act.eval x = .string t)
    (hlen : l.length + t.size ≤ 1099511627776) (hbase : base ≤ w.heap.size)
    (h : ∀ v' w', OwnB w' base v' (l ++ strL t) → w.grownBy w' v.ownBlock → wpList Tryd.prog ops Q rest (act.put o.dst v') w') : wpList Tryd.prog ops Q (o :: rest) act w := by
  obtain ⟨i0, hi, hz0, hz1, hz2⟩ := info_parts Tryd.info5
  refine Lib.wpList_append_own_string (P := Tryd.prog) w hgd s x 22 9 ho base 5 i0 Tryd.underlying22 Tryd.underlying9 hi hz0 hz1 hz2 v l.length (l.map bv) hs hown t hx (by unfold maxLen; omega) (by omega) hbase ?_
  intro v' w' hown' hg _
  refine h v' w' ?_ hg
  unfold OwnB
  rw [List.length_append, List.map_append, strL_length, ← strL_cells]
  exact hown'
theorem word_size (n : Nat) : (ByteArray.extract ⟨#[119, 111, 114, 100, 32]⟩ 0 n).size ≤ 5 := by
  rw [ByteArray.size_extract]
  exact Nat.le_trans (Nat.sub_le _ _) (Nat.min_le_right _ _)
/-- A body on its way: at most n bytes, the reader somewhere. -/
def QB (w wr : World) (p : Nat) (cv : Value) (code : List Nat) (v : Value) (n : Nat) : Prop := ∃ l j, OwnB wr w.heap.size v l ∧ l.length ≤ n ∧ (∀ x ∈ l, x < 256) ∧ Rd wr p cv code j ∧ w.grownBy wr (some p)
theorem qb_more {w wr w6 : World} {p : Nat} {cv : Value} {code : List Nat} {v v6 : Value} {n j : Nat} {l m : List Nat} (hp : p < w.heap.size) (ho : OwnB wr w.heap.size v l) (hl : l.length ≤ n) (hb : ∀ x ∈ l, x < 256) (hr : Rd wr p cv code j) (hg : w.grownBy wr (some p)) (hm : m.length ≤ 10) (hmb : ∀ x ∈ m, x < 256)
    (h6 : OwnB w6 w.heap.size v6 (l ++ m)) (hg6 : wr.grownBy w6 v.ownBlock) : QB w w6 p cv code v6 (n + 10) :=
  ⟨l ++ m, j, h6, by rw [List.length_append]; omega, fun x hx => (List.mem_append.1 hx).elim (hb x) (hmb x), hr.grown hg6 (own_ne' ho hp), grown_new hg hg6 (fun b e => (World.ownsRow.lt ho b e).1)⟩
theorem one_row (W : World) (x : Nat) : RowAt (W.alloc (.cells #[.int .u8 (x : Int)] 5)) (some ⟨W.heap.size, 0, none⟩) [x] := fun _ => by
  refine ⟨_, _, rfl, fun i hi => ?_⟩
  have h := heap_alloc_new W (.cells #[.int .u8 (x : Int)] 5)
  rw [cell_of_row _ _ _ _ _ _ h]
  obtain rfl : i = 0 := by simpa using hi
  rfl
theorem two_row (W : World) (x y : Nat) : RowAt (W.alloc (.cells #[.int .u8 (x : Int), .int .u8 (y : Int)] 5)) (some ⟨W.heap.size, 0, none⟩) [x, y] := fun _ => by
  refine ⟨_, _, rfl, fun i hi => ?_⟩
  have h := heap_alloc_new W (.cells #[.int .u8 (x : Int), .int .u8 (y : Int)] 5)
  rw [cell_of_row _ _ _ _ _ _ h]
  match i, hi with
  | 0, _ => rfl
  | 1, _ => rfl
/-- A body on its way keeps when a new block comes. -/
theorem qb_new {w wr w6 : World} {p : Nat} {cv : Value} {code : List Nat} {v v6 : Value} {n j : Nat} {l m : List Nat} (o : Obj) (hp : p < w.heap.size) (ho : OwnB wr w.heap.size v l) (hl : l.length ≤ n) (hb : ∀ x ∈ l, x < 256) (hr : Rd wr p cv code j) (hg : w.grownBy wr (some p)) (hm : m.length ≤ 10) (hmb : ∀ x ∈ m, x < 256)
    (h6 : OwnB w6 w.heap.size v6 (l ++ m)) (hg6 : (wr.alloc o).grownBy w6 v.ownBlock) : QB w w6 p cv code v6 (n + 10) := by
  have hB := (Below.refl wr.heap.size wr).alloc (Nat.le_refl _) o
  have hs := hg.size
  exact qb_more hp (ho.below hB (Nat.le_refl _)) hl hb (hr.below hB hr.lt) ⟨hB.os.trans hg.os, hB.tape.trans hg.tape, hB.output.trans hg.output, Nat.le_trans hg.size hB.size, fun k hk hne => (hB.block k (by omega)).trans (hg.block k hk hne)⟩ hm hmb h6 hg6
set_option maxRecDepth 20000 in
set_option maxHeartbeats 4000000 in
theorem l3Body_any (p : Nat) (a : Option Addr) (cap : Nat) (code : List Nat) (i : Nat) (w0 w : World) (hl : code.length ≤ 1048576) (hr : RowAt w0 a code) (hw : Below w0.heap.size w0 w) (hp : w0.heap.size ≤ p) (hb : ∀ x ∈ code, x < 256) (hrd : Rd w p (.slice a code.length cap) code i) :
    Calls Tryd.prog 58 #[.pointer (some ⟨p, 0, none⟩)] w fun e w' => ∃ v, e = .returned v ∧ QB w w' p (.slice a code.length cap) code v 60 := by
  have hpl := hrd.lt
  have hx := nx_lt hb i
  have HB := hide hb
  have HR := hide hr
  have HW := hide hw
  go_enter Tryd.func58, Tryd.ntmps58
  go_wp2_with fail
  refine (next_any p a cap code i w hl (hr.below hw) hb hrd).mono ?_
  rintro e w1 ⟨rfl, hrd1, hg1, hz⟩
  have HQ0 := hide (show QB w w1 p (.slice a code.length cap) code (.slice none 0 0) ((6 - nx code i % 7) * 10) from ⟨[], i + 1, OwnB.nil _ _, Nat.zero_le _, (fun x h => by cases h), hrd1, hg1⟩)
  clear hrd1 hg1 hz hb hr hrd hw
  have hm6 : nx code i % 7 ≤ 6 := by have := Nat.mod_lt (nx code i) (show 0 < 7 by decide); omega
  generalize nx code i = c0 at hx HQ0 hm6 ⊢
  go_wp2
  go_loopw [3, 4, 5] (fun v n _ wr => ∃ m : Nat, m ≤ 6 ∧ n = .int .i64 (m : Int) ∧ QB w wr p (.slice a code.length cap) code v ((6 - m) * 10)) (fun _ n _ _ => (intOf n).toNat)
  case atStart => exact ⟨c0 % 7, hm6, val_int (by omega), HQ0.out⟩
  case round =>
    obtain ⟨m, hm, rfl, l, j, ho, hll, hlb, hrdj, hgj⟩ := hrel
    clear HQ0
    have hsz := hgj.size
    by_cases hm0 : 0 < m
    · have hmi : (0 : Int) < (m : Int) := by omega
      have hbm : Below w0.heap.size w0 wr := HW.out.trans ((Below.refl _ _).grown hgj HW.out.size (fun k h => by simp at h; omega))
      have hx' := nx_lt HB.out j
      have NX := hide (next_any p a cap code j wr hl (HR.out.below hbm) HB.out hrdj)
      have HG := hide hgj
      have HO := hide ho
      have HLB := hide hlb
      clear hrdj hbm hlb hgj ho
      go_wp2_with fail
      refine (NX.out).mono ?_
      rintro e w3 ⟨rfl, hrd3, hg3, hz3⟩
      have hg3' : w.grownBy w3 (some p) := grown_trans HG.out hg3
      have ho3 : OwnB w3 w.heap.size u3 l := World.ownsRow.kept HO.out hg3 (own_ne HO.out hpl)
      have HQ := hide (fun (v6 : Value) (w6 : World) (t : List Nat) (ht : t.length ≤ 10) (htb : ∀ x ∈ t, x < 256) (h6 : OwnB w6 w.heap.size v6 (l ++ t)) (hg6 : w3.grownBy w6 u3.ownBlock) => qb_more (n := (6 - m) * 10) hpl ho3 hll HLB.out hrd3 hg3' ht htb h6 hg6)
      have HQN := hide (fun (o : Obj) (v6 : Value) (w6 : World) (t : List Nat) (ht : t.length ≤ 10) (htb : ∀ x ∈ t, x < 256) (h6 : OwnB w6 w.heap.size v6 (l ++ t)) (hg6 : (w3.alloc o).grownBy w6 u3.ownBlock) => qb_new (n := (6 - m) * 10) o hpl ho3 hll HLB.out hrd3 hg3' ht htb h6 hg6)
      have HO3 := hide ho3
      have hs3 : w.heap.size ≤ w3.heap.size := hg3'.size
      have hN : (6 - m) * 10 + 10 = (6 - (m - 1)) * 10 := by omega
      have HON := hide (fun o : Obj => ho3.below ((Below.refl w3.heap.size w3).alloc (Nat.le_refl _) o) (Nat.le_refl _))
      rw [hN] at HQ HQN
      clear NX HG HO HLB hrd3 hg3 hz3 hg3' ho3 hN
      generalize nx code j = c at hx' ⊢
      have hl60 : l.length ≤ 60 := by omega
      have hms : ((m - 1 : Nat) : Int) = (m : Int) - 1 := by omega
      have hc12 : c % 12 < 12 := Nat.mod_lt _ (by decide)
      have hci : (c : Int) % 12 = ((c % 12 : Nat) : Int) := by omega
      generalize hd12 : c % 12 = d at hc12 hci
      match d, hc12 with
      | 0, _ =>
        have hk : (c : Int) % 12 = 0 := by omega
        clear hci hd12
        go_wp2_with (at_builtin; refine wpList_append_str _ rfl (.tmp 26) (.const (.string ⟨#[70, 114, 111, 109, 32, 109, 97, 105, 108, 10]⟩)) rfl w.heap.size u3 l ⟨#[70, 114, 111, 109, 32, 109, 97, 105, 108, 10]⟩ rfl HO3.out rfl (by show l.length + 10 ≤ _; omega) hs3 ?_; intro v6 w6 ho6 hg6)
        go_roundw
        case rel => exact ⟨m - 1, by omega, val_int (by omega), HQ.out v6 w6 _ (by rw [strL_length]; show 10 ≤ 10; omega) (strL_byte _) ho6 hg6⟩
        case measure => simp [intOf]; omega
      | 1, _ =>
        have hk : (c : Int) % 12 = 1 := by omega
        clear hci hd12
        go_wp2_with (at_builtin; refine wpList_append_str _ rfl (.tmp 30) (.const (.string ⟨#[62, 70, 114, 111, 109, 32, 120, 10]⟩)) rfl w.heap.size u3 l ⟨#[62, 70, 114, 111, 109, 32, 120, 10]⟩ rfl HO3.out rfl (by show l.length + 8 ≤ _; omega) hs3 ?_; intro v6 w6 ho6 hg6)
        go_roundw
        case rel => exact ⟨m - 1, by omega, val_int (by omega), HQ.out v6 w6 _ (by rw [strL_length]; show 8 ≤ 10; omega) (strL_byte _) ho6 hg6⟩
        case measure => simp [intOf]; omega
      | 2, _ =>
        have hk : (c : Int) % 12 = 2 := by omega
        clear hci hd12
        go_wp2_with (at_builtin; refine wpList_append_str _ rfl (.tmp 34) (.const (.string ⟨#[62, 62, 70, 114, 111, 109, 32]⟩)) rfl w.heap.size u3 l ⟨#[62, 62, 70, 114, 111, 109, 32]⟩ rfl HO3.out rfl (by show l.length + 7 ≤ _; omega) hs3 ?_; intro v6 w6 ho6 hg6)
        go_roundw
        case rel => exact ⟨m - 1, by omega, val_int (by omega), HQ.out v6 w6 _ (by rw [strL_length]; show 7 ≤ 10; omega) (strL_byte _) ho6 hg6⟩
        case measure => simp [intOf]; omega
      | 3, _ =>
        have hk : (c : Int) % 12 = 3 := by omega
        clear hci hd12
        have HR1 := hide (one_row w3 10)
        go_wp2_with (at_builtin; refine wpList_append_at _ rfl (.tmp 38) (.tmp 39) rfl w.heap.size u3 l [10] 1 rfl rfl (HON.out _) ⟨w3.heap.size, 0, none⟩ 1 rfl HR1.out (by simp; omega) (by simp; omega) ?_; intro v6 w6 ho6 hg6)
        go_roundw
        case rel => exact ⟨m - 1, by omega, val_int (by omega), HQN.out _ v6 w6 [10] (by simp) (by simp) ho6 hg6⟩
        case measure => simp [intOf]; omega
      | 4, _ =>
        have hk : (c : Int) % 12 = 4 := by omega
        clear hci hd12
        go_wp2_with (at_builtin; refine wpList_append_str _ rfl (.tmp 43) (.const (.string ⟨#[46, 13, 10]⟩)) rfl w.heap.size u3 l ⟨#[46, 13, 10]⟩ rfl HO3.out rfl (by show l.length + 3 ≤ _; omega) hs3 ?_; intro v6 w6 ho6 hg6)
        go_roundw
        case rel => exact ⟨m - 1, by omega, val_int (by omega), HQ.out v6 w6 _ (by rw [strL_length]; show 3 ≤ 10; omega) (strL_byte _) ho6 hg6⟩
        case measure => simp [intOf]; omega
      | 5, _ =>
        have hk : (c : Int) % 12 = 5 := by omega
        clear hci hd12
        have hcw : IntKind.u8.wrap (c : Int) = (c : Int) := by rw [show IntKind.u8.wrap (c : Int) = (c : Int) % 256 from rfl]; omega
        have HR1 := hide (two_row w3 0 c)
        go_wp2_with (at_builtin; refine wpList_append_at _ rfl (.tmp 47) (.tmp 50) rfl w.heap.size u3 l [0, c] 2 rfl rfl (HON.out _) ⟨w3.heap.size, 0, none⟩ 2 rfl HR1.out (by simp; omega) (by simp; omega) ?_; intro v6 w6 ho6 hg6)
        go_roundw
        case rel => exact ⟨m - 1, by omega, val_int (by omega), HQN.out _ v6 w6 [0, c] (by simp) (by simp; omega) ho6 hg6⟩
        case measure => simp [intOf]; omega
      | 6, _ =>
        have hk : (c : Int) % 12 = 6 := by omega
        clear hci hd12
        go_wp2_with (at_builtin; refine wpList_append_str _ rfl (.tmp 54) (.const (.string ⟨#[70, 114, 111, 109]⟩)) rfl w.heap.size u3 l ⟨#[70, 114, 111, 109]⟩ rfl HO3.out rfl (by show l.length + 4 ≤ _; omega) hs3 ?_; intro v6 w6 ho6 hg6)
        go_roundw
        case rel => exact ⟨m - 1, by omega, val_int (by omega), HQ.out v6 w6 _ (by rw [strL_length]; show 4 ≤ 10; omega) (strL_byte _) ho6 hg6⟩
        case measure => simp [intOf]; omega
      | 7, _ =>
        have hk : (c : Int) % 12 = 7 := by omega
        clear hci hd12
        go_wp2_with (at_builtin; refine wpList_append_str _ rfl (.tmp 58) (.const (.string ⟨#[46, 46, 97, 10]⟩)) rfl w.heap.size u3 l ⟨#[46, 46, 97, 10]⟩ rfl HO3.out rfl (by show l.length + 4 ≤ _; omega) hs3 ?_; intro v6 w6 ho6 hg6)
        go_roundw
        case rel => exact ⟨m - 1, by omega, val_int (by omega), HQ.out v6 w6 _ (by rw [strL_length]; show 4 ≤ 10; omega) (strL_byte _) ho6 hg6⟩
        case measure => simp [intOf]; omega
      | 8, _ =>
        have hk : (c : Int) % 12 = 8 := by omega
        clear hci hd12
        have HR1 := hide (one_row w3 62)
        go_wp2_with (at_builtin; refine wpList_append_at _ rfl (.tmp 62) (.tmp 63) rfl w.heap.size u3 l [62] 1 rfl rfl (HON.out _) ⟨w3.heap.size, 0, none⟩ 1 rfl HR1.out (by simp; omega) (by simp; omega) ?_; intro v6 w6 ho6 hg6)
        go_roundw
        case rel => exact ⟨m - 1, by omega, val_int (by omega), HQN.out _ v6 w6 [62] (by simp) (by simp) ho6 hg6⟩
        case measure => simp [intOf]; omega
      | 9, _ =>
        have hk : (c : Int) % 12 = 9 := by omega
        clear hci hd12
        have hwz := word_size (1 + c / 12 % 5)
        go_wp2_with (at_builtin; refine wpList_append_str _ rfl (.tmp 17) (.tmp 22) rfl w.heap.size u3 l (ByteArray.extract ⟨#[119, 111, 114, 100, 32]⟩ 0 (1 + c / 12 % 5)) rfl HO3.out rfl (by omega) hs3 ?_; intro v6 w6 ho6 hg6)
        go_roundw
        case rel => exact ⟨m - 1, by omega, val_int (by omega), HQ.out v6 w6 _ (by rw [strL_length]; omega) (strL_byte _) ho6 hg6⟩
        case measure => simp [intOf]; omega
      | 10, _ =>
        have hk : (c : Int) % 12 = 10 := by omega
        clear hci hd12
        have hwz := word_size (1 + c / 12 % 5)
        go_wp2_with (at_builtin; refine wpList_append_str _ rfl (.tmp 17) (.tmp 22) rfl w.heap.size u3 l (ByteArray.extract ⟨#[119, 111, 114, 100, 32]⟩ 0 (1 + c / 12 % 5)) rfl HO3.out rfl (by omega) hs3 ?_; intro v6 w6 ho6 hg6)
        go_roundw
        case rel => exact ⟨m - 1, by omega, val_int (by omega), HQ.out v6 w6 _ (by rw [strL_length]; omega) (strL_byte _) ho6 hg6⟩
        case measure => simp [intOf]; omega
      | 11, _ =>
        have hk : (c : Int) % 12 = 11 := by omega
        clear hci hd12
        have hwz := word_size (1 + c / 12 % 5)
        go_wp2_with (at_builtin; refine wpList_append_str _ rfl (.tmp 17) (.tmp 22) rfl w.heap.size u3 l (ByteArray.extract ⟨#[119, 111, 114, 100, 32]⟩ 0 (1 + c / 12 % 5)) rfl HO3.out rfl (by omega) hs3 ?_; intro v6 w6 ho6 hg6)
        go_roundw
        case rel => exact ⟨m - 1, by omega, val_int (by omega), HQ.out v6 w6 _ (by rw [strL_length]; omega) (strL_byte _) ho6 hg6⟩
        case measure => simp [intOf]; omega
    · obtain rfl : m = 0 := by omega
      have HQ := hide (show QB w wr p (.slice a code.length cap) code u3 60 from ⟨l, j, ho, by omega, hlb, hrdj, hgj⟩)
      clear ho hlb hrdj hgj
      go_wp2
      go_ret
      exact ⟨_, rfl, HQ.out⟩
end Go.Proofs.YtledlicandlekaaDoor
namespace Go.Proofs.YtledlicandlekaaDoor
open Go.RowKit
theorem tagTab (W : World) (m : Nat) (hm : m < 6) : ∃ s : ByteArray, (W.alloc (.cells #[.string ⟨#[97, 49]⟩, .string ⟨#[84]⟩, .string ⟨#[120, 57]⟩, .string ⟨#[97, 49]⟩, .string ⟨#[98, 95]⟩, .string ⟨#[]⟩] 9)).cell? ⟨W.heap.size, m, none⟩ = some (.string s) ∧ s.size ≤ 2 := by
  have h := heap_alloc_new W (.cells #[.string ⟨#[97, 49]⟩, .string ⟨#[84]⟩, .string ⟨#[120, 57]⟩, .string ⟨#[97, 49]⟩, .string ⟨#[98, 95]⟩, .string ⟨#[]⟩] 9)
  rw [cell_of_row _ _ _ _ _ _ h]
  match m, hm with
  | 0, _ => exact ⟨_, rfl, by decide⟩
  | 1, _ => exact ⟨_, rfl, by decide⟩
  | 2, _ => exact ⟨_, rfl, by decide⟩
  | 3, _ => exact ⟨_, rfl, by decide⟩
  | 4, _ => exact ⟨_, rfl, by decide⟩
  | 5, _ => exact ⟨_, rfl, by decide⟩
def flgS : Nat → ByteArray
  | 0 => ⟨#[70, 76, 65, 71, 83]⟩
  | 1 => ⟨#[43, 70, 76, 65, 71, 83]⟩
  | 2 => ⟨#[45, 102, 108, 97, 103, 115]⟩
  | _ => ⟨#[43, 70, 76, 65, 71, 83]⟩
theorem flgS_size (m : Nat) : (flgS m).size ≤ 6 := by
  match m with
  | 0 => decide
  | 1 => decide
  | 2 => decide
  | n + 3 => show (6 : Nat) ≤ 6; exact Nat.le_refl _
theorem flg_cell (W : World) (m : Nat) (hm : m < 4) : (W.alloc (.cells #[.string ⟨#[70, 76, 65, 71, 83]⟩, .string ⟨#[43, 70, 76, 65, 71, 83]⟩, .string ⟨#[45, 102, 108, 97, 103, 115]⟩, .string ⟨#[43, 70, 76, 65, 71, 83]⟩] 9)).cell? ⟨W.heap.size, m, none⟩ = some (.string (flgS m)) := by
  have h := heap_alloc_new W (.cells #[.string ⟨#[70, 76, 65, 71, 83]⟩, .string ⟨#[43, 70, 76, 65, 71, 83]⟩, .string ⟨#[45, 102, 108, 97, 103, 115]⟩, .string ⟨#[43, 70, 76, 65, 71, 83]⟩] 9)
  rw [cell_of_row _ _ _ _ _ _ h]
  match m, hm with
  | 0, _ => rfl
  | 1, _ => rfl
  | 2, _ => rfl
  | 3, _ => rfl
/-- The table stands behind a call that keeps all but p. -/
theorem flg_kept {W X w4 : World} {p m : Nat} (hm : m < 4) (hX : X.heap = (W.alloc (.cells #[.string ⟨#[70, 76, 65, 71, 83]⟩, .string ⟨#[43, 70, 76, 65, 71, 83]⟩, .string ⟨#[45, 102, 108, 97, 103, 115]⟩, .string ⟨#[43, 70, 76, 65, 71, 83]⟩] 9)).heap) (hp : W.heap.size ≠ p) (hk : Kp p X w4) : w4.cell? ⟨W.heap.size, m, none⟩ = some (.string (flgS m)) ∧ W.heap.size < w4.heap.size := by
  have hz : X.heap.size = W.heap.size + 1 := by rw [hX]; simp
  refine ⟨?_, by have := hk.size; omega⟩
  rw [← flg_cell W m hm]
  refine World.cell?_of_block ?_
  rw [← hX]
  exact hk.block W.heap.size (by omega) hp
theorem flg_on {w4 w5 : World} {p m g : Nat} {v : Value} (h : w4.cell? ⟨g, m, none⟩ = some v ∧ g < w4.heap.size) (hk : Kp p w4 w5) (hp : g ≠ p) : w5.cell? ⟨g, m, none⟩ = some v ∧ g < w5.heap.size :=
  ⟨(World.cell?_of_block (hk.block g h.2 hp)).trans h.1, Nat.lt_of_lt_of_le h.2 hk.size⟩
/-- A string that is drawn, and what the draw keeps. -/
def DTwo (wk w0 X : World) (p : Nat) (a : Option Addr) (cap : Nat) (code : List Nat) (n : Nat) (e : Ending) (w' : World) : Prop := ∃ (s : ByteArray) (j : Nat), e = .returned (.string s) ∧ s.size ≤ n ∧ Kp p X w' ∧ RdIn wk w0 w' p a cap code j
theorem dstr_two {wk w0 X : World} {p : Nat} {a : Option Addr} {cap : Nat} {code : List Nat} {n i : Nat} (h : RdIn wk w0 X p a cap code i) {e : Ending} {w' : World} (k : DStr X w0 p a cap code n e w') : DTwo wk w0 X p a cap code n e w' := by
  obtain ⟨s, j, e1, e2, e3⟩ := k
  exact ⟨s, j, e1, e2, e3.kp, RdIn.onto h.kp e3⟩
theorem l3Body_in {wk w0 w : World} {p : Nat} {a : Option Addr} {cap : Nat} {code : List Nat} {i : Nat} (hc : CodeIn w0 a code) (h : RdIn wk w0 w p a cap code i) :
    Calls Tryd.prog 58 #[.pointer (some ⟨p, 0, none⟩)] w fun e w' => ∃ (b : Option Addr) (l : List Nat) (c j : Nat), e = .returned (.slice b l.length c) ∧ RowAt w' b l ∧ l.length ≤ 60 ∧ (∀ x ∈ l, x < 256) ∧ RdIn wk w0 w' p a cap code j := by
  refine (l3Body_any p a cap code i w0 w hc.len hc.row h.low h.above hc.byte h.rd).mono ?_
  rintro e w' ⟨v, rfl, l, j, ho, hl, hb, hrd, hg⟩
  obtain ⟨b, c, rfl⟩ := ho.slice
  have := h.above
  exact ⟨b, l, c, j, rfl, ho.row, hl, hb, hrd, h.low.trans ((Below.refl _ _).grown hg h.low.size (fun k e => by simp at e; omega)), h.above, h.kp.trans ⟨hg.size, fun g hg' hn => hg.block g hg' (by simpa using hn)⟩⟩
theorem bel_as {w X W : World} (h : Below w.heap.size w X) (e1 : W.heap = X.heap) (e2 : W.os = X.os) (e3 : W.tape = X.tape) (e4 : W.output = X.output) : Below w.heap.size w W :=
  ⟨e2.trans h.os, e3.trans h.tape, e4.trans h.output, by rw [e1]; exact h.size, fun k hk => by rw [e1]; exact h.block k hk⟩
/-- How STORE's statement stands: the reader, and perhaps the table of words. -/
structure DsSt (wk w0 X : World) (p : Nat) (a : Option Addr) (cap : Nat) (code : List Nat) (i mm : Nat) (T : Option Nat) : Prop where
  rd : RdIn wk w0 X p a cap code i
  tab : ∀ t, T = some t → X.cell? ⟨t, mm, none⟩ = some (.string (flgS mm)) ∧ t < X.heap.size ∧ t ≠ p
theorem DsSt.like {wk w0 X W : World} {p : Nat} {a : Option Addr} {cap : Nat} {code : List Nat} {i mm : Nat} {T : Option Nat} (h : DsSt wk w0 X p a cap code i mm T) (e1 : W.heap = X.heap) (e2 : W.os = X.os) (e3 : W.tape = X.tape) (e4 : W.output = X.output) : DsSt wk w0 W p a cap code i mm T :=
  ⟨h.rd.below (bel_as (Below.refl _ _) e1 e2 e3 e4), fun t ht => by
    obtain ⟨h1, h2, h3⟩ := h.tab t ht
    exact ⟨(World.cell?_of_block (by rw [e1])).trans h1, by rw [e1]; exact h2, h3⟩⟩
theorem DsSt.make {wk w0 X : World} {p : Nat} {a : Option Addr} {cap : Nat} {code : List Nat} {i mm : Nat} (h : DsSt wk w0 X p a cap code i mm none) (hm : mm < 4) : DsSt wk w0 (X.alloc (.cells #[.string ⟨#[70, 76, 65, 71, 83]⟩, .string ⟨#[43, 70, 76, 65, 71, 83]⟩, .string ⟨#[45, 102, 108, 97, 103, 115]⟩, .string ⟨#[43, 70, 76, 65, 71, 83]⟩] 9)) p a cap code i mm (some X.heap.size) :=
  ⟨h.rd.below ((Below.refl _ _).alloc (Nat.le_refl _) _), fun t ht => by
    obtain rfl : X.heap.size = t := by simpa using ht
    have := h.rd.rd.lt
    exact ⟨flg_cell X mm hm, by simp, by omega⟩⟩
theorem ds_call {f : FuncId} {args : Array Value} {n : Nat} {wk w0 X : World} {p : Nat} {a : Option Addr} {cap : Nat} {code : List Nat} {i mm : Nat} {T : Option Nat} (C : ∀ X i, RdIn wk w0 X p a cap code i → Calls Tryd.prog f args X (DTwo wk w0 X p a cap code n)) (h : DsSt wk w0 X p a cap code i mm T) :
    Calls Tryd.prog f args X fun e w' => ∃ (s : ByteArray) (j : Nat), e = .returned (.string s) ∧ s.size ≤ n ∧ DsSt wk w0 w' p a cap code j mm T := by
  refine (C X i h.rd).mono ?_
  rintro e w' ⟨s, j, rfl, hs, hk, hr⟩
  refine ⟨s, j, rfl, hs, hr, fun t ht => ?_⟩
  obtain ⟨h1, h2, h3⟩ := h.tab t ht
  obtain ⟨k1, k2⟩ := flg_on ⟨h1, h2⟩ hk h3
  exact ⟨k1, k2, h3⟩
/-- A call of one or two arguments as a step of a drawn statement. -/
theorem step_call_1 (f : FuncId) (hf : ∀ (v : Value) (w : World), (callFunc f #[v]).run Tryd.prog w = .ok (.enter f #[v]) w) {ops : Array Oper} {o : Oper} {act : Act} {w : World} {K : Act → World → Prop} {Q : Exit → Act → World → Prop} {E : Prop} (x : Operand) (ts : Array TypeId) (hgd : o.guard = none)
    (ho : o.op = .call { callee := .value (.func f), args := #[x], argTypes := ts }) (v : Value) (hx : act.eval x = v) (h : Calls Tryd.prog f #[v] w fun e w' => ∃ u, e = .returned u ∧ K (act.put o.dst u) w') :
    if Region.wanted o (yielded ops act.tmps) = true then Oper.wp Tryd.prog o act w K Q else E := by
  have hw : Region.wanted o (yielded ops act.tmps) = true := by simp [Region.wanted, hgd]
  rw [if_pos hw]
  obtain ⟨dst, op, ty, pos, after, guard⟩ := o
  simp only at ho hgd
  subst ho
  unfold Oper.wp
  rw [execOp_call_go]
  simp only [List.map_toArray, List.map_cons, List.map_nil, hx, List.append_toArray, List.nil_append, List.append_nil, hf, Oper.upon_enter]
  refine h.mono ?_
  rintro e w' ⟨u, rfl, hk⟩
  exact hk
theorem step_call_2 (f : FuncId) (hf : ∀ (v u : Value) (w : World), (callFunc f #[v, u]).run Tryd.prog w = .ok (.enter f #[v, u]) w) {ops : Array Oper} {o : Oper} {act : Act} {w : World} {K : Act → World → Prop} {Q : Exit → Act → World → Prop} {E : Prop} (x y : Operand) (ts : Array TypeId) (hgd : o.guard = none)
    (ho : o.op = .call { callee := .value (.func f), args := #[x, y], argTypes := ts }) (v u : Value) (hx : act.eval x = v) (hy : act.eval y = u) (h : Calls Tryd.prog f #[v, u] w fun e w' => ∃ z, e = .returned z ∧ K (act.put o.dst z) w') :
    if Region.wanted o (yielded ops act.tmps) = true then Oper.wp Tryd.prog o act w K Q else E := by
  have hw : Region.wanted o (yielded ops act.tmps) = true := by simp [Region.wanted, hgd]
  rw [if_pos hw]
  obtain ⟨dst, op, ty, pos, after, guard⟩ := o
  simp only at ho hgd
  subst ho
  unfold Oper.wp
  rw [execOp_call_go]
  simp only [List.map_toArray, List.map_cons, List.map_nil, hx, hy, List.append_toArray, List.nil_append, List.append_nil, hf, Oper.upon_enter]
  refine h.mono ?_
  rintro e w' ⟨z, rfl, hk⟩
  exact hk
theorem run_enterWd (v u : Value) (w : World) : (callFunc 53 #[v, u]).run Tryd.prog w = .ok (.enter 53 #[v, u]) w := by
  kernel_rfl
theorem run_enterSt (v : Value) (w : World) : (callFunc 55 #[v]).run Tryd.prog w = .ok (.enter 55 #[v]) w := by
  kernel_rfl
theorem run_enterFg (v : Value) (w : World) : (callFunc 57 #[v]).run Tryd.prog w = .ok (.enter 57 #[v]) w := by
  kernel_rfl
end Go.Proofs.YtledlicandlekaaDoor
namespace Go.Proofs.YtledlicandlekaaDoor
open Go.RowKit
set_option maxRecDepth 20000 in
set_option maxHeartbeats 20000000 in
theorem l6Imap_in {wk w0 w : World} {p : Nat} {a : Option Addr} {cap : Nat} {code : List Nat} {i : Nat} (hc : CodeIn w0 a code) (h : RdIn wk w0 w p a cap code i) :
    Calls Tryd.prog 40 #[.pointer (some ⟨p, 0, none⟩)] w (DStr wk w0 p a cap code 1000) := by
  have hx := nx_lt hc.byte i
  have NX := hide (next_in hc h)
  have HC := hide hc
  have e32 : (⟨#[32]⟩ : ByteArray).size = 1 := rfl
  have e10 : (⟨#[13, 10]⟩ : ByteArray).size = 2 := rfl
  clear hc h
  go_enter Tryd.func40, Tryd.ntmps40
  go_wp2_with fail
  refine NX.out.mono ?_
  rintro e w1 ⟨rfl, hrd1⟩
  generalize nx code i = c at hx ⊢
  obtain ⟨s, hs, hz⟩ := tagTab w1 (c / 16 % 6) (by omega)
  have hm : (c : Int) / 16 % 6 = ((c / 16 % 6 : Nat) : Int) := by omega
  have hlt : c / 16 % 6 < 6 := by omega
  generalize c / 16 % 6 = m at hs hm hlt
  have H2 := hide (hrd1.below ((Below.refl w1.heap.size w1).alloc (Nat.le_refl _) (.cells #[.string ⟨#[97, 49]⟩, .string ⟨#[84]⟩, .string ⟨#[120, 57]⟩, .string ⟨#[97, 49]⟩, .string ⟨#[98, 95]⟩, .string ⟨#[]⟩] 9)))
  clear hrd1 NX
  go_upto_if 19 with fail
  go_cut [4] (fun s4 wx => (∃ S : ByteArray, s4 = .string S ∧ S.size ≤ 3) ∧ wx = w1.alloc (.cells #[.string ⟨#[97, 49]⟩, .string ⟨#[84]⟩, .string ⟨#[120, 57]⟩, .string ⟨#[97, 49]⟩, .string ⟨#[98, 95]⟩, .string ⟨#[]⟩] 9))
  case first =>
    by_cases hq : (11 : Int) < (c : Int) / 16
    · go_wp2_with fail
      go_meet
      case rel => exact ⟨⟨_, rfl, by decide⟩, rfl⟩
    · go_wp2_with fail
      go_meet
      case rel => exact ⟨⟨_, rfl, by rw [app_size]; omega⟩, rfl⟩
  case rest =>
    obtain ⟨⟨S, rfl, hS⟩, rfl⟩ := hcut
    clear hs hz hm hlt
    generalize w1.alloc (.cells #[.string ⟨#[97, 49]⟩, .string ⟨#[84]⟩, .string ⟨#[120, 57]⟩, .string ⟨#[97, 49]⟩, .string ⟨#[98, 95]⟩, .string ⟨#[]⟩] 9) = W2 at H2 ⊢
    go_upto_if 21 with fail
    go_cut [5] (fun s5 wx => ∃ (U : ByteArray) (j : Nat), s5 = .string U ∧ U.size ≤ 4 ∧ RdIn wk w0 wx p a cap code j)
    case first =>
      by_cases hu : (128 : Int) ≤ (c : Int)
      · go_wp2_with fail
        refine (l6Word_in ⟨#[85, 73, 68]⟩ (by decide) HC.out H2.out).mono ?_
        rintro e w3 ⟨t, j3, rfl, ht, h3⟩
        have H3 := hide h3
        have ht3 : t.size ≤ 3 := ht
        clear h3 ht
        go_wp2_with fail
        go_meet
        case rel => exact ⟨_, j3, rfl, by rw [app_size]; omega, H3.out⟩
      · go_wp2_with fail
        go_meet
        case rel => exact ⟨_, _, rfl, by decide, H2.out⟩
    case rest =>
      obtain ⟨U, j, rfl, hU, hrd⟩ := hcut
      have H3 := hide hrd
      clear hrd H2
      have hc16 : c % 16 < 16 := Nat.mod_lt _ (by decide)
      have hci : (c : Int) % 16 = ((c % 16 : Nat) : Int) := by omega
      generalize hd16 : c % 16 = d at hc16 hci
      by_cases h710 : 7 ≤ d ∧ d ≤ 10
      · obtain ⟨h7, h10⟩ := h710
        have x0 : ((d : Int) == 0) = false := by simp; omega
        have x1 : ((d : Int) == 1) = false := by simp; omega
        have x2 : ((d : Int) == 2) = false := by simp; omega
        have x3 : ((d : Int) == 3) = false := by simp; omega
        have x4 : ((d : Int) == 4) = false := by simp; omega
        have x5 : ((d : Int) == 5) = false := by simp; omega
        have x6 : ((d : Int) == 6) = false := by simp; omega
        clear hd16 hc16
        go_upto_if 61 with fail
        go_cut [61] (fun s61 wx => s61 = .bool true ∧ wx = wc)
        case first =>
          rcases (show d = 7 ∨ d = 8 ∨ d = 9 ∨ d = 10 by omega) with rfl | rfl | rfl | rfl
          all_goals
            go_wp2_with fail
            go_meet
            case rel => exact ⟨by first | rfl | simp, rfl⟩
        case rest =>
          obtain ⟨rfl, rfl⟩ := hcut
          have hpn : wc.heap.size ≠ p := (by have := H3.out.rd.lt; omega)
          have hm4 : (c : Int) / 16 % 4 = ((c / 16 % 4 : Nat) : Int) := by omega
          have hmlt : c / 16 % 4 < 4 := by omega
          generalize c / 16 % 4 = mm at hm4 hmlt
          have g0 := flg_cell wc mm hmlt
          have hmI : (mm : Int) < 4 := by omega
          have htm : (IntKind.i64.wrap ((c : Int) / 16)).tmod 4 = (mm : Int) := by
            rw [wrap_small _ (by omega) (by omega), Int.tmod_eq_emod_of_nonneg (by omega)]
            exact hm4
          have hfz := flgS_size mm
          have WD := hide (fun X i (hX : RdIn wk w0 X p a cap code i) => (l6Word_in ⟨#[83, 84, 79, 82, 69]⟩ (by decide) HC.out hX.anew).mono (fun _ _ k => dstr_two hX k))
          have ST := hide (fun X i (hX : RdIn wk w0 X p a cap code i) => (l6SetText_in HC.out hX.anew).mono (fun _ _ k => dstr_two hX k))
          have FL := hide (fun X i (hX : RdIn wk w0 X p a cap code i) => (l6Flags_in HC.out hX.anew).mono (fun _ _ k => dstr_two hX k))
          go_wp2_with fail
          have DS0 := hide (show DsSt wk w0 wc p a cap code j mm none from ⟨H3.out, fun t e => by cases e⟩)
          go_region_law (first
            | (refine step_call_2 53 run_enterWd (.tmp 68) (.const (.string ⟨#[83, 84, 79, 82, 69]⟩)) #[65, 9] (by rfl) (by rfl) (.pointer (some ⟨p, 0, none⟩)) (.string ⟨#[83, 84, 79, 82, 69]⟩) (by simp [go_sem]) (by rfl) ?_; refine (ds_call WD.out (DsSt.like (DS0.out.make hmlt) (by rfl) (by rfl) (by rfl) (by rfl))).mono ?_; rintro e w4 ⟨t4, j4, rfl, ht4, hs4⟩; have HS4 := hide hs4; clear hs4; replace ht4 : t4.size ≤ 5 := ht4; have g4 := flg_cell w4 mm hmlt; have z4 : (U ++ t4).size ≤ 9 := (by rw [app_size]; omega); have z4' : (U ++ t4 ++ ⟨#[32]⟩).size ≤ 10 := (by rw [app_size, app_size]; omega); have a1 : ¬ 9223372036854775807 < U.size + t4.size := (by omega); have a2 : ¬ 9223372036854775807 < U.size + t4.size + 1 := (by omega); have q4 := (HS4.out.tab _ rfl).1; refine ⟨_, rfl, ?_⟩)
            | (refine step_call_2 53 run_enterWd (.tmp 68) (.const (.string ⟨#[83, 84, 79, 82, 69]⟩)) #[65, 9] (by rfl) (by rfl) (.pointer (some ⟨p, 0, none⟩)) (.string ⟨#[83, 84, 79, 82, 69]⟩) (by simp [go_sem]) (by rfl) ?_; refine (ds_call WD.out (DsSt.like DS0.out (by rfl) (by rfl) (by rfl) (by rfl))).mono ?_; rintro e w4 ⟨t4, j4, rfl, ht4, hs4⟩; have HS4 := hide hs4; clear hs4; replace ht4 : t4.size ≤ 5 := ht4; have g4 := flg_cell w4 mm hmlt; have z4 : (U ++ t4).size ≤ 9 := (by rw [app_size]; omega); have z4' : (U ++ t4 ++ ⟨#[32]⟩).size ≤ 10 := (by rw [app_size, app_size]; omega); have a1 : ¬ 9223372036854775807 < U.size + t4.size := (by omega); have a2 : ¬ 9223372036854775807 < U.size + t4.size + 1 := (by omega); have q4 := (HS4.out.tab _ rfl).1; refine ⟨_, rfl, ?_⟩)
            | (refine step_call_2 53 run_enterWd (.tmp 68) (.const (.string ⟨#[83, 84, 79, 82, 69]⟩)) #[65, 9] (by rfl) (by rfl) (.pointer (some ⟨p, 0, none⟩)) (.string ⟨#[83, 84, 79, 82, 69]⟩) (by simp [go_sem]) (by rfl) ?_; refine (ds_call WD.out (DsSt.like DS0.out (by rfl) (by rfl) (by rfl) (by rfl))).mono ?_; rintro e w4 ⟨t4, j4, rfl, ht4, hs4⟩; have HS4 := hide hs4; clear hs4; replace ht4 : t4.size ≤ 5 := ht4; have g4 := flg_cell w4 mm hmlt; have z4 : (U ++ t4).size ≤ 9 := (by rw [app_size]; omega); have z4' : (U ++ t4 ++ ⟨#[32]⟩).size ≤ 10 := (by rw [app_size, app_size]; omega); have a1 : ¬ 9223372036854775807 < U.size + t4.size := (by omega); have a2 : ¬ 9223372036854775807 < U.size + t4.size + 1 := (by omega); refine ⟨_, rfl, ?_⟩)
            | (refine step_call_1 55 run_enterSt (.tmp 72) #[65] (by rfl) (by rfl) (.pointer (some ⟨p, 0, none⟩)) (by simp [go_sem]) ?_; refine (ds_call ST.out (DsSt.like (HS4.out.make hmlt) (by rfl) (by rfl) (by rfl) (by rfl))).mono ?_; rintro e w5 ⟨t5, j5, rfl, ht5, hs5⟩; have HS5 := hide hs5; clear hs5; have g5 := flg_cell w5 mm hmlt; have z5 : (U ++ t4 ++ ⟨#[32]⟩ ++ t5).size ≤ 160 := (by rw [app_size]; omega); have z5' : (U ++ t4 ++ ⟨#[32]⟩ ++ t5 ++ ⟨#[32]⟩).size ≤ 161 := (by rw [app_size]; omega); have z5a : (U ++ t4 ++ ⟨#[32]⟩ ++ t5 ++ ⟨#[32]⟩ ++ flgS mm).size ≤ 167 := (by rw [app_size]; omega); have z5b : (U ++ t4 ++ ⟨#[32]⟩ ++ t5 ++ ⟨#[32]⟩ ++ flgS mm ++ ⟨#[32]⟩).size ≤ 168 := (by rw [app_size]; omega); have a3 : ¬ 9223372036854775807 < U.size + t4.size + 1 + t5.size := (by omega); have a4 : ¬ 9223372036854775807 < U.size + t4.size + 1 + t5.size + 1 := (by omega); have a5 : ¬ 9223372036854775807 < U.size + t4.size + 1 + t5.size + 1 + (flgS mm).size := (by omega); have a6 : ¬ 9223372036854775807 < U.size + t4.size + 1 + t5.size + 1 + (flgS mm).size + 1 := (by omega); have q5 := (HS5.out.tab _ rfl).1; refine ⟨_, rfl, ?_⟩)
            | (refine step_call_1 55 run_enterSt (.tmp 72) #[65] (by rfl) (by rfl) (.pointer (some ⟨p, 0, none⟩)) (by simp [go_sem]) ?_; refine (ds_call ST.out (DsSt.like HS4.out (by rfl) (by rfl) (by rfl) (by rfl))).mono ?_; rintro e w5 ⟨t5, j5, rfl, ht5, hs5⟩; have HS5 := hide hs5; clear hs5; have g5 := flg_cell w5 mm hmlt; have z5 : (U ++ t4 ++ ⟨#[32]⟩ ++ t5).size ≤ 160 := (by rw [app_size]; omega); have z5' : (U ++ t4 ++ ⟨#[32]⟩ ++ t5 ++ ⟨#[32]⟩).size ≤ 161 := (by rw [app_size]; omega); have z5a : (U ++ t4 ++ ⟨#[32]⟩ ++ t5 ++ ⟨#[32]⟩ ++ flgS mm).size ≤ 167 := (by rw [app_size]; omega); have z5b : (U ++ t4 ++ ⟨#[32]⟩ ++ t5 ++ ⟨#[32]⟩ ++ flgS mm ++ ⟨#[32]⟩).size ≤ 168 := (by rw [app_size]; omega); have a3 : ¬ 9223372036854775807 < U.size + t4.size + 1 + t5.size := (by omega); have a4 : ¬ 9223372036854775807 < U.size + t4.size + 1 + t5.size + 1 := (by omega); have a5 : ¬ 9223372036854775807 < U.size + t4.size + 1 + t5.size + 1 + (flgS mm).size := (by omega); have a6 : ¬ 9223372036854775807 < U.size + t4.size + 1 + t5.size + 1 + (flgS mm).size + 1 := (by omega); have q5 := (HS5.out.tab _ rfl).1; refine ⟨_, rfl, ?_⟩)
            | (refine step_call_1 55 run_enterSt (.tmp 72) #[65] (by rfl) (by rfl) (.pointer (some ⟨p, 0, none⟩)) (by simp [go_sem]) ?_; refine (ds_call ST.out (DsSt.like HS4.out (by rfl) (by rfl) (by rfl) (by rfl))).mono ?_; rintro e w5 ⟨t5, j5, rfl, ht5, hs5⟩; have HS5 := hide hs5; clear hs5; have g5 := flg_cell w5 mm hmlt; have z5 : (U ++ t4 ++ ⟨#[32]⟩ ++ t5).size ≤ 160 := (by rw [app_size]; omega); have z5' : (U ++ t4 ++ ⟨#[32]⟩ ++ t5 ++ ⟨#[32]⟩).size ≤ 161 := (by rw [app_size]; omega); have z5a : (U ++ t4 ++ ⟨#[32]⟩ ++ t5 ++ ⟨#[32]⟩ ++ flgS mm).size ≤ 167 := (by rw [app_size]; omega); have z5b : (U ++ t4 ++ ⟨#[32]⟩ ++ t5 ++ ⟨#[32]⟩ ++ flgS mm ++ ⟨#[32]⟩).size ≤ 168 := (by rw [app_size]; omega); have a3 : ¬ 9223372036854775807 < U.size + t4.size + 1 + t5.size := (by omega); have a4 : ¬ 9223372036854775807 < U.size + t4.size + 1 + t5.size + 1 := (by omega); have a5 : ¬ 9223372036854775807 < U.size + t4.size + 1 + t5.size + 1 + (flgS mm).size := (by omega); have a6 : ¬ 9223372036854775807 < U.size + t4.size + 1 + t5.size + 1 + (flgS mm).size + 1 := (by omega); refine ⟨_, rfl, ?_⟩)
            | (refine step_call_1 57 run_enterFg (.tmp 84) #[65] (by rfl) (by rfl) (.pointer (some ⟨p, 0, none⟩)) (by simp [go_sem]) ?_; refine (ds_call FL.out (DsSt.like (HS5.out.make hmlt) (by rfl) (by rfl) (by rfl) (by rfl))).mono ?_; rintro e w6 ⟨t6, j6, rfl, ht6, hs6⟩; have HS6 := hide hs6; clear hs6; have g6 := flg_cell w6 mm hmlt; have z6 : (U ++ t4 ++ ⟨#[32]⟩ ++ t5 ++ ⟨#[32]⟩ ++ flgS mm ++ ⟨#[32]⟩ ++ t6).size ≤ 568 := (by rw [app_size]; omega); have z6' : (S ++ (U ++ t4 ++ ⟨#[32]⟩ ++ t5 ++ ⟨#[32]⟩ ++ flgS mm ++ ⟨#[32]⟩ ++ t6)).size ≤ 571 := (by rw [app_size]; omega); have a7 : ¬ 9223372036854775807 < U.size + t4.size + 1 + t5.size + 1 + (flgS mm).size + 1 + t6.size := (by omega); have a8 : ¬ 9223372036854775807 < S.size + (U.size + t4.size + 1 + t5.size + 1 + (flgS mm).size + 1 + t6.size) := (by omega); have q6 := (HS6.out.tab _ rfl).1; refine ⟨_, rfl, ?_⟩)
            | (refine step_call_1 57 run_enterFg (.tmp 84) #[65] (by rfl) (by rfl) (.pointer (some ⟨p, 0, none⟩)) (by simp [go_sem]) ?_; refine (ds_call FL.out (DsSt.like HS5.out (by rfl) (by rfl) (by rfl) (by rfl))).mono ?_; rintro e w6 ⟨t6, j6, rfl, ht6, hs6⟩; have HS6 := hide hs6; clear hs6; have g6 := flg_cell w6 mm hmlt; have z6 : (U ++ t4 ++ ⟨#[32]⟩ ++ t5 ++ ⟨#[32]⟩ ++ flgS mm ++ ⟨#[32]⟩ ++ t6).size ≤ 568 := (by rw [app_size]; omega); have z6' : (S ++ (U ++ t4 ++ ⟨#[32]⟩ ++ t5 ++ ⟨#[32]⟩ ++ flgS mm ++ ⟨#[32]⟩ ++ t6)).size ≤ 571 := (by rw [app_size]; omega); have a7 : ¬ 9223372036854775807 < U.size + t4.size + 1 + t5.size + 1 + (flgS mm).size + 1 + t6.size := (by omega); have a8 : ¬ 9223372036854775807 < S.size + (U.size + t4.size + 1 + t5.size + 1 + (flgS mm).size + 1 + t6.size) := (by omega); have q6 := (HS6.out.tab _ rfl).1; refine ⟨_, rfl, ?_⟩)
            | (refine step_call_1 57 run_enterFg (.tmp 84) #[65] (by rfl) (by rfl) (.pointer (some ⟨p, 0, none⟩)) (by simp [go_sem]) ?_; refine (ds_call FL.out (DsSt.like HS5.out (by rfl) (by rfl) (by rfl) (by rfl))).mono ?_; rintro e w6 ⟨t6, j6, rfl, ht6, hs6⟩; have HS6 := hide hs6; clear hs6; have g6 := flg_cell w6 mm hmlt; have z6 : (U ++ t4 ++ ⟨#[32]⟩ ++ t5 ++ ⟨#[32]⟩ ++ flgS mm ++ ⟨#[32]⟩ ++ t6).size ≤ 568 := (by rw [app_size]; omega); have z6' : (S ++ (U ++ t4 ++ ⟨#[32]⟩ ++ t5 ++ ⟨#[32]⟩ ++ flgS mm ++ ⟨#[32]⟩ ++ t6)).size ≤ 571 := (by rw [app_size]; omega); have a7 : ¬ 9223372036854775807 < U.size + t4.size + 1 + t5.size + 1 + (flgS mm).size + 1 + t6.size := (by omega); have a8 : ¬ 9223372036854775807 < S.size + (U.size + t4.size + 1 + t5.size + 1 + (flgS mm).size + 1 + t6.size) := (by omega); refine ⟨_, rfl, ?_⟩)
            | fail)
          all_goals
            go_wp2
            go_ret
            first
              | refine dstr_mk HS6.out.rd _ ?_
              | refine dstr_mk (HS6.out.make hmlt).rd _ ?_
            simp only [app_size, e32, e10]
            omega
      match d, hc16 with
      | 0, _ =>
        have hk : (c : Int) % 16 = 0 := by omega
        clear hci hd16
        go_wp2_with fail
        refine (l6Word_in ⟨#[78, 79, 79, 80]⟩ (by decide) HC.out H3.out).mono ?_
        rintro e w4 ⟨t4, j4, rfl, ht4, h4⟩
        have H4 := hide h4
        replace ht4 : t4.size ≤ 4 := ht4
        clear h4 H3
        go_wp2
        go_ret
        exact dstr_mk H4.out _ (by simp only [app_size, e10]; omega)
      | 1, _ =>
        have hk : (c : Int) % 16 = 1 := by omega
        clear hci hd16
        go_wp2_with fail
        refine (l6Word_in ⟨#[78, 79, 79, 80]⟩ (by decide) HC.out H3.out).mono ?_
        rintro e w4 ⟨t4, j4, rfl, ht4, h4⟩
        have H4 := hide h4
        replace ht4 : t4.size ≤ 4 := ht4
        clear h4 H3
        go_wp2
        go_ret
        exact dstr_mk H4.out _ (by simp only [app_size, e10]; omega)
      | 2, _ =>
        have hk : (c : Int) % 16 = 2 := by omega
        clear hci hd16
        go_wp2_with fail
        refine (l6Word_in ⟨#[69, 88, 80, 85, 78, 71, 69]⟩ (by decide) HC.out H3.out).mono ?_
        rintro e w4 ⟨t4, j4, rfl, ht4, h4⟩
        have H4 := hide h4
        replace ht4 : t4.size ≤ 7 := ht4
        clear h4 H3
        go_wp2
        go_ret
        exact dstr_mk H4.out _ (by simp only [app_size, e10]; omega)
      | 3, _ =>
        have hk : (c : Int) % 16 = 3 := by omega
        clear hci hd16
        go_wp2_with fail
        refine (l6Word_in ⟨#[70, 69, 84, 67, 72]⟩ (by decide) HC.out H3.out).mono ?_
        rintro e w4 ⟨t4, j4, rfl, ht4, h4⟩
        have H4 := hide h4
        replace ht4 : t4.size ≤ 5 := ht4
        clear h4 H3
        have hz1 : (U ++ t4).size ≤ 9 := by rw [app_size]; omega
        have hz2 : (U ++ t4 ++ ⟨#[32]⟩).size ≤ 10 := by rw [app_size, app_size]; omega
        go_wp2_with fail
        refine (l6SetText_in HC.out H4.out).mono ?_
        rintro e w5 ⟨t5, j5, rfl, ht5, h5⟩
        have H5 := hide h5
        have hz3 : (U ++ t4 ++ ⟨#[32]⟩ ++ t5).size ≤ 160 := by rw [app_size, app_size, app_size]; omega
        have hz4 : (U ++ t4 ++ ⟨#[32]⟩ ++ t5 ++ ⟨#[32]⟩).size ≤ 161 := by rw [app_size, app_size, app_size, app_size]; omega
        clear h5 H4
        go_wp2_with fail
        refine (l6Items_in HC.out H5.out).mono ?_
        rintro e w6 ⟨t6, j6, rfl, ht6, h6⟩
        have H6 := hide h6
        have hz5 : (U ++ t4 ++ ⟨#[32]⟩ ++ t5 ++ ⟨#[32]⟩ ++ t6).size ≤ 230 := by rw [app_size, app_size, app_size, app_size, app_size]; omega
        have hz6 : (S ++ (U ++ t4 ++ ⟨#[32]⟩ ++ t5 ++ ⟨#[32]⟩ ++ t6)).size ≤ 240 := by rw [app_size]; omega
        clear h6 H5
        go_wp2
        go_ret
        exact dstr_mk H6.out _ (by simp only [app_size, e32, e10]; omega)
      | 4, _ =>
        have hk : (c : Int) % 16 = 4 := by omega
        clear hci hd16
        go_wp2_with fail
        refine (l6Word_in ⟨#[70, 69, 84, 67, 72]⟩ (by decide) HC.out H3.out).mono ?_
        rintro e w4 ⟨t4, j4, rfl, ht4, h4⟩
        have H4 := hide h4
        replace ht4 : t4.size ≤ 5 := ht4
        clear h4 H3
        have hz1 : (U ++ t4).size ≤ 9 := by rw [app_size]; omega
        have hz2 : (U ++ t4 ++ ⟨#[32]⟩).size ≤ 10 := by rw [app_size, app_size]; omega
        go_wp2_with fail
        refine (l6SetText_in HC.out H4.out).mono ?_
        rintro e w5 ⟨t5, j5, rfl, ht5, h5⟩
        have H5 := hide h5
        have hz3 : (U ++ t4 ++ ⟨#[32]⟩ ++ t5).size ≤ 160 := by rw [app_size, app_size, app_size]; omega
        have hz4 : (U ++ t4 ++ ⟨#[32]⟩ ++ t5 ++ ⟨#[32]⟩).size ≤ 161 := by rw [app_size, app_size, app_size, app_size]; omega
        clear h5 H4
        go_wp2_with fail
        refine (l6Items_in HC.out H5.out).mono ?_
        rintro e w6 ⟨t6, j6, rfl, ht6, h6⟩
        have H6 := hide h6
        have hz5 : (U ++ t4 ++ ⟨#[32]⟩ ++ t5 ++ ⟨#[32]⟩ ++ t6).size ≤ 230 := by rw [app_size, app_size, app_size, app_size, app_size]; omega
        have hz6 : (S ++ (U ++ t4 ++ ⟨#[32]⟩ ++ t5 ++ ⟨#[32]⟩ ++ t6)).size ≤ 240 := by rw [app_size]; omega
        clear h6 H5
        go_wp2
        go_ret
        exact dstr_mk H6.out _ (by simp only [app_size, e32, e10]; omega)
      | 5, _ =>
        have hk : (c : Int) % 16 = 5 := by omega
        clear hci hd16
        go_wp2_with fail
        refine (l6Word_in ⟨#[70, 69, 84, 67, 72]⟩ (by decide) HC.out H3.out).mono ?_
        rintro e w4 ⟨t4, j4, rfl, ht4, h4⟩
        have H4 := hide h4
        replace ht4 : t4.size ≤ 5 := ht4
        clear h4 H3
        have hz1 : (U ++ t4).size ≤ 9 := by rw [app_size]; omega
        have hz2 : (U ++ t4 ++ ⟨#[32]⟩).size ≤ 10 := by rw [app_size, app_size]; omega
        go_wp2_with fail
        refine (l6SetText_in HC.out H4.out).mono ?_
        rintro e w5 ⟨t5, j5, rfl, ht5, h5⟩
        have H5 := hide h5
        have hz3 : (U ++ t4 ++ ⟨#[32]⟩ ++ t5).size ≤ 160 := by rw [app_size, app_size, app_size]; omega
        have hz4 : (U ++ t4 ++ ⟨#[32]⟩ ++ t5 ++ ⟨#[32]⟩).size ≤ 161 := by rw [app_size, app_size, app_size, app_size]; omega
        clear h5 H4
        go_wp2_with fail
        refine (l6Items_in HC.out H5.out).mono ?_
        rintro e w6 ⟨t6, j6, rfl, ht6, h6⟩
        have H6 := hide h6
        have hz5 : (U ++ t4 ++ ⟨#[32]⟩ ++ t5 ++ ⟨#[32]⟩ ++ t6).size ≤ 230 := by rw [app_size, app_size, app_size, app_size, app_size]; omega
        have hz6 : (S ++ (U ++ t4 ++ ⟨#[32]⟩ ++ t5 ++ ⟨#[32]⟩ ++ t6)).size ≤ 240 := by rw [app_size]; omega
        clear h6 H5
        go_wp2
        go_ret
        exact dstr_mk H6.out _ (by simp only [app_size, e32, e10]; omega)
      | 6, _ =>
        have hk : (c : Int) % 16 = 6 := by omega
        clear hci hd16
        go_wp2_with fail
        refine (l6Word_in ⟨#[70, 69, 84, 67, 72]⟩ (by decide) HC.out H3.out).mono ?_
        rintro e w4 ⟨t4, j4, rfl, ht4, h4⟩
        have H4 := hide h4
        replace ht4 : t4.size ≤ 5 := ht4
        clear h4 H3
        have hz1 : (U ++ t4).size ≤ 9 := by rw [app_size]; omega
        have hz2 : (U ++ t4 ++ ⟨#[32]⟩).size ≤ 10 := by rw [app_size, app_size]; omega
        go_wp2_with fail
        refine (l6SetText_in HC.out H4.out).mono ?_
        rintro e w5 ⟨t5, j5, rfl, ht5, h5⟩
        have H5 := hide h5
        have hz3 : (U ++ t4 ++ ⟨#[32]⟩ ++ t5).size ≤ 160 := by rw [app_size, app_size, app_size]; omega
        have hz4 : (U ++ t4 ++ ⟨#[32]⟩ ++ t5 ++ ⟨#[32]⟩).size ≤ 161 := by rw [app_size, app_size, app_size, app_size]; omega
        clear h5 H4
        go_wp2_with fail
        refine (l6Items_in HC.out H5.out).mono ?_
        rintro e w6 ⟨t6, j6, rfl, ht6, h6⟩
        have H6 := hide h6
        have hz5 : (U ++ t4 ++ ⟨#[32]⟩ ++ t5 ++ ⟨#[32]⟩ ++ t6).size ≤ 230 := by rw [app_size, app_size, app_size, app_size, app_size]; omega
        have hz6 : (S ++ (U ++ t4 ++ ⟨#[32]⟩ ++ t5 ++ ⟨#[32]⟩ ++ t6)).size ≤ 240 := by rw [app_size]; omega
        clear h6 H5
        go_wp2
        go_ret
        exact dstr_mk H6.out _ (by simp only [app_size, e32, e10]; omega)
      | 7, _ => exact absurd (show 7 ≤ 7 ∧ 7 ≤ 10 by omega) h710
      | 8, _ => exact absurd (show 7 ≤ 8 ∧ 8 ≤ 10 by omega) h710
      | 9, _ => exact absurd (show 7 ≤ 9 ∧ 9 ≤ 10 by omega) h710
      | 10, _ => exact absurd (show 7 ≤ 10 ∧ 10 ≤ 10 by omega) h710
      | 11, _ =>
        have hk : (c : Int) % 16 = 11 := by omega
        clear hci hd16
        go_wp2_with fail
        refine (l3Body_in HC.out H3.out).mono ?_
        rintro e w4 ⟨b4, l4, c4, j4, rfl, hr4, hl4, hb4, h4⟩
        have hconv := run_string_of w4 b4 c4 l4 hr4
        have hbd : (strB l4).size ≤ 60 := by rw [strB_size]; exact hl4
        have H4 := hide h4
        generalize strB l4 = bd at hconv hbd
        generalize l4.length = n4 at hconv ⊢
        clear h4 H3 hr4 hl4 hb4
        go_wp2_with fail
        refine (l6Word_in ⟨#[65, 80, 80, 69, 78, 68]⟩ (by decide) HC.out H4.out).mono ?_
        rintro e w5 ⟨t5, j5, rfl, ht5, h5⟩
        have H5 := hide h5
        replace ht5 : t5.size ≤ 6 := ht5
        have hz1 : (S ++ (t5 ++ ⟨#[32]⟩)).size ≤ 10 := by rw [app_size, app_size]; omega
        clear h5 H4 hconv
        have e123 : (⟨#[123]⟩ : ByteArray).size = 1 := rfl
        have e125 : (⟨#[125, 13, 10]⟩ : ByteArray).size = 3 := rfl
        by_cases h100 : (100 : Int) ≤ (c : Int)
        · have hn60 : ¬ (c : Int) = 60 := by omega
          go_wp2_with fail
          refine (l6Flags_in HC.out H5.out).mono ?_
          rintro e w6 ⟨t6, j6, rfl, ht6, h6⟩
          have H6 := hide h6
          have hz2 : (S ++ (t5 ++ ⟨#[32]⟩) ++ (t6 ++ ⟨#[32]⟩)).size ≤ 420 := by simp only [app_size, e32]; omega
          clear h6 H5
          have DC := hide (l1Dec_any bd.size w6 (by omega))
          have HD := hide (decS_le bd.size (by omega))
          generalize decS bd.size = u at DC HD
          go_wp2_with fail
          refine DC.out.mono ?_
          rintro e w7 ⟨rfl, hb7⟩
          have H7 := hide (H6.out.below hb7)
          have hu := HD.out
          clear hb7 DC H6
          go_wp2
          go_ret
          exact dstr_mk H7.out _ (by simp only [app_size, e10, e123, e125] at *; omega)
        · by_cases h60 : (c : Int) = 60
          · exfalso; omega
          · have DC := hide (l1Dec_any bd.size w5 (by omega))
            have HD := hide (decS_le bd.size (by omega))
            generalize decS bd.size = u at DC HD
            go_wp2_with fail
            refine DC.out.mono ?_
            rintro e w7 ⟨rfl, hb7⟩
            have H7 := hide (H5.out.below hb7)
            have hu := HD.out
            clear hb7 DC H5
            go_wp2
            go_ret
            exact dstr_mk H7.out _ (by simp only [app_size, e10, e123, e125] at *; omega)
      | 12, _ =>
        have hk : (c : Int) % 16 = 12 := by omega
        clear hci hd16
        go_wp2_with fail
        refine (l3Body_in HC.out H3.out).mono ?_
        rintro e w4 ⟨b4, l4, c4, j4, rfl, hr4, hl4, hb4, h4⟩
        have hconv := run_string_of w4 b4 c4 l4 hr4
        have hbd : (strB l4).size ≤ 60 := by rw [strB_size]; exact hl4
        have H4 := hide h4
        generalize strB l4 = bd at hconv hbd
        generalize l4.length = n4 at hconv ⊢
        clear h4 H3 hr4 hl4 hb4
        go_wp2_with fail
        refine (l6Word_in ⟨#[65, 80, 80, 69, 78, 68]⟩ (by decide) HC.out H4.out).mono ?_
        rintro e w5 ⟨t5, j5, rfl, ht5, h5⟩
        have H5 := hide h5
        replace ht5 : t5.size ≤ 6 := ht5
        have hz1 : (S ++ (t5 ++ ⟨#[32]⟩)).size ≤ 10 := by rw [app_size, app_size]; omega
        clear h5 H4 hconv
        have e123 : (⟨#[123]⟩ : ByteArray).size = 1 := rfl
        have e125 : (⟨#[125, 13, 10]⟩ : ByteArray).size = 3 := rfl
        by_cases h100 : (100 : Int) ≤ (c : Int)
        · have hn60 : ¬ (c : Int) = 60 := by omega
          go_wp2_with fail
          refine (l6Flags_in HC.out H5.out).mono ?_
          rintro e w6 ⟨t6, j6, rfl, ht6, h6⟩
          have H6 := hide h6
          have hz2 : (S ++ (t5 ++ ⟨#[32]⟩) ++ (t6 ++ ⟨#[32]⟩)).size ≤ 420 := by simp only [app_size, e32]; omega
          clear h6 H5
          have DC := hide (l1Dec_any bd.size w6 (by omega))
          have HD := hide (decS_le bd.size (by omega))
          generalize decS bd.size = u at DC HD
          go_wp2_with fail
          refine DC.out.mono ?_
          rintro e w7 ⟨rfl, hb7⟩
          have H7 := hide (H6.out.below hb7)
          have hu := HD.out
          clear hb7 DC H6
          go_wp2
          go_ret
          exact dstr_mk H7.out _ (by simp only [app_size, e10, e123, e125] at *; omega)
        · by_cases h60 : (c : Int) = 60
          · have hk60 : c = 60 := by omega
            clear h100
            have DC := hide (l1Dec_any (bd.size + 1) w5 (by omega))
            rw [show ((bd.size + 1 : Nat) : Int) = (bd.size : Int) + 1 from by omega] at DC
            have HD := hide (decS_le (bd.size + 1) (by omega))
            generalize decS (bd.size + 1) = u at DC HD
            subst hk60
            go_wp2_with fail
            refine DC.out.mono ?_
            rintro e w7 ⟨rfl, hb7⟩
            have H7 := hide (H5.out.below hb7)
            have hu := HD.out
            clear hb7 DC H5
            go_wp2
            go_ret
            exact dstr_mk H7.out _ (by simp only [app_size, e10, e123, e125] at *; omega)
          · have DC := hide (l1Dec_any bd.size w5 (by omega))
            have HD := hide (decS_le bd.size (by omega))
            generalize decS bd.size = u at DC HD
            go_wp2_with fail
            refine DC.out.mono ?_
            rintro e w7 ⟨rfl, hb7⟩
            have H7 := hide (H5.out.below hb7)
            have hu := HD.out
            clear hb7 DC H5
            go_wp2
            go_ret
            exact dstr_mk H7.out _ (by simp only [app_size, e10, e123, e125] at *; omega)
      | 13, _ =>
        have hk : (c : Int) % 16 = 13 := by omega
        clear hci hd16
        go_wp2_with fail
        refine (l3Body_in HC.out H3.out).mono ?_
        rintro e w4 ⟨b4, l4, c4, j4, rfl, hr4, hl4, hb4, h4⟩
        have hconv := run_string_of w4 b4 c4 l4 hr4
        have hbd : (strB l4).size ≤ 60 := by rw [strB_size]; exact hl4
        have H4 := hide h4
        generalize strB l4 = bd at hconv hbd
        generalize l4.length = n4 at hconv ⊢
        clear h4 H3 hr4 hl4 hb4
        go_wp2_with fail
        refine (l6Word_in ⟨#[65, 80, 80, 69, 78, 68]⟩ (by decide) HC.out H4.out).mono ?_
        rintro e w5 ⟨t5, j5, rfl, ht5, h5⟩
        have H5 := hide h5
        replace ht5 : t5.size ≤ 6 := ht5
        have hz1 : (S ++ (t5 ++ ⟨#[32]⟩)).size ≤ 10 := by rw [app_size, app_size]; omega
        clear h5 H4 hconv
        have e123 : (⟨#[123]⟩ : ByteArray).size = 1 := rfl
        have e125 : (⟨#[125, 13, 10]⟩ : ByteArray).size = 3 := rfl
        by_cases h100 : (100 : Int) ≤ (c : Int)
        · have hn60 : ¬ (c : Int) = 60 := by omega
          go_wp2_with fail
          refine (l6Flags_in HC.out H5.out).mono ?_
          rintro e w6 ⟨t6, j6, rfl, ht6, h6⟩
          have H6 := hide h6
          have hz2 : (S ++ (t5 ++ ⟨#[32]⟩) ++ (t6 ++ ⟨#[32]⟩)).size ≤ 420 := by simp only [app_size, e32]; omega
          clear h6 H5
          have DC := hide (l1Dec_any bd.size w6 (by omega))
          have HD := hide (decS_le bd.size (by omega))
          generalize decS bd.size = u at DC HD
          go_wp2_with fail
          refine DC.out.mono ?_
          rintro e w7 ⟨rfl, hb7⟩
          have H7 := hide (H6.out.below hb7)
          have hu := HD.out
          clear hb7 DC H6
          go_wp2
          go_ret
          exact dstr_mk H7.out _ (by simp only [app_size, e10, e123, e125] at *; omega)
        · by_cases h60 : (c : Int) = 60
          · exfalso; omega
          · have DC := hide (l1Dec_any bd.size w5 (by omega))
            have HD := hide (decS_le bd.size (by omega))
            generalize decS bd.size = u at DC HD
            go_wp2_with fail
            refine DC.out.mono ?_
            rintro e w7 ⟨rfl, hb7⟩
            have H7 := hide (H5.out.below hb7)
            have hu := HD.out
            clear hb7 DC H5
            go_wp2
            go_ret
            exact dstr_mk H7.out _ (by simp only [app_size, e10, e123, e125] at *; omega)
      | 14, _ =>
        have hk : (c : Int) % 16 = 14 := by omega
        clear hci hd16
        by_cases h14 : (c : Int) = 14
        · go_wp2_with fail
          refine (l6Word_in ⟨#[76, 79, 71, 79, 85, 84]⟩ (by decide) HC.out H3.out).mono ?_
          rintro e w4 ⟨t4, j4, rfl, ht4, h4⟩
          have H4 := hide h4
          replace ht4 : t4.size ≤ 6 := ht4
          clear h4 H3
          go_wp2
          go_ret
          exact dstr_mk H4.out _ (by simp only [app_size, e10]; omega)
        · go_wp2
          go_ret
          exact dstr_mk H3.out _ (by simp only [app_size, e10]; have e12 : (⟨#[78, 79, 79, 80, 32, 123, 51, 125, 13, 10, 97, 98, 99]⟩ : ByteArray).size = 13 := rfl; omega)
      | 15, _ =>
        have hk : (c : Int) % 16 = 15 := by omega
        clear hci hd16
        go_wp2
        go_ret
        exact dstr_mk H3.out _ (by simp only [app_size, e10]; have e12 : (⟨#[76, 79, 71, 73, 78, 32, 120]⟩ : ByteArray).size = 7 := rfl; omega)
      | n + 16, h16 => exact absurd h16 (by omega)
end Go.Proofs.YtledlicandlekaaDoor
