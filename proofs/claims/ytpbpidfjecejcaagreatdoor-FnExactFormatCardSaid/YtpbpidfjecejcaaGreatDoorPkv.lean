import Derived.Test.YtpbpidfjecejcaaGreatDoorPku
import Derived.Deep.DeepCutAuto
import Derived.Deep.RegionLaw
import Derived.WalkKit
import Derived.LaidEql
import Derived.Stop.Asserts
import Derived.RowKitTokens
namespace Go.Proofs.YtpbpidfjecejcaaGreatDoor
open Go.RowKit
set_option linter.unusedVariables false
/-- append of one step, as a step of a statement whose order is drawn. -/
theorem step_append_dir {ops : Array Oper} {o : Oper} {act : Act} {K : Act → World → Prop} {Q : Exit → Act → World → Prop} {E : Prop} (w : World) (hgd : o.guard = none) (s x : Operand)
    (ho : o.op = .call { callee := .builtin .append, args := #[s, x], argTypes := #[25, 25] })
    (base : Nat) (v : Value) (es : List DO) (y : DO) (g1 c : Nat) (hs : act.eval s = v) (hx : act.eval x = .slice (some ⟨g1, 0, none⟩) 1 c) (hown : OwnO w base v es)
    (h0 : w.cell? ⟨g1, 0, none⟩ = some (.int .i64 y.1)) (h1 : w.cell? ⟨g1, 1, none⟩ = some (.string y.2.1)) (h2 : w.cell? ⟨g1, 2, none⟩ = some (.string y.2.2.1)) (h3 : w.cell? ⟨g1, 3, none⟩ = some (.int .i64 y.2.2.2)) (hlen : es.length ≤ 1048575) (hbase : base ≤ w.heap.size)
    (h : ∀ v' w', OwnO w' base v' (es ++ [y]) → w.grownBy w' v.ownBlock → K (act.put o.dst v') w') : if Region.wanted o (yielded ops act.tmps) = true then Oper.wp Tryz.prog o act w K Q else E := by
  have hw : Region.wanted o (yielded ops act.tmps) = true := by simp [Region.wanted, hgd]
  rw [if_pos hw]
  obtain ⟨i0, hi, hz0, hz1, hz2⟩ := info_parts Tryz.infoDirOp
  have hown' : w.ownsRow base 105 4 v es.length (four (es.map opP)) := by have := hown; unfold OwnO Own4 at this; rw [List.length_map] at this; exact this
  refine wp_append_own w s x 25 ho base 105 i0 (.agg #[.int .i64 0, .string ByteArray.empty, .string ByteArray.empty, .int .i64 0]) 4 48 Tryz.underlying25 hi hz0 hz1 hz2 rfl (by decide) v es.length (four (es.map opP)) hs hown' ⟨g1, 0, none⟩ 1 c [.int .i64 y.1, .string y.2.1, .string y.2.2.1, .int .i64 y.2.2.2] hx (by simp) ?_ ?_ (by unfold maxLen; omega) (by omega) hbase ?_
  · intro j u hj
    rw [addr_add]
    match j with
    | 0 => simp only [List.getElem?_cons_zero, Option.some.injEq] at hj; rw [← hj]; exact h0
    | 1 => simp only [List.getElem?_cons_succ, List.getElem?_cons_zero, Option.some.injEq] at hj; rw [← hj]; exact h1
    | 2 => simp only [List.getElem?_cons_succ, List.getElem?_cons_zero, Option.some.injEq] at hj; rw [← hj]; exact h2
    | 3 => simp only [List.getElem?_cons_succ, List.getElem?_cons_zero, Option.some.injEq] at hj; rw [← hj]; exact h3
    | j + 4 => simp at hj
  · intro u hu
    simp only [List.mem_cons, List.not_mem_nil, or_false] at hu
    rcases hu with rfl | rfl | rfl | rfl <;> rfl
  · intro v' w' hown2 hg _
    refine h v' w' ?_ hg
    unfold OwnO Own4
    rw [List.length_map, List.length_append, List.map_append, four_append]
    exact hown2
/-- A drive behind a change of its names. -/
theorem Drv.names {base : Nat} {w w' : World} {o b1 b2 m m' : Nat} {v1 v3 v4 : Value} {vs : List (Value × Value)} {D : MDisk} {l : List EN} (h : Drv base w o b1 b2 m v1 v3 v4 vs D) (hl : LstAt w' b1 b2 m' l) (ho : Off b1 b2 w w') : Drv base w' o b1 b2 m' v1 v3 v4 vs ⟨D.nodes, l, D.kept, D.pend, D.quota⟩ ∧ Fr (fun g => g = b1 ∨ g = b2) w w' := by
  have f : Fr (fun g => g = b1 ∨ g = b2) w w' := ⟨ho.os, ho.tape, ho.output, ho.size, fun g hg hn => ho.block g hg (fun e => hn (.inl e)) (fun e => hn (.inr e))⟩
  obtain ⟨D1, D2, hL, _⟩ := h.l
  have hno : ∀ g t, g = b1 ∨ g = b2 → ¬ KindAt w g t := by
    rintro g t (rfl | rfl) ⟨cs, fr, hk⟩
    · obtain ⟨_, _, hm, _⟩ := hL.o1
      rw [hm] at hk; cases hk
    · obtain ⟨_, _, hm, _⟩ := hL.o2
      rw [hm] at hk; cases hk
  refine ⟨⟨(f.block _ h.box.lt (fun e => hno _ _ e h.box.kind)).trans h.box, h.n.fr f (fun g hg e => ?_), hl, owns_fr h.k f (fun g hg e => hno _ _ e (own_kind h.k hg)), owns_fr h.p f (fun g hg e => hno _ _ e (own_kind h.p hg)), h.lb, h.lo⟩, f⟩
  rcases h.n.kinds hg with k | k
  · exact hno _ _ e k
  · exact hno _ _ e k
end Go.Proofs.YtpbpidfjecejcaaGreatDoor
namespace Go.Proofs.YtpbpidfjecejcaaGreatDoor
open Go.RowKit
set_option linter.unusedVariables false
theorem step_call_3 (f : FuncId) (hf : ∀ (v u z : Value) (w : World), (callFunc f #[v, u, z]).run Tryz.prog w = .ok (.enter f #[v, u, z]) w) {ops : Array Oper} {o : Oper} {act : Act} {w : World} {K : Act → World → Prop} {Q : Exit → Act → World → Prop} {E : Prop} (x y t : Operand) (ts : Array TypeId) (hgd : o.guard = none)
    (ho : o.op = .call { callee := .value (.func f), args := #[x, y, t], argTypes := ts }) (v u z : Value) (hx : act.eval x = v) (hy : act.eval y = u) (ht : act.eval t = z) (h : Calls Tryz.prog f #[v, u, z] w fun e w' => ∃ r, e = .returned r ∧ K (act.put o.dst r) w') :
    if Region.wanted o (yielded ops act.tmps) = true then Oper.wp Tryz.prog o act w K Q else E := by
  have hw : Region.wanted o (yielded ops act.tmps) = true := by simp [Region.wanted, hgd]
  rw [if_pos hw]
  obtain ⟨dst, op, ty, pos, after, guard⟩ := o
  simp only at ho hgd
  subst ho
  unfold Oper.wp
  rw [execOp_call_go]
  simp only [List.map_toArray, List.map_cons, List.map_nil, hx, hy, ht, List.append_toArray, List.nil_append, List.append_nil, hf, Oper.upon_enter]
  refine h.mono ?_
  rintro e w' ⟨r, rfl, hk⟩
  exact hk
theorem run_enterRp (v u z : Value) (w : World) : (callFunc 105 #[v, u, z]).run Tryz.prog w = .ok (.enter 105 #[v, u, z]) w := by
  kernel_rfl
theorem replay_like {X W : World} {b1 b2 n : Nat} {es l : List EN} {kd : Int} {nm tt : ByteArray} {nd nodes : Int} (hs1 : nm.size ≤ 1048576) (hs2 : tt.size ≤ 1048576) (hn : n ≤ 1048570) (hw : (Lit.int .i64 nd).wf = true) (hL : LstAt X b1 b2 n es) (g : Apart es) (hr : repE nodes es (kd, nm, tt, nd) = some l) (e1 : W.heap = X.heap) (e2 : W.os = X.os) (e3 : W.tape = X.tape) (e4 : W.output = X.output) :
    Calls Tryz.prog 105 #[lstV b1 b2, .agg #[.int .i64 kd, .string nm, .string tt, .int .i64 nd], .int .i64 nodes] W fun e w' => e = .returned (.bool true) ∧ LstAt w' b1 b2 (n + 1) l ∧ Off b1 b2 X w' := by
  have hb := like_below e1 e2 e3 e4
  refine (replay_list b1 b2 n es kd nm tt nd nodes W hs1 hs2 hn hw (hL.below hb hL.lt.1 hL.lt.2) g).mono ?_
  rw [hr]
  rintro e w' ⟨rfl, h1, h2⟩
  exact ⟨rfl, h1, (Off.of_below hb).trans h2⟩
/-- A step is put at the end of a drive's Pend. -/
theorem drv_pend {base : Nat} {W w5 : World} {o b1 b2 m : Nat} {v1 v3 v4 v5 : Value} {vs : List (Value × Value)} {D : MDisk} {l : List EN} {P : List DO} (h : Drv base W o b1 b2 m v1 v3 v4 vs ⟨D.nodes, l, D.kept, D.pend, D.quota⟩) (h5 : OwnO w5 base v5 P) (hg : W.grownBy w5 v4.ownBlock) (hb : base ≤ W.heap.size) :
    Drv base (w5.setCell ⟨o, 4, none⟩ v5) o b1 b2 m v1 v3 v5 vs ⟨D.nodes, l, D.kept, P, D.quota⟩ ∧ KepI base W (w5.setCell ⟨o, 4, none⟩ v5) ∧ w5.cell? ⟨o, 4, none⟩ = some v4 ∧ w5.frozen? ⟨o, 4, none⟩ = false := by
  have f : Fr (fun g => v4.ownBlock = some g) W w5 := Fr.of_grown hg (fun k e => e)
  have hS : ∀ g, v4.ownBlock = some g → KindAt W g 105 := fun g hg => own_kind h.p hg
  have hnk : ∀ {g t : Nat}, KindAt W g t → t ≠ 105 → ¬ v4.ownBlock = some g := fun hk ht e => ht (hk.ne (hS _ e))
  have bx : Laid w5 o #[v1, .map (some b1), .map (some b2), v3, v4, .int .i64 D.quota] 131 := (f.block _ h.box.lt (hnk h.box.kind (by decide))).trans h.box
  have n5 : OwnNA w5 base v1 vs D.nodes := h.n.fr f (fun g hg' e => by
    rcases h.n.kinds hg' with k | k
    · exact hnk k (by decide) e
    · exact hnk k (by decide) e)
  have k5 : OwnE w5 base v3 D.kept := own_frk h.k f (fun g e => ⟨_, hS g e, by decide⟩)
  have fs : Fr (fun g => g = o) w5 (w5.setCell ⟨o, 4, none⟩ v5) := (Fr.refl _ _).set rfl
  have hmap : ∀ b, b = b1 ∨ b = b2 → w5.heap[b]? = W.heap[b]? ∧ b ≠ o := by
    obtain ⟨D1, D2, hLL, _⟩ := h.l
    have hk : ∀ b t, b = b1 ∨ b = b2 → ¬ KindAt W b t := by
      rintro b t (rfl | rfl) ⟨cs, fr, hk⟩
      · obtain ⟨_, _, hmm, _⟩ := hLL.o1
        rw [hmm] at hk; cases hk
      · obtain ⟨_, _, hmm, _⟩ := hLL.o2
        rw [hmm] at hk; cases hk
    intro b hb
    have hlt : b < W.heap.size := by rcases hb with rfl | rfl; exact hLL.o1.lt; exact hLL.o2.lt
    exact ⟨f.block b hlt (fun e => hk b _ hb (hS b e)), fun e => hk b _ hb (by rw [e]; exact h.box.kind)⟩
  have l5 : LstAt (w5.setCell ⟨o, 4, none⟩ v5) b1 b2 m l := by
    obtain ⟨D1, D2, hLL, hRR⟩ := h.l
    have hx : ∀ b, b = b1 ∨ b = b2 → (w5.setCell ⟨o, 4, none⟩ v5).heap[b]? = W.heap[b]? := fun b hb => (heap_setCell_other w5 ⟨o, 4, none⟩ b v5 (hmap b hb).2).trans (hmap b hb).1
    obtain ⟨es1, ck1, k1, k2⟩ := hLL.o1
    obtain ⟨es2, ck2, j1, j2⟩ := hLL.o2
    exact ⟨D1, D2, ⟨⟨es1, ck1, (hx b1 (.inl rfl)).trans k1, k2⟩, ⟨es2, ck2, (hx b2 (.inr rfl)).trans j1, j2⟩, hLL.ne⟩, hRR⟩
  have hkd : ∀ g, g = o → KindAt w5 g 131 := fun g e => by subst e; exact bx.kind
  have K1 : KepI base W w5 := KepI.fr f (fun g e => ⟨(own_ge h.p e).1, fun t ht => .inr (.inr (.inl (ht.ne (hS g e))))⟩) hb
  have K2 : KepI base w5 (w5.setCell ⟨o, 4, none⟩ v5) := KepI.fr fs (fun g e => ⟨by subst e; exact h.lo, fun t ht => .inr (.inr (.inr (ht.ne (hkd g e))))⟩) (Nat.le_trans hb f.size)
  exact ⟨⟨bx.set 4 v5, n5.box bx (by decide) (by decide) 4 v5, l5, own_frk k5 fs (fun g e => ⟨_, hkd g e, by decide⟩), own_frk h5 fs (fun g e => ⟨_, hkd g e, by decide⟩), h.lb, h.lo⟩, K1.trans K2, bx.cell 4, frozen_of_row w5 o 4 _ _ bx⟩
theorem chg_like {base : Nat} {wc X Y : World} {o b1 b2 m g : Nat} {v1 v3 v4 : Value} {vs : List (Value × Value)} {C : MDisk} {kd : Int} {nm tt : ByteArray} {nd : Int} (h : Drv base X o b1 b2 m v1 v3 v4 vs C) (LN : Laid X g #[.int .i64 kd, .string nm, .string tt, .int .i64 nd] 105) (hal : Below wc.heap.size wc X) (hbc : base ≤ wc.heap.size) (hl : Below X.heap.size X Y) :
    Drv base Y o b1 b2 m v1 v3 v4 vs C ∧ Y.cell? ⟨g, 0, none⟩ = some (.int .i64 kd) ∧ Y.cell? ⟨g, 1, none⟩ = some (.string nm) ∧ Y.cell? ⟨g, 2, none⟩ = some (.string tt) ∧ Y.cell? ⟨g, 3, none⟩ = some (.int .i64 nd) ∧ base ≤ Y.heap.size ∧ KepI base wc Y := by
  have L := LN.below hl LN.lt
  have hb := hal.trans (hl.mono hal.size)
  exact ⟨h.below hl, L.cell 0, L.cell 1, L.cell 2, L.cell 3, Nat.le_trans hbc hb.size, KepI.of_below hb hbc⟩
theorem chg_fin {base : Nat} {wc Y w5 : World} {o b1 b2 m g : Nat} {v1 v3 v4 v5 : Value} {vs : List (Value × Value)} {D : MDisk} {l : List EN} {kd : Int} {nm tt : ByteArray} {nd : Int} {P : List DO} (h : Drv base Y o b1 b2 m v1 v3 v4 vs ⟨D.nodes, l, D.kept, D.pend, D.quota⟩ ∧ Y.cell? ⟨g, 0, none⟩ = some (.int .i64 kd) ∧ Y.cell? ⟨g, 1, none⟩ = some (.string nm) ∧ Y.cell? ⟨g, 2, none⟩ = some (.string tt) ∧ Y.cell? ⟨g, 3, none⟩ = some (.int .i64 nd) ∧ base ≤ Y.heap.size ∧ KepI base wc Y) (h5 : OwnO w5 base v5 P) (hg : Y.grownBy w5 v4.ownBlock) :
    Drv base (w5.setCell ⟨o, 4, none⟩ v5) o b1 b2 m v1 v3 v5 vs ⟨D.nodes, l, D.kept, P, D.quota⟩ ∧ KepI base wc (w5.setCell ⟨o, 4, none⟩ v5) ∧ w5.cell? ⟨o, 4, none⟩ = some v4 ∧ w5.frozen? ⟨o, 4, none⟩ = false := by
  obtain ⟨h1, h2, h3, h4⟩ := drv_pend h.1 h5 hg h.2.2.2.2.2.1
  exact ⟨h1, h.2.2.2.2.2.2.trans h2, h3, h4⟩
set_option maxRecDepth 20000 in
set_option maxHeartbeats 1000000 in
theorem change_any (base o b1 b2 m : Nat) (v1 v3 v4 : Value) (vs : List (Value × Value)) (D : MDisk) (kd : Int) (nm tt : ByteArray) (nd : Int) (l : List EN) (w : World) (hbase : base ≤ w.heap.size) (hm : m ≤ 1048570) (hp : D.pend.length ≤ 1048575) (hs1 : nm.size ≤ 1048576) (hs2 : tt.size ≤ 1048576) (hw : (Lit.int .i64 nd).wf = true) (hap : Apart D.names) (hr : repE (D.nodes.length : Int) D.names (kd, nm, tt, nd) = some l) (hd : Drv base w o b1 b2 m v1 v3 v4 vs D) :
    Calls Tryz.prog 130 #[.pointer (some ⟨o, 0, none⟩), .agg #[.int .i64 kd, .string nm, .string tt, .int .i64 nd]] w fun e w' => ∃ v4', e = .returned (.tuple #[]) ∧ Drv base w' o b1 b2 (m + 1) v1 v3 v4' vs (dirD D (kd, nm, tt, nd)) ∧ KepI base w w' := by
  have hA := (Below.refl w.heap.size w).alloc (Nat.le_refl _) (.cells #[.int .i64 kd, .string nm, .string tt, .int .i64 nd] 105)
  have L0 := Laid.new w #[.int .i64 kd, .string nm, .string tt, .int .i64 nd] 105
  have hd0 := hd.below hA
  have HOW := hide hd.box.lt
  obtain ⟨a1, c1, rfl⟩ := hd.n.slice
  obtain ⟨a4, c4, rfl⟩ := hd.p.slice
  obtain ⟨a3, c3, rfl⟩ := hd.k.slice
  have HA := hide hA
  have HR := hide hr
  clear hA hd hr
  go_enter Tryz.func130, Tryz.ntmps130
  go_upto_region 1 with fail
  generalize w.alloc (.cells #[.int .i64 kd, .string nm, .string tt, .int .i64 nd] 105) = W at L0 hd0 HA ⊢
  have q0 : W.cell? ⟨o, 0, none⟩ = some (.slice a1 D.nodes.length c1) := hd0.box.cell 0
  have q1 : W.cell? ⟨o, 1, none⟩ = some (.map (some b1)) := hd0.box.cell 1
  have q2 : W.cell? ⟨o, 2, none⟩ = some (.map (some b2)) := hd0.box.cell 2
  have o0 : W.cell? ⟨w.heap.size, 0, none⟩ = some (.int .i64 kd) := L0.cell 0
  have o1 : W.cell? ⟨w.heap.size, 1, none⟩ = some (.string nm) := L0.cell 1
  have o2 : W.cell? ⟨w.heap.size, 2, none⟩ = some (.string tt) := L0.cell 2
  have o3 : W.cell? ⟨w.heap.size, 3, none⟩ = some (.int .i64 nd) := L0.cell 3
  have RP := hide (fun W' (e1 : W'.heap = W.heap) (e2 : W'.os = W.os) (e3 : W'.tape = W.tape) (e4 : W'.output = W.output) => replay_like (W := W') hs1 hs2 hm hw hd0.l hap HR.out e1 e2 e3 e4)
  have HD := hide hd0
  have HL := hide L0
  clear hd0 L0
  go_cut [] (fun wx => LstAt wx b1 b2 (m + 1) l ∧ Off b1 b2 W wx)
  case first =>
    go_region_law (first
      | (refine step_call_3 105 run_enterRp (.tmp 7) (.tmp 8) (.tmp 13) #[127, 105, 3] (by rfl) (by rfl) (lstV b1 b2) (.agg #[.int .i64 kd, .string nm, .string tt, .int .i64 nd]) (.int .i64 (D.nodes.length : Int)) (by simp [go_sem, lstV]) (by simp [go_sem]) (by simp [go_sem]) ?_; refine (RP.out _ (by rfl) (by rfl) (by rfl) (by rfl)).mono ?_; rintro e w2 ⟨rfl, hl2, ho2⟩; have HL2 := hide hl2; have HO2 := hide ho2; clear hl2 ho2; refine ⟨_, rfl, ?_⟩)
      | fail)
    all_goals
      go_wp2_with fail
      go_meet
      case rel => exact ⟨HL2.out, HO2.out⟩
  case rest =>
    obtain ⟨hl2, ho2⟩ := hcut
    obtain ⟨hd2, hf2⟩ := HD.out.names hl2 ho2
    have hno : ∀ g t, KindAt W g t → ¬ (g = b1 ∨ g = b2) := by
      obtain ⟨D1, D2, hLL, _⟩ := HD.out.l
      rintro g t ⟨cs, fr, hk⟩ (rfl | rfl)
      · obtain ⟨_, _, hmm, _⟩ := hLL.o1
        rw [hmm] at hk; cases hk
      · obtain ⟨_, _, hmm, _⟩ := hLL.o2
        rw [hmm] at hk; cases hk
    have L2 : Laid wc w.heap.size #[.int .i64 kd, .string nm, .string tt, .int .i64 nd] 105 := (hf2.block _ HL.out.lt (hno _ _ HL.out.kind)).trans HL.out
    have hbW : base ≤ W.heap.size := Nat.le_trans hbase HA.out.size
    have HK2 := hide ((KepI.of_below HA.out hbase).trans (KepI.fr hf2 (fun g hg => ⟨by rcases hg with rfl | rfl; exact HD.out.lb.1; exact HD.out.lb.2, fun t ht => absurd hg (hno g t ht)⟩) hbW))
    have hbc : base ≤ wc.heap.size := Nat.le_trans hbW hf2.size
    have hal := (Below.refl wc.heap.size wc).alloc (Nat.le_refl _) (.cells #[.int .i64 kd, .string nm, .string tt, .int .i64 nd] 105)
    have d3 := hd2.below hal
    have L3 := L2.below hal L2.lt
    have LN := Laid.new wc #[.int .i64 kd, .string nm, .string tt, .int .i64 nd] 105
    have e4 : wc.cell? ⟨o, 4, none⟩ = some (.slice a4 D.pend.length c4) := hd2.box.cell 4
    have e4a : (wc.alloc (.cells #[.int .i64 kd, .string nm, .string tt, .int .i64 nd] 105)).cell? ⟨o, 4, none⟩ = some (.slice a4 D.pend.length c4) := d3.box.cell 4
    have p0 : wc.cell? ⟨w.heap.size, 0, none⟩ = some (.int .i64 kd) := L2.cell 0
    have n0 : (wc.alloc (.cells #[.int .i64 kd, .string nm, .string tt, .int .i64 nd] 105)).cell? ⟨wc.heap.size, 0, none⟩ = some (.int .i64 kd) := LN.cell 0
    have p1 : wc.cell? ⟨w.heap.size, 1, none⟩ = some (.string nm) := L2.cell 1
    have n1 : (wc.alloc (.cells #[.int .i64 kd, .string nm, .string tt, .int .i64 nd] 105)).cell? ⟨wc.heap.size, 1, none⟩ = some (.string nm) := LN.cell 1
    have p2 : wc.cell? ⟨w.heap.size, 2, none⟩ = some (.string tt) := L2.cell 2
    have n2 : (wc.alloc (.cells #[.int .i64 kd, .string nm, .string tt, .int .i64 nd] 105)).cell? ⟨wc.heap.size, 2, none⟩ = some (.string tt) := LN.cell 2
    have p3 : wc.cell? ⟨w.heap.size, 3, none⟩ = some (.int .i64 nd) := L2.cell 3
    have n3 : (wc.alloc (.cells #[.int .i64 kd, .string nm, .string tt, .int .i64 nd] 105)).cell? ⟨wc.heap.size, 3, none⟩ = some (.int .i64 nd) := LN.cell 3
    have LK := hide (fun (Y : World) (e1 : Y.heap = (wc.alloc (.cells #[.int .i64 kd, .string nm, .string tt, .int .i64 nd] 105)).heap) (e2 : Y.os = (wc.alloc (.cells #[.int .i64 kd, .string nm, .string tt, .int .i64 nd] 105)).os) (e3 : Y.tape = (wc.alloc (.cells #[.int .i64 kd, .string nm, .string tt, .int .i64 nd] 105)).tape) (e4 : Y.output = (wc.alloc (.cells #[.int .i64 kd, .string nm, .string tt, .int .i64 nd] 105)).output) => chg_like d3 LN hal hbc (like_below e1 e2 e3 e4))
    clear hl2 ho2 hd2 hf2 hno L2 hal L3 LN RP q0 q1 q2 o0 o1 o2 o3
    go_upto_region 2 with fail
    go_region_law (first
      | (refine step_append_dir _ (by rfl) (.tmp 19) (.tmp 21) (by rfl) base (.slice a4 D.pend.length c4) D.pend (kd, nm, tt, nd) wc.heap.size 1 (by simp [go_sem]) (by simp [go_sem]) (LK.out _ (by rfl) (by rfl) (by rfl) (by rfl)).1.p (LK.out _ (by rfl) (by rfl) (by rfl) (by rfl)).2.1 (LK.out _ (by rfl) (by rfl) (by rfl) (by rfl)).2.2.1 (LK.out _ (by rfl) (by rfl) (by rfl) (by rfl)).2.2.2.1 (LK.out _ (by rfl) (by rfl) (by rfl) (by rfl)).2.2.2.2.1 hp (LK.out _ (by rfl) (by rfl) (by rfl) (by rfl)).2.2.2.2.2.1 ?_; intro v5 w5 h5 hg5; obtain ⟨a5, c5, rfl⟩ := h5.slice; have hfn := chg_fin (LK.out _ (by rfl) (by rfl) (by rfl) (by rfl)) h5 hg5; have r4 := hfn.2.2.1; have f4 := hfn.2.2.2; rw [show (D.pend ++ [(kd, nm, tt, nd)]).length = D.pend.length + 1 from by simp] at hfn ⊢; have HFN := hide hfn; clear hfn h5 hg5)
      | fail)
    all_goals
      go_wp2
      go_end0
      have e : dirD D (kd, nm, tt, nd) = ⟨D.nodes, l, D.kept, D.pend ++ [(kd, nm, tt, nd)], D.quota⟩ := by unfold dirD; rw [HR.out]; rfl
      exact ⟨_, rfl, by rw [e]; exact HFN.out.1, HK2.out.trans HFN.out.2.1⟩
end Go.Proofs.YtpbpidfjecejcaaGreatDoor
namespace Go.Proofs.YtpbpidfjecejcaaGreatDoor
open Go.RowKit
set_option linter.unusedVariables false
/-- The error that stands for a code. -/
def errV (c : Int) : Value := if c = 0 then .nilIface else .iface 139 (.int .i64 (c - 1))
/-- What a method of a drive leaves. -/
def DrPost (base o b1 b2 m : Nat) (v1 v3 : Value) (vs : List (Value × Value)) (w : World) (R : MDisk × Int) (e : Ending) (w' : World) : Prop := ∃ m' v4, e = .returned (errV R.2) ∧ Drv base w' o b1 b2 m' v1 v3 v4 vs R.1 ∧ KepI base w w' ∧ m' ≤ m + 1
theorem dr_same {base o b1 b2 m : Nat} {v1 v3 v4 : Value} {vs : List (Value × Value)} {w w' : World} {D : MDisk} {R : MDisk × Int} {c : Int} {v : Value} (hR : R = (D, c)) (hv : v = errV c) (hd : Drv base w o b1 b2 m v1 v3 v4 vs D) (hb : Below w.heap.size w w') (hbase : base ≤ w.heap.size) : DrPost base o b1 b2 m v1 v3 vs w R (.returned v) w' := by
  subst hR
  subst hv
  exact ⟨m, v4, rfl, hd.below hb, KepI.of_below hb hbase, by omega⟩
def renR (D : MDisk) (nm tt : ByteArray) : MDisk × Int := if tt = nm then (D, 0) else if 1000 ≤ D.pend.length then (D, 6) else (dirD D (4, nm, tt, 0), 0)
def remR (D : MDisk) (nm : ByteArray) : MDisk × Int := if 1000 ≤ D.pend.length then (D, 6) else (dirD D (5, nm, noStr, 0), 0)
set_option maxRecDepth 20000 in
theorem rename_any (base o b1 b2 m : Nat) (v1 v3 v4 : Value) (vs : List (Value × Value)) (D : MDisk) (nm tt : ByteArray) (n : Int) (w : World) (hbase : base ≤ w.heap.size) (hW : Wkd D) (hm : m ≤ 1048570) (hs1 : nm.size ≤ 1048576) (hs2 : tt.size ≤ 1048576) (hot : okName tt = true) (hin : nodeIn D.names nm = some n) (hd : Drv base w o b1 b2 m v1 v3 v4 vs D) :
    Calls Tryz.prog 113 #[.pointer (some ⟨o, 0, none⟩), .string nm, .string tt] w (DrPost base o b1 b2 m v1 v3 vs w (renR D nm tt)) := by
  obtain ⟨a4, c4, rfl⟩ := hd.p.slice
  have q4 : w.cell? ⟨o, 4, none⟩ = some (.slice a4 D.pend.length c4) := hd.box.cell 4
  have HD := hide hd
  have HIN := hide hin
  have HOT := hide hot
  have HW := hide hW
  have hnp := hW.np
  clear hd hin hot hW
  by_cases hse : tt = nm
  · have HR := hide (show renR D nm tt = (D, 0) from by unfold renR; rw [if_pos hse])
    have hbe := beq_of_eq hse
    clear hse
    go_enter Tryz.func113, Tryz.ntmps113
    go_wp2
    go_ret
    exact dr_same HR.out rfl HD.out (Below.refl _ _) hbase
  have hbe := beq_of_ne hse
  have HSE := hide hse
  clear hse
  by_cases hp : 1000 ≤ D.pend.length
  · have HR := hide (show renR D nm tt = (D, 6) from by unfold renR; rw [if_neg HSE.out, if_pos hp])
    go_enter Tryz.func113, Tryz.ntmps113
    go_wp2
    go_ret
    exact dr_same HR.out rfl HD.out (Below.refl _ _) hbase
  have HR := hide (show renR D nm tt = (dirD D (4, nm, tt, 0), 0) from by unfold renR; rw [if_neg HSE.out, if_neg hp])
  have CH := hide (change_any base o b1 b2 m v1 v3 _ vs D 4 nm tt 0 _ w hbase hm (by omega) hs1 hs2 (by decide) HW.out.fine.ap (rep_rename HIN.out HOT.out HSE.out) HD.out)
  go_enter Tryz.func113, Tryz.ntmps113
  go_wp2_with fail
  refine CH.out.mono ?_
  rintro e w2 ⟨v4', rfl, hd2, hk2⟩
  have HD2 := hide hd2
  have HK2 := hide hk2
  clear hd2 hk2 CH q4
  go_wp2
  go_ret
  rw [HR.out]
  exact ⟨m + 1, v4', rfl, HD2.out, HK2.out, Nat.le_refl _⟩
set_option maxRecDepth 20000 in
theorem remove_any (base o b1 b2 m : Nat) (v1 v3 v4 : Value) (vs : List (Value × Value)) (D : MDisk) (nm : ByteArray) (n : Int) (w : World) (hbase : base ≤ w.heap.size) (hW : Wkd D) (hm : m ≤ 1048570) (hs1 : nm.size ≤ 1048576) (hin : nodeIn D.names nm = some n) (hd : Drv base w o b1 b2 m v1 v3 v4 vs D) :
    Calls Tryz.prog 114 #[.pointer (some ⟨o, 0, none⟩), .string nm] w (DrPost base o b1 b2 m v1 v3 vs w (remR D nm)) := by
  obtain ⟨a4, c4, rfl⟩ := hd.p.slice
  have q4 : w.cell? ⟨o, 4, none⟩ = some (.slice a4 D.pend.length c4) := hd.box.cell 4
  have HD := hide hd
  have HIN := hide hin
  have HW := hide hW
  have hnp := hW.np
  clear hd hin hW
  by_cases hp : 1000 ≤ D.pend.length
  · have HR := hide (show remR D nm = (D, 6) from by unfold remR; rw [if_pos hp])
    go_enter Tryz.func114, Tryz.ntmps114
    go_wp2
    go_ret
    exact dr_same HR.out rfl HD.out (Below.refl _ _) hbase
  have HR := hide (show remR D nm = (dirD D (5, nm, noStr, 0), 0) from by unfold remR; rw [if_neg hp])
  have CH := hide (change_any base o b1 b2 m v1 v3 _ vs D 5 nm noStr 0 _ w hbase hm (by omega) hs1 (by simp [noStr, ByteArray.size]) (by decide) HW.out.fine.ap (rep_remove HIN.out) HD.out)
  unfold noStr at CH
  go_enter Tryz.func114, Tryz.ntmps114
  go_wp2_with fail
  refine CH.out.mono ?_
  rintro e w2 ⟨v4', rfl, hd2, hk2⟩
  have HD2 := hide hd2
  have HK2 := hide hk2
  clear hd2 hk2 CH q4
  go_wp2
  go_ret
  rw [HR.out]
  exact ⟨m + 1, v4', rfl, HD2.out, HK2.out, Nat.le_refl _⟩
end Go.Proofs.YtpbpidfjecejcaaGreatDoor
namespace Go.Proofs.YtpbpidfjecejcaaGreatDoor
open Go.RowKit Go.Extern.Stop Go.Stop Go.Extern
set_option linter.unusedVariables false
set_option linter.unusedSimpArgs false
theorem as_nil (t : Value) (w : World) :
    Calls Tryz.prog 94 #[.nilIface, t] w fun e w' => e = .returned (.bool false) ∧ w' = w := by
  go_enter Tryz.func94, Tryz.ntmps94
  go_wp2
  go_ret
  exact ⟨rfl, rfl⟩
theorem ea_valueOfP (t : Addr) (w : World) : (ReflectliteValue.unpack (.iface 137 (.pointer (some t)))).run Tryz.prog w
    = .ok (.agg #[.pointer (some ⟨4, 137, none⟩), .pointer (some ⟨w.heap.size, 0, none⟩), .int .u64 150]) (w.alloc (.cells #[.pointer (some t)] 137)) := by kernel_rfl
theorem ea_typeP (a : Addr) (w : World) : (ReflectliteValue.methodAny (ReflectliteValue.valueError "reflectlite.Value.Type" 0) (fun t _ _ _ => ReflectliteType.toType t) #[.agg #[.pointer (some ⟨4, 137, none⟩), .pointer (some a), .int .u64 150]]).run Tryz.prog w
    = .ok (.iface 187 (.agg #[.pointer (some ⟨4, 137, none⟩)])) w := by kernel_rfl
theorem ea_methodKind (h : Value) (w : World) : (Go.method 342 187 (.agg #[h]) "Kind").run Tryz.prog w = .ok (164, h) w := by kernel_rfl
theorem ea_kindP (w : World) : ((ReflectliteType.abiMethod fun t => (fun a : Nat => Value.int IntKind.u8 (a : Int)) <$> Rtype.kind t) #[.pointer (some ⟨4, 137, none⟩)]).run Tryz.prog w = .ok (.int .u8 22) w := by kernel_rfl
theorem ea_kindF (w : World) : ((ReflectliteType.abiMethod fun t => (fun a : Nat => Value.int IntKind.u8 (a : Int)) <$> Rtype.kind t) #[.pointer (some ⟨4, 134, none⟩)]).run Tryz.prog w = .ok (.int .u8 25) w := by kernel_rfl
theorem ea_partsP (a : Addr) (w : World) : (ReflectliteValue.parts (.agg #[.pointer (some ⟨4, 137, none⟩), .pointer (some a), .int .u64 150])).run Tryz.prog w = .ok (some (137, a, 150)) w := by kernel_rfl
theorem ea_isNilP (a p : Addr) (W : World) (ha : W.cell? a = some (.pointer (some p))) :
    (ReflectliteValue.method (ReflectliteValue.valueError "reflectlite.Value.IsNil" 0) ReflectliteValue.isNil #[.agg #[.pointer (some ⟨4, 137, none⟩), .pointer (some a), .int .u64 150]]).run Tryz.prog W = .ok (.bool false) W := by
  show Sem.run Tryz.prog (ReflectliteValue.parts (.agg #[.pointer (some ⟨4, 137, none⟩), .pointer (some a), .int .u64 150]) >>= _) W = _
  simp only [Sem.run_bind, ea_partsP, Result.andThen]
  simp [ReflectliteValue.isNil, loadVar, isAgg, underlying, Tryz.underlying137, ha, Result.andThen]
theorem ea_methodElem (h : Value) (w : World) : (Go.method 342 187 (.agg #[h]) "Elem").run Tryz.prog w = .ok (176, .agg #[h]) w := by kernel_rfl
theorem ea_methodImplements (h : Value) (w : World) : (Go.method 342 187 (.agg #[h]) "Implements").run Tryz.prog w = .ok (177, .agg #[h]) w := by kernel_rfl
theorem ea_methodAssignableTo (h : Value) (w : World) : (Go.method 342 187 (.agg #[h]) "AssignableTo").run Tryz.prog w = .ok (174, .agg #[h]) w := by kernel_rfl
theorem ea_elemP (w : World) : (ReflectliteType.method ReflectliteType.elem #[.agg #[.pointer (some ⟨4, 137, none⟩)]]).run Tryz.prog w = .ok (.iface 187 (.agg #[.pointer (some ⟨4, 134, none⟩)])) w := by kernel_rfl
theorem ea_implements (w : World) : (ReflectliteType.relation "Implements" ReflectliteType.implements_ #[.agg #[.pointer (some ⟨4, 134, none⟩)], .iface 187 (.agg #[.pointer (some ⟨4, 84, none⟩)])]).run Tryz.prog w = .ok (.bool true) w := by kernel_rfl
theorem ea_typeOfF (v : Value) (w : World) : (ReflectliteType.typeOf #[.iface 134 v]).run Tryz.prog w = .ok (.iface 187 (.agg #[.pointer (some ⟨4, 134, none⟩)])) w := by kernel_rfl
theorem ea_assignable (w : World) : (ReflectliteType.relation "AssignableTo" ReflectliteType.assignableTo #[.agg #[.pointer (some ⟨4, 134, none⟩)], .iface 187 (.agg #[.pointer (some ⟨4, 134, none⟩)])]).run Tryz.prog w = .ok (.bool true) w := by kernel_rfl
theorem ea_valueOfF (x y : Value) (w : World) : (ReflectliteValue.unpack (.iface 134 (.agg #[x, y]))).run Tryz.prog w
    = .ok (.agg #[.pointer (some ⟨4, 134, none⟩), .pointer (some ⟨w.heap.size, 0, none⟩), .int .u64 153]) (w.alloc (.cells #[x, y] 134)) := by kernel_rfl
theorem ea_elemOf (w : World) : (Rtype.elem? 137).run Tryz.prog w = .ok (some 134) w := by kernel_rfl
theorem ea_mk (p : Addr) (w : World) : (ReflectliteValue.mk 134 p ReflectliteValue.flagAddr).run Tryz.prog w = .ok (.agg #[.pointer (some ⟨4, 134, none⟩), .pointer (some p), .int .u64 409]) w := by kernel_rfl
theorem ea_elemV (a p : Addr) (W : World) (ha : W.cell? a = some (.pointer (some p))) :
    (ReflectliteValue.method (ReflectliteValue.valueError "reflectlite.Value.Elem" 0) ReflectliteValue.elem #[.agg #[.pointer (some ⟨4, 137, none⟩), .pointer (some a), .int .u64 150]]).run Tryz.prog W
      = .ok (.agg #[.pointer (some ⟨4, 134, none⟩), .pointer (some p), .int .u64 409]) W := by
  show Sem.run Tryz.prog (ReflectliteValue.parts (.agg #[.pointer (some ⟨4, 137, none⟩), .pointer (some a), .int .u64 150]) >>= _) W = _
  simp only [Sem.run_bind, ea_partsP, Result.andThen]
  simp [ReflectliteValue.elem, loadVar, isAgg, underlying, Tryz.underlying137, ha, Result.andThen, ea_elemOf, ea_mk]
theorem ea_partsA (a : Addr) (w : World) : (ReflectliteValue.parts (.agg #[.pointer (some ⟨4, 134, none⟩), .pointer (some a), .int .u64 409])).run Tryz.prog w = .ok (some (134, a, 409)) w := by kernel_rfl
theorem ea_partsF (a : Addr) (w : World) : (ReflectliteValue.parts (.agg #[.pointer (some ⟨4, 134, none⟩), .pointer (some a), .int .u64 153])).run Tryz.prog w = .ok (some (134, a, 153)) w := by kernel_rfl
theorem ea_direct (w : World) : (Rtype.directlyAssignable 134 134).run Tryz.prog w = .ok true w := by kernel_rfl
theorem ea_size (w : World) : (sizeOf 134).run Tryz.prog w = .ok 2 w := by kernel_rfl
/-- (Value).Set: the opFault at ⟨t, 0⟩ gets what the one at ⟨b, 0⟩ holds. -/
theorem ea_set (t b : Nat) (n : Int) (tc : TypeId) (vc o0 o1 : Value) (W : World) (hb0 : W.cell? ⟨b, 0, none⟩ = some (.int .i64 n)) (hb1 : W.cell? ⟨b, 1, none⟩ = some (.iface tc vc)) (ht0 : W.cell? ⟨t, 0, none⟩ = some o0) (ht1 : W.cell? ⟨t, 1, none⟩ = some o1) (hf0 : W.frozen? ⟨t, 0, none⟩ = false) (hf1 : W.frozen? ⟨t, 1, none⟩ = false) :
    (ReflectliteValue.set #[.agg #[.pointer (some ⟨4, 134, none⟩), .pointer (some ⟨t, 0, none⟩), .int .u64 409], .agg #[.pointer (some ⟨4, 134, none⟩), .pointer (some ⟨b, 0, none⟩), .int .u64 153]]).run Tryz.prog W
      = .ok (.tuple #[]) ((W.setCell ⟨t, 0, none⟩ (.int .i64 n)).setCell ⟨t, 1, none⟩ (.iface tc vc)) := by
  have g1 : (W.setCell ⟨t, 0, none⟩ (.int .i64 n)).cell? ⟨t, 1, none⟩ = some o1 := by
    rw [World.cell?_setCell_other _ _ _ _ (by intro e; simp only [Addr.mk.injEq] at e; omega)]; exact ht1
  have g2 : (W.setCell ⟨t, 0, none⟩ (.int .i64 n)).frozen? ⟨t, 1, none⟩ = false := by simpa using hf1
  show Sem.run Tryz.prog (ReflectliteValue.parts (.agg #[.pointer (some ⟨4, 134, none⟩), .pointer (some ⟨t, 0, none⟩), .int .u64 409]) >>= fun _ => ReflectliteValue.parts (.agg #[.pointer (some ⟨4, 134, none⟩), .pointer (some ⟨b, 0, none⟩), .int .u64 153]) >>= _) W = _
  simp only [Sem.run_bind, ea_partsA, ea_partsF, Result.andThen]
  simp [ReflectliteValue.flagAddr, loadVar, isAgg, underlying, Tryz.underlying134, hb0, hb1, Result.andThen, ea_direct, ea_size, storeVar, Value.cells, storeCells, Addr.add, loadCells, loadCellsFrom]
  rw [run_store Tryz.prog W _ _ _ (by rfl)]
  simp [ht0, hf0]
  rw [run_store Tryz.prog _ _ _ _ (by rfl)]
  simp [g1, g2]
end Go.Proofs.YtpbpidfjecejcaaGreatDoor
namespace Go.Proofs.YtpbpidfjecejcaaGreatDoor
open Go.RowKit Go.Extern.Stop Go.Stop Go.Extern
set_option linter.unusedVariables false
set_option linter.unusedSimpArgs false
/-- What errors' own variable holds. -/
def ErrG (w : World) : Prop := w.cell? ⟨0, 0, none⟩ = some (.iface 187 (.agg #[.pointer (some ⟨4, 84, none⟩)]))
theorem lt_cell {w : World} {p : Addr} {v : Value} (h : w.cell? p = some v) : p.block < w.heap.size := by
  rcases Nat.lt_or_ge p.block w.heap.size with h' | h'
  · exact h'
  · simp [World.cell?, Array.getElem?_eq_none h'] at h
set_option maxRecDepth 20000 in
set_option maxHeartbeats 4000000 in
theorem as_hit (t : Nat) (n : Int) (tc : TypeId) (vc o0 o1 : Value) (w : World) (hg : ErrG w) (ht0 : w.cell? ⟨t, 0, none⟩ = some o0) (ht1 : w.cell? ⟨t, 1, none⟩ = some o1) (hf : ∀ j, w.frozen? ⟨t, j, none⟩ = false) :
    Calls Tryz.prog 94 #[.iface 134 (.agg #[.int .i64 n, .iface tc vc]), .iface 137 (.pointer (some ⟨t, 0, none⟩))] w fun ev w' => ev = .returned (.bool true) ∧ ∃ X, Below w.heap.size w X ∧ w' = (X.setCell ⟨t, 0, none⟩ (.int .i64 n)).setCell ⟨t, 1, none⟩ (.iface tc vc) := by
  have h6 := @run_callFunc_extern Tryz.prog 116 _ (fun args => ReflectliteValue.unpack (args.getD 0 (.tuple #[]))) Tryz.func116 (by kernel_rfl) (by kernel_rfl) (by kernel_rfl) (by kernel_rfl)
  have h7 := @run_callFunc_extern Tryz.prog 117 _ (ReflectliteValue.methodAny (ReflectliteValue.valueError "reflectlite.Value.Type" 0) (fun t _ _ _ => ReflectliteType.toType t)) Tryz.func117 (by kernel_rfl) (by kernel_rfl) (by kernel_rfl) (by kernel_rfl)
  have h8 := @run_callFunc_extern Tryz.prog 118 _ (ReflectliteValue.method (ReflectliteValue.valueError "reflectlite.Value.IsNil" 0) ReflectliteValue.isNil) Tryz.func118 (by kernel_rfl) (by kernel_rfl) (by kernel_rfl) (by kernel_rfl)
  have h27 := @run_callFunc_extern Tryz.prog 164 _ (ReflectliteType.abiMethod fun t => do pure (.int .u8 (← Rtype.kind t))) Tryz.func164 (by kernel_rfl) (by kernel_rfl) (by kernel_rfl) (by kernel_rfl)
  have h37 := @run_callFunc_extern Tryz.prog 176 _ (ReflectliteType.method ReflectliteType.elem) Tryz.func176 (by kernel_rfl) (by kernel_rfl) (by kernel_rfl) (by kernel_rfl)
  have h38 := @run_callFunc_extern Tryz.prog 177 _ (ReflectliteType.relation "Implements" ReflectliteType.implements_) Tryz.func177 (by kernel_rfl) (by kernel_rfl) (by kernel_rfl) (by kernel_rfl)
  have h10 := @run_callFunc_extern Tryz.prog 120 _ ReflectliteType.typeOf Tryz.func120 (by kernel_rfl) (by kernel_rfl) (by kernel_rfl) (by kernel_rfl)
  have h35 := @run_callFunc_extern Tryz.prog 174 _ (ReflectliteType.relation "AssignableTo" ReflectliteType.assignableTo) Tryz.func174 (by kernel_rfl) (by kernel_rfl) (by kernel_rfl) (by kernel_rfl)
  have h11 := @run_callFunc_extern Tryz.prog 134 _ (ReflectliteValue.method (ReflectliteValue.valueError "reflectlite.Value.Elem" 0) ReflectliteValue.elem) Tryz.func134 (by kernel_rfl) (by kernel_rfl) (by kernel_rfl) (by kernel_rfl)
  have h12 := @run_callFunc_extern Tryz.prog 135 _ ReflectliteValue.set Tryz.func135 (by kernel_rfl) (by kernel_rfl) (by kernel_rfl) (by kernel_rfl)
  have tO := ea_typeOfF
  have mA := ea_methodAssignableTo
  have a25 := ea_assignable
  have v25 := ea_valueOfF
  have f6 := ea_valueOfP
  have f7 := ea_typeP
  have mK := ea_methodKind
  have mE := ea_methodElem
  have mI := ea_methodImplements
  have k27 := ea_kindP
  have k25 := ea_kindF
  have e27 := ea_elemP
  have i25 := ea_implements
  unfold ErrG at hg
  have b1 := (Below.refl w.heap.size w).alloc (Nat.le_refl _) (.cells #[.pointer (some ⟨t, 0, none⟩)] 137)
  have b2 := b1.alloc b1.size (.cells #[.pointer (some ⟨4, 137, none⟩), .pointer (some ⟨w.heap.size, 0, none⟩), .int .u64 150] 161)
  have b3 := b2.alloc b2.size (.cells #[.pointer (some ⟨4, 137, none⟩), .pointer (some ⟨w.heap.size, 0, none⟩), .int .u64 150] 161)
  have b4 := b3.alloc b3.size (.cells #[.int .i64 n, .iface tc vc] 134)
  have n8 := ea_isNilP ⟨w.heap.size, 0, none⟩ ⟨t, 0, none⟩ ((w.alloc (.cells #[.pointer (some ⟨t, 0, none⟩)] 137)).alloc (.cells #[.pointer (some ⟨4, 137, none⟩), .pointer (some ⟨w.heap.size, 0, none⟩), .int .u64 150] 161)) (by simp)
  have hg2 := (b2.cell (p := ⟨0, 0, none⟩) (lt_cell hg)).trans hg
  have el := ea_elemV ⟨w.heap.size, 0, none⟩ ⟨t, 0, none⟩ (((w.alloc (.cells #[.pointer (some ⟨t, 0, none⟩)] 137)).alloc (.cells #[.pointer (some ⟨4, 137, none⟩), .pointer (some ⟨w.heap.size, 0, none⟩), .int .u64 150] 161)).alloc (.cells #[.pointer (some ⟨4, 137, none⟩), .pointer (some ⟨w.heap.size, 0, none⟩), .int .u64 150] 161)) (by rw [World.cell?_alloc_lt _ _ ⟨w.heap.size, 0, none⟩ (by simp; omega), World.cell?_alloc_lt _ _ ⟨w.heap.size, 0, none⟩ (by simp)]; simp)
  have hlt := lt_cell ht0
  have htne : t ≠ w.heap.size + 1 + 1 + 1 := by simp only at hlt; omega
  have st := ea_set t (w.heap.size + 1 + 1 + 1) n tc vc o0 o1 ((((w.alloc (.cells #[.pointer (some ⟨t, 0, none⟩)] 137)).alloc (.cells #[.pointer (some ⟨4, 137, none⟩), .pointer (some ⟨w.heap.size, 0, none⟩), .int .u64 150] 161)).alloc (.cells #[.pointer (some ⟨4, 137, none⟩), .pointer (some ⟨w.heap.size, 0, none⟩), .int .u64 150] 161)).alloc (.cells #[.int .i64 n, .iface tc vc] 134))
    (by rw [World.cell?_alloc_at _ _ _ _ (by simp)]; rfl) (by rw [World.cell?_alloc_at _ _ _ _ (by simp)]; rfl)
    ((b4.cell (p := ⟨t, 0, none⟩) hlt).trans ht0) ((b4.cell (p := ⟨t, 1, none⟩) hlt).trans ht1)
    ((b4.frozen (p := ⟨t, 0, none⟩) hlt).trans (hf 0)) ((b4.frozen (p := ⟨t, 1, none⟩) hlt).trans (hf 1))
  have B4 := hide b4
  clear b1 b2 b3 b4 hf
  go_enter Tryz.func94, Tryz.ntmps94
  go_wp2
  refine wp_loop_rounds 1 ?_
  rw [rounds_succ]
  go_wp2
  go_ret
  exact ⟨rfl, _, B4.out, rfl⟩
end Go.Proofs.YtpbpidfjecejcaaGreatDoor
