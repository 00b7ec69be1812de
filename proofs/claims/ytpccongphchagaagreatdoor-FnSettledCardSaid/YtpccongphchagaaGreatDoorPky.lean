import Derived.Test.YtpccongphchagaaGreatDoorPkx
import Derived.Test.YtpccongphchagaaGreatDoorPko
import Derived.Maps.OwnOps
import Derived.Deep.DeepCutAuto
namespace Go.Proofs.YtpccongphchagaaGreatDoor
open Go.RowKit
set_option linter.unusedVariables false
theorem step_call_3 (f : FuncId) (hf : ∀ (v u z : Value) (w : World), (callFunc f #[v, u, z]).run Tryz.prog w = .ok (.enter f #[v, u, z]) w) {ops : Array Oper} {o : Oper} {act : Act} {w : World} {K : Act → World → Prop} {Q : Exit → Act → World → Prop} {E : Prop} (x y t : Operand) (ts : Array TypeId) (hgd : o.guard = none)
    (ho : o.op = .call { callee := .value (.func f), args := #[x, y, t], argTypes := ts }) (v u z : Value) (hx : act.eval x = v) (hy : act.eval y = u) (ht : act.eval t = z) (h : Calls Tryz.prog f #[v, u, z] w fun e w' => ∃ r, e = .returned r ∧ K (act.put o.dst r) w') :
    if Region.wanted o (yielded ops act.tmps) = true then Oper.wp Tryz.prog o act w K Q else E := by
  have hw : Region.wanted o (yielded ops act.tmps) = true := by simp [Region.wanted, hgd]
  rw [if_pos hw]
  obtain ⟨dst, op, ty, pos, after, guard⟩ := o
  simp only at ho hgd
  subst ho
  unfold Oper.wp
  rw [execOp_call_go]
  simp only [List.map_toArray, List.map_cons, List.map_nil, hx, hy, ht, List.append_toArray, List.nil_append, List.append_nil, hf, Oper.upon_enter]
  refine h.mono ?_
  rintro e w' ⟨r, rfl, hk⟩
  exact hk
theorem run_enterRp (v u z : Value) (w : World) : (callFunc 32 #[v, u, z]).run Tryz.prog w = .ok (.enter 32 #[v, u, z]) w := by
  kernel_rfl
theorem replay_like {X W : World} {b1 b2 n : Nat} {es l : List EN} {kd : Int} {nm tt : ByteArray} {nd nodes : Int} (hs1 : nm.size ≤ 1048576) (hs2 : tt.size ≤ 1048576) (hn : n ≤ 1048570) (hw : (Lit.int .i64 nd).wf = true) (hL : LstAt X b1 b2 n es) (g : Apart es) (hr : repE nodes es (kd, nm, tt, nd) = some l) (e1 : W.heap = X.heap) (e2 : W.os = X.os) (e3 : W.tape = X.tape) (e4 : W.output = X.output) :
    Calls Tryz.prog 32 #[lstV b1 b2, .agg #[.int .i64 kd, .string nm, .string tt, .int .i64 nd], .int .i64 nodes] W fun e w' => e = .returned (.bool true) ∧ LstAt w' b1 b2 (n + 1) l ∧ Off b1 b2 X w' := by
  have hb := like_below e1 e2 e3 e4
  refine (replay_list b1 b2 n es kd nm tt nd nodes W hs1 hs2 hn hw (hL.below hb hL.lt.1 hL.lt.2) g).mono ?_
  rw [hr]
  rintro e w' ⟨rfl, h1, h2⟩
  exact ⟨rfl, h1, (Off.of_below hb).trans h2⟩
/-- A step is put at the end of a drive's Pend. -/
theorem drv_pend {base : Nat} {W w5 : World} {o b1 b2 m : Nat} {v1 v3 v4 v5 : Value} {vs : List (Value × Value)} {D : MDisk} {l : List EN} {P : List DO} (h : Drv base W o b1 b2 m v1 v3 v4 vs ⟨D.nodes, l, D.kept, D.pend, D.quota⟩) (h5 : OwnO w5 base v5 P) (hg : W.grownBy w5 v4.ownBlock) (hb : base ≤ W.heap.size) :
    Drv base (w5.setCell ⟨o, 4, none⟩ v5) o b1 b2 m v1 v3 v5 vs ⟨D.nodes, l, D.kept, P, D.quota⟩ ∧ KepI base W (w5.setCell ⟨o, 4, none⟩ v5) ∧ w5.cell? ⟨o, 4, none⟩ = some v4 ∧ w5.frozen? ⟨o, 4, none⟩ = false := by
  have f : Fr (fun g => v4.ownBlock = some g) W w5 := Fr.of_grown hg (fun k e => e)
  have hS : ∀ g, v4.ownBlock = some g → KindAt W g 68 := fun g hg => own_kind h.p hg
  have hnk : ∀ {g t : Nat}, KindAt W g t → t ≠ 68 → ¬ v4.ownBlock = some g := fun hk ht e => ht (hk.ne (hS _ e))
  have bx : Laid w5 o #[v1, .map (some b1), .map (some b2), v3, v4, .int .i64 D.quota] 99 := (f.block _ h.box.lt (hnk h.box.kind (by decide))).trans h.box
  have n5 : OwnNA w5 base v1 vs D.nodes := h.n.fr f (fun g hg' e => by
    rcases h.n.kinds hg' with k | k
    · exact hnk k (by decide) e
    · exact hnk k (by decide) e)
  have k5 : OwnE w5 base v3 D.kept := own_frk h.k f (fun g e => ⟨_, hS g e, by decide⟩)
  have fs : Fr (fun g => g = o) w5 (w5.setCell ⟨o, 4, none⟩ v5) := (Fr.refl _ _).set rfl
  have hmap : ∀ b, b = b1 ∨ b = b2 → w5.heap[b]? = W.heap[b]? ∧ b ≠ o := by
    obtain ⟨D1, D2, hLL, _⟩ := h.l
    have hk : ∀ b t, b = b1 ∨ b = b2 → ¬ KindAt W b t := by
      rintro b t (rfl | rfl) ⟨cs, fr, hk⟩
      · obtain ⟨_, _, hmm, _⟩ := hLL.o1
        rw [hmm] at hk; cases hk
      · obtain ⟨_, _, hmm, _⟩ := hLL.o2
        rw [hmm] at hk; cases hk
    intro b hb
    have hlt : b < W.heap.size := by rcases hb with rfl | rfl; exact hLL.o1.lt; exact hLL.o2.lt
    exact ⟨f.block b hlt (fun e => hk b _ hb (hS b e)), fun e => hk b _ hb (by rw [e]; exact h.box.kind)⟩
  have l5 : LstAt (w5.setCell ⟨o, 4, none⟩ v5) b1 b2 m l := by
    obtain ⟨D1, D2, hLL, hRR⟩ := h.l
    have hx : ∀ b, b = b1 ∨ b = b2 → (w5.setCell ⟨o, 4, none⟩ v5).heap[b]? = W.heap[b]? := fun b hb => (heap_setCell_other w5 ⟨o, 4, none⟩ b v5 (hmap b hb).2).trans (hmap b hb).1
    obtain ⟨es1, ck1, k1, k2⟩ := hLL.o1
    obtain ⟨es2, ck2, j1, j2⟩ := hLL.o2
    exact ⟨D1, D2, ⟨⟨es1, ck1, (hx b1 (.inl rfl)).trans k1, k2⟩, ⟨es2, ck2, (hx b2 (.inr rfl)).trans j1, j2⟩, hLL.ne⟩, hRR⟩
  have hkd : ∀ g, g = o → KindAt w5 g 99 := fun g e => by subst e; exact bx.kind
  have K1 : KepI base W w5 := KepI.fr f (fun g e => ⟨(own_ge h.p e).1, fun t ht => .inr (.inr (.inl (ht.ne (hS g e))))⟩) hb
  have K2 : KepI base w5 (w5.setCell ⟨o, 4, none⟩ v5) := KepI.fr fs (fun g e => ⟨by subst e; exact h.lo, fun t ht => .inr (.inr (.inr (ht.ne (hkd g e))))⟩) (Nat.le_trans hb f.size)
  exact ⟨⟨bx.set 4 v5, n5.box bx (by decide) (by decide) 4 v5, l5, own_frk k5 fs (fun g e => ⟨_, hkd g e, by decide⟩), own_frk h5 fs (fun g e => ⟨_, hkd g e, by decide⟩), h.lb, h.lo⟩, K1.trans K2, bx.cell 4, frozen_of_row w5 o 4 _ _ bx⟩
theorem chg_like {base : Nat} {wc X Y : World} {o b1 b2 m g : Nat} {v1 v3 v4 : Value} {vs : List (Value × Value)} {C : MDisk} {kd : Int} {nm tt : ByteArray} {nd : Int} (h : Drv base X o b1 b2 m v1 v3 v4 vs C) (LN : Laid X g #[.int .i64 kd, .string nm, .string tt, .int .i64 nd] 68) (hal : Below wc.heap.size wc X) (hbc : base ≤ wc.heap.size) (hl : Below X.heap.size X Y) :
    Drv base Y o b1 b2 m v1 v3 v4 vs C ∧ Y.cell? ⟨g, 0, none⟩ = some (.int .i64 kd) ∧ Y.cell? ⟨g, 1, none⟩ = some (.string nm) ∧ Y.cell? ⟨g, 2, none⟩ = some (.string tt) ∧ Y.cell? ⟨g, 3, none⟩ = some (.int .i64 nd) ∧ base ≤ Y.heap.size ∧ KepI base wc Y := by
  have L := LN.below hl LN.lt
  have hb := hal.trans (hl.mono hal.size)
  exact ⟨h.below hl, L.cell 0, L.cell 1, L.cell 2, L.cell 3, Nat.le_trans hbc hb.size, KepI.of_below hb hbc⟩
theorem chg_fin {base : Nat} {wc Y w5 : World} {o b1 b2 m g : Nat} {v1 v3 v4 v5 : Value} {vs : List (Value × Value)} {D : MDisk} {l : List EN} {kd : Int} {nm tt : ByteArray} {nd : Int} {P : List DO} (h : Drv base Y o b1 b2 m v1 v3 v4 vs ⟨D.nodes, l, D.kept, D.pend, D.quota⟩ ∧ Y.cell? ⟨g, 0, none⟩ = some (.int .i64 kd) ∧ Y.cell? ⟨g, 1, none⟩ = some (.string nm) ∧ Y.cell? ⟨g, 2, none⟩ = some (.string tt) ∧ Y.cell? ⟨g, 3, none⟩ = some (.int .i64 nd) ∧ base ≤ Y.heap.size ∧ KepI base wc Y) (h5 : OwnO w5 base v5 P) (hg : Y.grownBy w5 v4.ownBlock) :
    Drv base (w5.setCell ⟨o, 4, none⟩ v5) o b1 b2 m v1 v3 v5 vs ⟨D.nodes, l, D.kept, P, D.quota⟩ ∧ KepI base wc (w5.setCell ⟨o, 4, none⟩ v5) ∧ w5.cell? ⟨o, 4, none⟩ = some v4 ∧ w5.frozen? ⟨o, 4, none⟩ = false := by
  obtain ⟨h1, h2, h3, h4⟩ := drv_pend h.1 h5 hg h.2.2.2.2.2.1
  exact ⟨h1, h.2.2.2.2.2.2.trans h2, h3, h4⟩
set_option maxRecDepth 20000 in
set_option maxHeartbeats 1000000 in
theorem change_any (base o b1 b2 m : Nat) (v1 v3 v4 : Value) (vs : List (Value × Value)) (D : MDisk) (kd : Int) (nm tt : ByteArray) (nd : Int) (l : List EN) (w : World) (hbase : base ≤ w.heap.size) (hm : m ≤ 1048570) (hp : D.pend.length ≤ 1048575) (hs1 : nm.size ≤ 1048576) (hs2 : tt.size ≤ 1048576) (hw : (Lit.int .i64 nd).wf = true) (hap : Apart D.names) (hr : repE (D.nodes.length : Int) D.names (kd, nm, tt, nd) = some l) (hd : Drv base w o b1 b2 m v1 v3 v4 vs D) :
    Calls Tryz.prog 85 #[.pointer (some ⟨o, 0, none⟩), .agg #[.int .i64 kd, .string nm, .string tt, .int .i64 nd]] w fun e w' => ∃ v4', e = .returned (.tuple #[]) ∧ Drv base w' o b1 b2 (m + 1) v1 v3 v4' vs (dirD D (kd, nm, tt, nd)) ∧ KepI base w w' := by
  have hA := (Below.refl w.heap.size w).alloc (Nat.le_refl _) (.cells #[.int .i64 kd, .string nm, .string tt, .int .i64 nd] 68)
  have L0 := Laid.new w #[.int .i64 kd, .string nm, .string tt, .int .i64 nd] 68
  have hd0 := hd.below hA
  have HOW := hide hd.box.lt
  obtain ⟨a1, c1, rfl⟩ := hd.n.slice
  obtain ⟨a4, c4, rfl⟩ := hd.p.slice
  obtain ⟨a3, c3, rfl⟩ := hd.k.slice
  have HA := hide hA
  have HR := hide hr
  clear hA hd hr
  go_enter Tryz.func85, Tryz.ntmps85
  go_upto_region 1 with fail
  generalize w.alloc (.cells #[.int .i64 kd, .string nm, .string tt, .int .i64 nd] 68) = W at L0 hd0 HA ⊢
  have q0 : W.cell? ⟨o, 0, none⟩ = some (.slice a1 D.nodes.length c1) := hd0.box.cell 0
  have q1 : W.cell? ⟨o, 1, none⟩ = some (.map (some b1)) := hd0.box.cell 1
  have q2 : W.cell? ⟨o, 2, none⟩ = some (.map (some b2)) := hd0.box.cell 2
  have o0 : W.cell? ⟨w.heap.size, 0, none⟩ = some (.int .i64 kd) := L0.cell 0
  have o1 : W.cell? ⟨w.heap.size, 1, none⟩ = some (.string nm) := L0.cell 1
  have o2 : W.cell? ⟨w.heap.size, 2, none⟩ = some (.string tt) := L0.cell 2
  have o3 : W.cell? ⟨w.heap.size, 3, none⟩ = some (.int .i64 nd) := L0.cell 3
  have RP := hide (fun W' (e1 : W'.heap = W.heap) (e2 : W'.os = W.os) (e3 : W'.tape = W.tape) (e4 : W'.output = W.output) => replay_like (W := W') hs1 hs2 hm hw hd0.l hap HR.out e1 e2 e3 e4)
  have HD := hide hd0
  have HL := hide L0
  clear hd0 L0
  go_cut [] (fun wx => LstAt wx b1 b2 (m + 1) l ∧ Off b1 b2 W wx)
  case first =>
    go_region_law (first
      | (refine step_call_3 32 run_enterRp (.tmp 7) (.tmp 8) (.tmp 13) #[77, 68, 3] (by rfl) (by rfl) (lstV b1 b2) (.agg #[.int .i64 kd, .string nm, .string tt, .int .i64 nd]) (.int .i64 (D.nodes.length : Int)) (by simp [go_sem, lstV]) (by simp [go_sem]) (by simp [go_sem]) ?_; refine (RP.out _ (by rfl) (by rfl) (by rfl) (by rfl)).mono ?_; rintro e w2 ⟨rfl, hl2, ho2⟩; have HL2 := hide hl2; have HO2 := hide ho2; clear hl2 ho2; refine ⟨_, rfl, ?_⟩)
      | fail)
    all_goals
      go_wp2_with fail
      go_meet
      case rel => exact ⟨HL2.out, HO2.out⟩
  case rest =>
    obtain ⟨hl2, ho2⟩ := hcut
    obtain ⟨hd2, hf2⟩ := HD.out.names hl2 ho2
    have hno : ∀ g t, KindAt W g t → ¬ (g = b1 ∨ g = b2) := by
      obtain ⟨D1, D2, hLL, _⟩ := HD.out.l
      rintro g t ⟨cs, fr, hk⟩ (rfl | rfl)
      · obtain ⟨_, _, hmm, _⟩ := hLL.o1
        rw [hmm] at hk; cases hk
      · obtain ⟨_, _, hmm, _⟩ := hLL.o2
        rw [hmm] at hk; cases hk
    have L2 : Laid wc w.heap.size #[.int .i64 kd, .string nm, .string tt, .int .i64 nd] 68 := (hf2.block _ HL.out.lt (hno _ _ HL.out.kind)).trans HL.out
    have hbW : base ≤ W.heap.size := Nat.le_trans hbase HA.out.size
    have HK2 := hide ((KepI.of_below HA.out hbase).trans (KepI.fr hf2 (fun g hg => ⟨by rcases hg with rfl | rfl; exact HD.out.lb.1; exact HD.out.lb.2, fun t ht => absurd hg (hno g t ht)⟩) hbW))
    have hbc : base ≤ wc.heap.size := Nat.le_trans hbW hf2.size
    have hal := (Below.refl wc.heap.size wc).alloc (Nat.le_refl _) (.cells #[.int .i64 kd, .string nm, .string tt, .int .i64 nd] 68)
    have d3 := hd2.below hal
    have L3 := L2.below hal L2.lt
    have LN := Laid.new wc #[.int .i64 kd, .string nm, .string tt, .int .i64 nd] 68
    have e4 : wc.cell? ⟨o, 4, none⟩ = some (.slice a4 D.pend.length c4) := hd2.box.cell 4
    have e4a : (wc.alloc (.cells #[.int .i64 kd, .string nm, .string tt, .int .i64 nd] 68)).cell? ⟨o, 4, none⟩ = some (.slice a4 D.pend.length c4) := d3.box.cell 4
    have p0 : wc.cell? ⟨w.heap.size, 0, none⟩ = some (.int .i64 kd) := L2.cell 0
    have n0 : (wc.alloc (.cells #[.int .i64 kd, .string nm, .string tt, .int .i64 nd] 68)).cell? ⟨wc.heap.size, 0, none⟩ = some (.int .i64 kd) := LN.cell 0
    have p1 : wc.cell? ⟨w.heap.size, 1, none⟩ = some (.string nm) := L2.cell 1
    have n1 : (wc.alloc (.cells #[.int .i64 kd, .string nm, .string tt, .int .i64 nd] 68)).cell? ⟨wc.heap.size, 1, none⟩ = some (.string nm) := LN.cell 1
    have p2 : wc.cell? ⟨w.heap.size, 2, none⟩ = some (.string tt) := L2.cell 2
    have n2 : (wc.alloc (.cells #[.int .i64 kd, .string nm, .string tt, .int .i64 nd] 68)).cell? ⟨wc.heap.size, 2, none⟩ = some (.string tt) := LN.cell 2
    have p3 : wc.cell? ⟨w.heap.size, 3, none⟩ = some (.int .i64 nd) := L2.cell 3
    have n3 : (wc.alloc (.cells #[.int .i64 kd, .string nm, .string tt, .int .i64 nd] 68)).cell? ⟨wc.heap.size, 3, none⟩ = some (.int .i64 nd) := LN.cell 3
    have LK := hide (fun (Y : World) (e1 : Y.heap = (wc.alloc (.cells #[.int .i64 kd, .string nm, .string tt, .int .i64 nd] 68)).heap) (e2 : Y.os = (wc.alloc (.cells #[.int .i64 kd, .string nm, .string tt, .int .i64 nd] 68)).os) (e3 : Y.tape = (wc.alloc (.cells #[.int .i64 kd, .string nm, .string tt, .int .i64 nd] 68)).tape) (e4 : Y.output = (wc.alloc (.cells #[.int .i64 kd, .string nm, .string tt, .int .i64 nd] 68)).output) => chg_like d3 LN hal hbc (like_below e1 e2 e3 e4))
    clear hl2 ho2 hd2 hf2 hno L2 hal L3 LN RP q0 q1 q2 o0 o1 o2 o3
    go_upto_region 2 with fail
    go_region_law (first
      | (refine step_append_dir _ (by rfl) (.tmp 19) (.tmp 21) (by rfl) base (.slice a4 D.pend.length c4) D.pend (kd, nm, tt, nd) wc.heap.size 1 (by simp [go_sem]) (by simp [go_sem]) (LK.out _ (by rfl) (by rfl) (by rfl) (by rfl)).1.p (LK.out _ (by rfl) (by rfl) (by rfl) (by rfl)).2.1 (LK.out _ (by rfl) (by rfl) (by rfl) (by rfl)).2.2.1 (LK.out _ (by rfl) (by rfl) (by rfl) (by rfl)).2.2.2.1 (LK.out _ (by rfl) (by rfl) (by rfl) (by rfl)).2.2.2.2.1 hp (LK.out _ (by rfl) (by rfl) (by rfl) (by rfl)).2.2.2.2.2.1 ?_; intro v5 w5 h5 hg5; obtain ⟨a5, c5, rfl⟩ := h5.slice; have hfn := chg_fin (LK.out _ (by rfl) (by rfl) (by rfl) (by rfl)) h5 hg5; have r4 := hfn.2.2.1; have f4 := hfn.2.2.2; rw [show (D.pend ++ [(kd, nm, tt, nd)]).length = D.pend.length + 1 from by simp] at hfn ⊢; have HFN := hide hfn; clear hfn h5 hg5)
      | fail)
    all_goals
      go_wp2
      go_end0
      have e : dirD D (kd, nm, tt, nd) = ⟨D.nodes, l, D.kept, D.pend ++ [(kd, nm, tt, nd)], D.quota⟩ := by unfold dirD; rw [HR.out]; rfl
      exact ⟨_, rfl, by rw [e]; exact HFN.out.1, HK2.out.trans HFN.out.2.1⟩
end Go.Proofs.YtpccongphchagaaGreatDoor
namespace Go.Proofs.YtpccongphchagaaGreatDoor
open Go.RowKit
set_option linter.unusedVariables false
/-- The error that stands for a code. -/
def errV (c : Int) : Value := if c = 0 then .nilIface else .iface 106 (.int .i64 (c - 1))
/-- What a method of a drive leaves. -/
def DrPost (base o b1 b2 m : Nat) (v1 v3 : Value) (vs : List (Value × Value)) (w : World) (R : MDisk × Int) (e : Ending) (w' : World) : Prop := ∃ m' v4, e = .returned (errV R.2) ∧ Drv base w' o b1 b2 m' v1 v3 v4 vs R.1 ∧ KepI base w w' ∧ m' ≤ m + 1
theorem dr_same {base o b1 b2 m : Nat} {v1 v3 v4 : Value} {vs : List (Value × Value)} {w w' : World} {D : MDisk} {R : MDisk × Int} {c : Int} {v : Value} (hR : R = (D, c)) (hv : v = errV c) (hd : Drv base w o b1 b2 m v1 v3 v4 vs D) (hb : Below w.heap.size w w') (hbase : base ≤ w.heap.size) : DrPost base o b1 b2 m v1 v3 vs w R (.returned v) w' := by
  subst hR
  subst hv
  exact ⟨m, v4, rfl, hd.below hb, KepI.of_below hb hbase, by omega⟩
def renR (D : MDisk) (nm tt : ByteArray) : MDisk × Int := if tt = nm then (D, 0) else if 1000 ≤ D.pend.length then (D, 6) else (dirD D (4, nm, tt, 0), 0)
def remR (D : MDisk) (nm : ByteArray) : MDisk × Int := if 1000 ≤ D.pend.length then (D, 6) else (dirD D (5, nm, noStr, 0), 0)
set_option maxRecDepth 20000 in
theorem rename_any (base o b1 b2 m : Nat) (v1 v3 v4 : Value) (vs : List (Value × Value)) (D : MDisk) (nm tt : ByteArray) (n : Int) (w : World) (hbase : base ≤ w.heap.size) (hW : Wkd D) (hm : m ≤ 1048570) (hs1 : nm.size ≤ 1048576) (hs2 : tt.size ≤ 1048576) (hot : okName tt = true) (hin : nodeIn D.names nm = some n) (hd : Drv base w o b1 b2 m v1 v3 v4 vs D) :
    Calls Tryz.prog 74 #[.pointer (some ⟨o, 0, none⟩), .string nm, .string tt] w (DrPost base o b1 b2 m v1 v3 vs w (renR D nm tt)) := by
  obtain ⟨a4, c4, rfl⟩ := hd.p.slice
  have q4 : w.cell? ⟨o, 4, none⟩ = some (.slice a4 D.pend.length c4) := hd.box.cell 4
  have HD := hide hd
  have HIN := hide hin
  have HOT := hide hot
  have HW := hide hW
  have hnp := hW.np
  clear hd hin hot hW
  by_cases hse : tt = nm
  · have HR := hide (show renR D nm tt = (D, 0) from by unfold renR; rw [if_pos hse])
    have hbe := beq_of_eq hse
    clear hse
    go_enter Tryz.func74, Tryz.ntmps74
    go_wp2
    go_ret
    exact dr_same HR.out rfl HD.out (Below.refl _ _) hbase
  have hbe := beq_of_ne hse
  have HSE := hide hse
  clear hse
  by_cases hp : 1000 ≤ D.pend.length
  · have HR := hide (show renR D nm tt = (D, 6) from by unfold renR; rw [if_neg HSE.out, if_pos hp])
    go_enter Tryz.func74, Tryz.ntmps74
    go_wp2
    go_ret
    exact dr_same HR.out rfl HD.out (Below.refl _ _) hbase
  have HR := hide (show renR D nm tt = (dirD D (4, nm, tt, 0), 0) from by unfold renR; rw [if_neg HSE.out, if_neg hp])
  have CH := hide (change_any base o b1 b2 m v1 v3 _ vs D 4 nm tt 0 _ w hbase hm (by omega) hs1 hs2 (by decide) HW.out.fine.ap (rep_rename HIN.out HOT.out HSE.out) HD.out)
  go_enter Tryz.func74, Tryz.ntmps74
  go_wp2_with fail
  refine CH.out.mono ?_
  rintro e w2 ⟨v4', rfl, hd2, hk2⟩
  have HD2 := hide hd2
  have HK2 := hide hk2
  clear hd2 hk2 CH q4
  go_wp2
  go_ret
  rw [HR.out]
  exact ⟨m + 1, v4', rfl, HD2.out, HK2.out, Nat.le_refl _⟩
set_option maxRecDepth 20000 in
theorem remove_any (base o b1 b2 m : Nat) (v1 v3 v4 : Value) (vs : List (Value × Value)) (D : MDisk) (nm : ByteArray) (n : Int) (w : World) (hbase : base ≤ w.heap.size) (hW : Wkd D) (hm : m ≤ 1048570) (hs1 : nm.size ≤ 1048576) (hin : nodeIn D.names nm = some n) (hd : Drv base w o b1 b2 m v1 v3 v4 vs D) :
    Calls Tryz.prog 75 #[.pointer (some ⟨o, 0, none⟩), .string nm] w (DrPost base o b1 b2 m v1 v3 vs w (remR D nm)) := by
  obtain ⟨a4, c4, rfl⟩ := hd.p.slice
  have q4 : w.cell? ⟨o, 4, none⟩ = some (.slice a4 D.pend.length c4) := hd.box.cell 4
  have HD := hide hd
  have HIN := hide hin
  have HW := hide hW
  have hnp := hW.np
  clear hd hin hW
  by_cases hp : 1000 ≤ D.pend.length
  · have HR := hide (show remR D nm = (D, 6) from by unfold remR; rw [if_pos hp])
    go_enter Tryz.func75, Tryz.ntmps75
    go_wp2
    go_ret
    exact dr_same HR.out rfl HD.out (Below.refl _ _) hbase
  have HR := hide (show remR D nm = (dirD D (5, nm, noStr, 0), 0) from by unfold remR; rw [if_neg hp])
  have CH := hide (change_any base o b1 b2 m v1 v3 _ vs D 5 nm noStr 0 _ w hbase hm (by omega) hs1 (by simp [noStr, ByteArray.size]) (by decide) HW.out.fine.ap (rep_remove HIN.out) HD.out)
  unfold noStr at CH
  go_enter Tryz.func75, Tryz.ntmps75
  go_wp2_with fail
  refine CH.out.mono ?_
  rintro e w2 ⟨v4', rfl, hd2, hk2⟩
  have HD2 := hide hd2
  have HK2 := hide hk2
  clear hd2 hk2 CH q4
  go_wp2
  go_ret
  rw [HR.out]
  exact ⟨m + 1, v4', rfl, HD2.out, HK2.out, Nat.le_refl _⟩
end Go.Proofs.YtpccongphchagaaGreatDoor
namespace Go.Proofs.YtpccongphchagaaGreatDoor
open Go.RowKit
set_option linter.unusedVariables false
/-- What an operation of a drive leaves: its maps and rows may be others. -/
def DrAny (base o m : Nat) (w : World) (R : MDisk × Int) (e : Ending) (w' : World) : Prop := ∃ b1 b2 m' v1 v3 v4 vs, e = .returned (errV R.2) ∧ Drv base w' o b1 b2 m' v1 v3 v4 vs R.1 ∧ KepI base w w' ∧ m' ≤ m + 1
theorem DrPost.some {base o b1 b2 m : Nat} {v1 v3 : Value} {vs : List (Value × Value)} {w : World} {R : MDisk × Int} {e : Ending} {w' : World} (h : DrPost base o b1 b2 m v1 v3 vs w R e w') : DrAny base o m w R e w' := by
  obtain ⟨m', v4, h1, h2, h3, h4⟩ := h
  exact ⟨b1, b2, m', v1, v3, v4, vs, h1, h2, h3, h4⟩
/-- append of a node that holds nothing. -/
theorem wpList_append_node0 {ops : Array Oper} {rest : List Oper} {o : Oper} {act : Act} {Q : Exit → Act → World → Prop} (w : World) (hgd : o.guard = none) (s x : Operand)
    (ho : o.op = .call { callee := .builtin .append, args := #[s, x], argTypes := #[23, 23] })
    (lo : Nat) (v : Value) (vs : List (Value × Value)) (ns : List NdM) (g1 c : Nat) (hs : act.eval s = v) (hx : act.eval x = .slice (some ⟨g1, 0, none⟩) 1 c) (hown : OwnNA w lo v vs ns) (h0 : w.cell? ⟨g1, 0, none⟩ = some (.slice none 0 0)) (h1 : w.cell? ⟨g1, 1, none⟩ = some (.int .i64 0))
    (hlen : ns.length ≤ 1048576) (hbase : lo ≤ w.heap.size)
    (h : ∀ v' w', OwnNA w' lo v' (vs ++ [(.slice none 0 0, .int .i64 0)]) (ns ++ [([], 0)]) → w.grownBy w' v.ownBlock → wpList Tryz.prog ops Q rest (act.put o.dst v') w') : wpList Tryz.prog ops Q (o :: rest) act w := by
  obtain ⟨i0, hi, hz0, hz1, hz2⟩ := info_parts Tryz.infoNode
  have hl := hown.len
  refine wpList_append_own w hgd s x 23 ho lo 49 i0 (.agg #[.slice none 0 0, .int .i64 0]) 2 32 Tryz.underlying23 hi hz0 hz1 hz2 rfl (by decide) v vs.length (two vs) hs hown.row ⟨g1, 0, none⟩ 1 c [.slice none 0 0, .int .i64 0] hx (by simp) ?_ ?_ (by unfold maxLen; omega) (by omega) hbase ?_
  · intro j y hj
    rw [addr_add]
    match j with
    | 0 => simp only [List.getElem?_cons_zero, Option.some.injEq] at hj; rw [← hj]; exact h0
    | 1 => simp only [List.getElem?_cons_succ, List.getElem?_cons_zero, Option.some.injEq] at hj; rw [← hj]; exact h1
    | j + 2 => simp at hj
  · intro y hy
    simp only [List.mem_cons, List.not_mem_nil, or_false] at hy
    rcases hy with rfl | rfl <;> rfl
  · intro v' w' hown' hg _
    refine h v' w' (hown.push (OwnB.nil _ _) (fun y _ => ?_) hown' hg) hg
    cases hy : y.ownBlock with
    | none => exact .inl hy
    | some g => exact .inr (by rw [hy]; simp [Value.ownBlock])
/-- The nodes of a drive come anew. -/
theorem drv_nodes {base : Nat} {W w5 : World} {o b1 b2 m : Nat} {v1 v3 v4 v5 : Value} {vs vs' : List (Value × Value)} {D : MDisk} {N : List NdM} (h : Drv base W o b1 b2 m v1 v3 v4 vs D) (h5 : OwnNA w5 base v5 vs' N) (hg : W.grownBy w5 v1.ownBlock) (hb : base ≤ W.heap.size) :
    Drv base (w5.setCell ⟨o, 0, none⟩ v5) o b1 b2 m v5 v3 v4 vs' ⟨N, D.names, D.kept, D.pend, D.quota⟩ ∧ KepI base W (w5.setCell ⟨o, 0, none⟩ v5) ∧ w5.cell? ⟨o, 0, none⟩ = some v1 ∧ w5.frozen? ⟨o, 0, none⟩ = false := by
  have f : Fr (fun g => v1.ownBlock = some g) W w5 := Fr.of_grown hg (fun k e => e)
  have hS : ∀ g, v1.ownBlock = some g → KindAt W g 49 := fun g hg => own_kind h.n.row hg
  have hnk : ∀ {g t : Nat}, KindAt W g t → t ≠ 49 → ¬ v1.ownBlock = some g := fun hk ht e => ht (hk.ne (hS _ e))
  have bx : Laid w5 o #[v1, .map (some b1), .map (some b2), v3, v4, .int .i64 D.quota] 99 := (f.block _ h.box.lt (hnk h.box.kind (by decide))).trans h.box
  have k5 : OwnE w5 base v3 D.kept := own_frk h.k f (fun g e => ⟨_, hS g e, by decide⟩)
  have p5 : OwnO w5 base v4 D.pend := own_frk h.p f (fun g e => ⟨_, hS g e, by decide⟩)
  have fs : Fr (fun g => g = o) w5 (w5.setCell ⟨o, 0, none⟩ v5) := (Fr.refl _ _).set rfl
  have hmap : ∀ b, b = b1 ∨ b = b2 → w5.heap[b]? = W.heap[b]? ∧ b ≠ o := by
    obtain ⟨D1, D2, hLL, _⟩ := h.l
    have hk : ∀ b t, b = b1 ∨ b = b2 → ¬ KindAt W b t := by
      rintro b t (rfl | rfl) ⟨cs, fr, hk⟩
      · obtain ⟨_, _, hmm, _⟩ := hLL.o1
        rw [hmm] at hk; cases hk
      · obtain ⟨_, _, hmm, _⟩ := hLL.o2
        rw [hmm] at hk; cases hk
    intro b hb
    have hlt : b < W.heap.size := by rcases hb with rfl | rfl; exact hLL.o1.lt; exact hLL.o2.lt
    exact ⟨f.block b hlt (fun e => hk b _ hb (hS b e)), fun e => hk b _ hb (by rw [e]; exact h.box.kind)⟩
  have l5 : LstAt (w5.setCell ⟨o, 0, none⟩ v5) b1 b2 m D.names := by
    obtain ⟨D1, D2, hLL, hRR⟩ := h.l
    have hx : ∀ b, b = b1 ∨ b = b2 → (w5.setCell ⟨o, 0, none⟩ v5).heap[b]? = W.heap[b]? := fun b hb => (heap_setCell_other w5 ⟨o, 0, none⟩ b v5 (hmap b hb).2).trans (hmap b hb).1
    obtain ⟨es1, ck1, k1, k2⟩ := hLL.o1
    obtain ⟨es2, ck2, j1, j2⟩ := hLL.o2
    exact ⟨D1, D2, ⟨⟨es1, ck1, (hx b1 (.inl rfl)).trans k1, k2⟩, ⟨es2, ck2, (hx b2 (.inr rfl)).trans j1, j2⟩, hLL.ne⟩, hRR⟩
  have hkd : ∀ g, g = o → KindAt w5 g 99 := fun g e => by subst e; exact bx.kind
  have K1 : KepI base W w5 := KepI.fr f (fun g e => ⟨(own_ge h.n.row e).1, fun t ht => .inl (ht.ne (hS g e))⟩) hb
  have K2 : KepI base w5 (w5.setCell ⟨o, 0, none⟩ v5) := KepI.fr fs (fun g e => ⟨by subst e; exact h.lo, fun t ht => .inr (.inr (.inr (ht.ne (hkd g e))))⟩) (Nat.le_trans hb f.size)
  exact ⟨⟨bx.set 0 v5, h5.box bx (by decide) (by decide) 0 v5, l5, own_frk k5 fs (fun g e => ⟨_, hkd g e, by decide⟩), own_frk p5 fs (fun g e => ⟨_, hkd g e, by decide⟩), h.lb, h.lo⟩, K1.trans K2, bx.cell 0, frozen_of_row w5 o 0 _ _ bx⟩
def newR (D : MDisk) (nm : ByteArray) : MDisk × Int := if 600 ≤ D.nodes.length ∨ 1000 ≤ D.pend.length ∨ (nodeIn D.names nm = none ∧ 300 ≤ D.names.length) then (D, 6) else (dirD (newD D) (1, nm, noStr, (D.nodes.length : Int)), 0)
end Go.Proofs.YtpccongphchagaaGreatDoor
namespace Go.Proofs.YtpccongphchagaaGreatDoor
open Go.RowKit
set_option linter.unusedVariables false
set_option maxRecDepth 20000 in
set_option maxHeartbeats 2000000 in
theorem create_any (base o b1 b2 m : Nat) (v1 v3 v4 : Value) (vs : List (Value × Value)) (D : MDisk) (nm : ByteArray) (w : World) (hbase : base ≤ w.heap.size) (hW : Wkd D) (hm : m ≤ 1048570) (hs1 : nm.size ≤ 1048576) (hok : okName nm = true) (hd : Drv base w o b1 b2 m v1 v3 v4 vs D) :
    Calls Tryz.prog 70 #[.pointer (some ⟨o, 0, none⟩), .string nm] w (DrAny base o m w (newR D nm)) := by
  obtain ⟨a1, c1, rfl⟩ := hd.n.slice
  obtain ⟨a4, c4, rfl⟩ := hd.p.slice
  have q0 : w.cell? ⟨o, 0, none⟩ = some (.slice a1 D.nodes.length c1) := hd.box.cell 0
  have q1 : w.cell? ⟨o, 1, none⟩ = some (.map (some b1)) := hd.box.cell 1
  have q2 : w.cell? ⟨o, 2, none⟩ = some (.map (some b2)) := hd.box.cell 2
  have q4 : w.cell? ⟨o, 4, none⟩ = some (.slice a4 D.pend.length c4) := hd.box.cell 4
  have HD := hide hd
  have HW := hide hW
  have HRP := hide (rep_create (N := D.nodes.length) hok hW.fine.nd)
  have hnp := hW.np
  have hnn := hW.nn
  have hln := hW.fine.ln
  have HWF := hide (show (Lit.int .i64 (D.nodes.length : Int)).wf = true from by simp [Lit.wf, IntKind.min, IntKind.max, IntKind.signed, IntKind.bits]; omega)
  have HAS := hide (has_list b1 b2 m D.names nm w hs1 hd.l)
  clear hd hW hok
  by_cases F1 : 600 ≤ D.nodes.length
  · have HR := hide (show newR D nm = (D, 6) from by unfold newR; rw [if_pos (.inl F1)])
    go_enter Tryz.func70, Tryz.ntmps70
    go_wp2
    go_ret
    exact (dr_same HR.out rfl HD.out (Below.refl _ _) hbase).some
  by_cases F2 : 1000 ≤ D.pend.length
  · have HR := hide (show newR D nm = (D, 6) from by unfold newR; rw [if_pos (.inr (.inl F2))])
    go_enter Tryz.func70, Tryz.ntmps70
    go_wp2
    go_ret
    exact (dr_same HR.out rfl HD.out (Below.refl _ _) hbase).some
  have hnb : D.nodes.length ≤ 1048576 := by omega
  go_enter Tryz.func70, Tryz.ntmps70
  go_wp2_with fail
  refine HAS.out.mono ?_
  rintro e w1 ⟨⟨r, rfl, hr⟩, hb1⟩
  have d1 := HD.out.below hb1
  have hlen := lst_len d1.l
  have p0 : w1.cell? ⟨o, 0, none⟩ = some (.slice a1 D.nodes.length c1) := d1.box.cell 0
  have p1 : w1.cell? ⟨o, 1, none⟩ = some (.map (some b1)) := d1.box.cell 1
  have p2 : w1.cell? ⟨o, 2, none⟩ = some (.map (some b2)) := d1.box.cell 2
  have HD1 := hide d1
  have HB1 := hide hb1
  have HH := hide hr
  clear d1 hb1 hr HAS q0 q1 q2 q4
  cases r with
  | true =>
      have HR := hide (show newR D nm = (dirD (newD D) (1, nm, noStr, (D.nodes.length : Int)), 0) from by
        unfold newR
        rw [if_neg]
        rintro (h | h | ⟨h, _⟩)
        · exact F1 h
        · exact F2 h
        · obtain ⟨x, hx⟩ := HH.out.1 rfl
          exact nodeIn_no h x hx)
      have hal := (Below.refl w1.heap.size w1).alloc (Nat.le_refl _) (.cells #[.slice none 0 0, .int .i64 0] 49)
      have dX := HD1.out.below hal
      have LA := Laid.new w1 #[.slice none 0 0, .int .i64 0] 49
      have LA0 := hide (show (w1.alloc (.cells #[.slice none 0 0, .int .i64 0] 49)).cell? ⟨w1.heap.size, 0, none⟩ = some (.slice none 0 0) from LA.cell 0)
      have LA1 := hide (show (w1.alloc (.cells #[.slice none 0 0, .int .i64 0] 49)).cell? ⟨w1.heap.size, 1, none⟩ = some (.int .i64 0) from LA.cell 1)
      have HNA := hide dX.n
      have hbX : base ≤ (w1.alloc (.cells #[.slice none 0 0, .int .i64 0] 49)).heap.size := Nat.le_trans hbase (Nat.le_trans HB1.out.size hal.size)
      have HBX := hide hbX
      have HDX := hide dX
      have HKX := hide ((KepI.of_below HB1.out hbase).trans (KepI.of_below hal (Nat.le_trans hbase HB1.out.size)))
      clear hal dX LA hbX
      go_wp2_with (at_builtin; (refine wpList_append_node0 _ rfl (.tmp 41) (.tmp 43) rfl base (.slice a1 D.nodes.length c1) vs D.nodes w1.heap.size 1 rfl rfl ?_ ?_ ?_ hnb ?_ ?_; (exact HNA.out); (exact LA0.out); (exact LA1.out); (exact HBX.out); intro v5 w5 h5 hg5; obtain ⟨a5, c5, rfl⟩ := h5.slice; have hfn := drv_nodes HDX.out h5 hg5 HBX.out; rw [show (D.nodes ++ [(([] : List Nat), (0 : Int))]).length = D.nodes.length + 1 from by simp] at hfn; have r0 := hfn.2.2.1; have f0 := hfn.2.2.2; have HFN := hide hfn; clear hfn h5 hg5))
      have hb6 : base ≤ (w5.setCell ⟨o, 0, none⟩ (.slice a5 (D.nodes.length + 1) c5)).heap.size := Nat.le_trans HBX.out HFN.out.2.1.bel.size
      have CH := hide (change_any base o b1 b2 m _ v3 _ _ (newD D) 1 nm noStr (D.nodes.length : Int) _ (w5.setCell ⟨o, 0, none⟩ (.slice a5 (D.nodes.length + 1) c5)) hb6 hm (by simp only [newD]; omega) hs1 (by simp [noStr, ByteArray.size]) HWF.out HW.out.fine.ap (by simpa [newD] using HRP.out) HFN.out.1)
      unfold noStr at CH
      refine CH.out.mono ?_
      rintro e w7 ⟨v4', rfl, hd7, hk7⟩
      have HD7 := hide hd7
      have HK7 := hide ((HKX.out.trans HFN.out.2.1).trans hk7)
      clear hd7 hk7 CH r0 f0
      go_wp2
      go_ret
      rw [HR.out]
      exact ⟨b1, b2, m + 1, _, v3, v4', _, rfl, HD7.out, HK7.out, Nat.le_refl _⟩

  | false =>
    have hno : nodeIn D.names nm = none := by
      cases hn : nodeIn D.names nm with
      | none => rfl
      | some x => have := HH.out.2 ⟨x, nodeIn_of hn⟩; cases this
    have HNO := hide hno
    clear hno
    by_cases F3 : 300 ≤ D.names.length
    · have HR := hide (show newR D nm = (D, 6) from by unfold newR; rw [if_pos (.inr (.inr ⟨HNO.out, F3⟩))])
      go_wp2
      go_ret
      exact (dr_same HR.out rfl HD.out HB1.out hbase).some
    · have HR := hide (show newR D nm = (dirD (newD D) (1, nm, noStr, (D.nodes.length : Int)), 0) from by
        unfold newR
        rw [if_neg]
        rintro (h | h | ⟨_, h⟩)
        · exact F1 h
        · exact F2 h
        · exact F3 h)
      have hal := (Below.refl w1.heap.size w1).alloc (Nat.le_refl _) (.cells #[.slice none 0 0, .int .i64 0] 49)
      have dX := HD1.out.below hal
      have LA := Laid.new w1 #[.slice none 0 0, .int .i64 0] 49
      have LA0 := hide (show (w1.alloc (.cells #[.slice none 0 0, .int .i64 0] 49)).cell? ⟨w1.heap.size, 0, none⟩ = some (.slice none 0 0) from LA.cell 0)
      have LA1 := hide (show (w1.alloc (.cells #[.slice none 0 0, .int .i64 0] 49)).cell? ⟨w1.heap.size, 1, none⟩ = some (.int .i64 0) from LA.cell 1)
      have HNA := hide dX.n
      have hbX : base ≤ (w1.alloc (.cells #[.slice none 0 0, .int .i64 0] 49)).heap.size := Nat.le_trans hbase (Nat.le_trans HB1.out.size hal.size)
      have HBX := hide hbX
      have HDX := hide dX
      have HKX := hide ((KepI.of_below HB1.out hbase).trans (KepI.of_below hal (Nat.le_trans hbase HB1.out.size)))
      clear hal dX LA hbX
      go_wp2_with (at_builtin; (refine wpList_append_node0 _ rfl (.tmp 41) (.tmp 43) rfl base (.slice a1 D.nodes.length c1) vs D.nodes w1.heap.size 1 rfl rfl ?_ ?_ ?_ hnb ?_ ?_; (exact HNA.out); (exact LA0.out); (exact LA1.out); (exact HBX.out); intro v5 w5 h5 hg5; obtain ⟨a5, c5, rfl⟩ := h5.slice; have hfn := drv_nodes HDX.out h5 hg5 HBX.out; rw [show (D.nodes ++ [(([] : List Nat), (0 : Int))]).length = D.nodes.length + 1 from by simp] at hfn; have r0 := hfn.2.2.1; have f0 := hfn.2.2.2; have HFN := hide hfn; clear hfn h5 hg5))
      have hb6 : base ≤ (w5.setCell ⟨o, 0, none⟩ (.slice a5 (D.nodes.length + 1) c5)).heap.size := Nat.le_trans HBX.out HFN.out.2.1.bel.size
      have CH := hide (change_any base o b1 b2 m _ v3 _ _ (newD D) 1 nm noStr (D.nodes.length : Int) _ (w5.setCell ⟨o, 0, none⟩ (.slice a5 (D.nodes.length + 1) c5)) hb6 hm (by simp only [newD]; omega) hs1 (by simp [noStr, ByteArray.size]) HWF.out HW.out.fine.ap (by simpa [newD] using HRP.out) HFN.out.1)
      unfold noStr at CH
      refine CH.out.mono ?_
      rintro e w7 ⟨v4', rfl, hd7, hk7⟩
      have HD7 := hide hd7
      have HK7 := hide ((HKX.out.trans HFN.out.2.1).trans hk7)
      clear hd7 hk7 CH r0 f0
      go_wp2
      go_ret
      rw [HR.out]
      exact ⟨b1, b2, m + 1, _, v3, v4', _, rfl, HD7.out, HK7.out, Nat.le_refl _⟩

end Go.Proofs.YtpccongphchagaaGreatDoor
namespace Go.Proofs.YtpccongphchagaaGreatDoor
open Go.RowKit
set_option linter.unusedVariables false
theorem look_run {w : World} {b1 b2 m : Nat} {es : List EN} {nm : ByteArray} {n : Int} (hs : nm.size ≤ 1048576) (hL : LstAt w b1 b2 m es) (hn : (nm, n) ∈ es) : (Instr.lookup 74 (.map (some b1)) (.string nm) false).run Tryz.prog w = .ok (.int .i64 n) w := by
  obtain ⟨D1, D2, hl, hr⟩ := hL
  obtain ⟨c, hrun, hat, _⟩ := hl.o1.lookup_int lawStr Tryz.underlying74 Tryz.underlying3 (zeroInt w) (keyS nm (by unfold maxLen; omega))
  have h := (hr.r1 _ _ hn).2
  rw [hat] at h
  simp at h
  rw [hrun, h]
set_option maxRecDepth 20000 in
set_option maxHeartbeats 1000000 in
theorem node_any (base o b1 b2 m : Nat) (v1 v3 v4 : Value) (vs : List (Value × Value)) (D : MDisk) (nm : ByteArray) (k g c1 : Nat) (w : World) (hs : nm.size ≤ 1048576) (hn : D.nodes.length ≤ 600) (hk : k < D.nodes.length) (hin : nodeIn D.names nm = some (k : Int)) (hv : v1 = .slice (some ⟨g, 0, none⟩) D.nodes.length c1) (hd : Drv base w o b1 b2 m v1 v3 v4 vs D) :
    Calls Tryz.prog 73 #[.pointer (some ⟨o, 0, none⟩), .string nm] w fun e w' => e = .returned (.pointer (some ⟨g, k * 2, none⟩)) ∧ Below w.heap.size w w' := by
  subst hv
  have q0 : w.cell? ⟨o, 0, none⟩ = some (.slice (some ⟨g, 0, none⟩) D.nodes.length c1) := hd.box.cell 0
  have q1 : w.cell? ⟨o, 1, none⟩ = some (.map (some b1)) := hd.box.cell 1
  have q2 : w.cell? ⟨o, 2, none⟩ = some (.map (some b2)) := hd.box.cell 2
  have r1 := look_run hs hd.l (nodeIn_of hin)
  have r2 : (Instr.lookup 74 (.map (some b1)) (.string nm) false).run Tryz.prog w.drew = .ok (.int .i64 (k : Int)) w.drew := look_run hs (hd.l.below (like_below rfl rfl rfl rfl) hd.l.lt.1 hd.l.lt.2) (nodeIn_of hin)
  clear hd hin
  go_enter Tryz.func73, Tryz.ntmps73
  go_upto_region 1 with fail
  go_region_law (first
    | fail)
  all_goals
    go_wp2
    go_ret
    exact ⟨rfl, like_below rfl rfl rfl rfl⟩
end Go.Proofs.YtpccongphchagaaGreatDoor
