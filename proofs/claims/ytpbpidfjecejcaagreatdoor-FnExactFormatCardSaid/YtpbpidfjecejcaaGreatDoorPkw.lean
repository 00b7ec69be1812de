import Derived.Test.YtpbpidfjecejcaaGreatDoorPkv
import Derived.Test.YtpbpidfjecejcaaGreatDoorPkm
import Derived.Test.YtpbpidfjecejcaaGreatDoorPki
import Derived.Maps.OwnOps
import Derived.Deep.DeepCutAuto
namespace Go.Proofs.YtpbpidfjecejcaaGreatDoor
open Go.RowKit
set_option linter.unusedVariables false
/-- What an operation of a drive leaves: its maps and rows may be others. -/
def DrAny (base o m : Nat) (w : World) (R : MDisk × Int) (e : Ending) (w' : World) : Prop := ∃ b1 b2 m' v1 v3 v4 vs, e = .returned (errV R.2) ∧ Drv base w' o b1 b2 m' v1 v3 v4 vs R.1 ∧ KepI base w w' ∧ m' ≤ m + 1
theorem DrPost.some {base o b1 b2 m : Nat} {v1 v3 : Value} {vs : List (Value × Value)} {w : World} {R : MDisk × Int} {e : Ending} {w' : World} (h : DrPost base o b1 b2 m v1 v3 vs w R e w') : DrAny base o m w R e w' := by
  obtain ⟨m', v4, h1, h2, h3, h4⟩ := h
  exact ⟨b1, b2, m', v1, v3, v4, vs, h1, h2, h3, h4⟩
/-- append of a node that holds nothing. -/
theorem wpList_append_node0 {ops : Array Oper} {rest : List Oper} {o : Oper} {act : Act} {Q : Exit → Act → World → Prop} (w : World) (hgd : o.guard = none) (s x : Operand)
    (ho : o.op = .call { callee := .builtin .append, args := #[s, x], argTypes := #[23, 23] })
    (lo : Nat) (v : Value) (vs : List (Value × Value)) (ns : List NdM) (g1 c : Nat) (hs : act.eval s = v) (hx : act.eval x = .slice (some ⟨g1, 0, none⟩) 1 c) (hown : OwnNA w lo v vs ns) (h0 : w.cell? ⟨g1, 0, none⟩ = some (.slice none 0 0)) (h1 : w.cell? ⟨g1, 1, none⟩ = some (.int .i64 0))
    (hlen : ns.length ≤ 1048576) (hbase : lo ≤ w.heap.size)
    (h : ∀ v' w', OwnNA w' lo v' (vs ++ [(.slice none 0 0, .int .i64 0)]) (ns ++ [([], 0)]) → w.grownBy w' v.ownBlock → wpList Tryz.prog ops Q rest (act.put o.dst v') w') : wpList Tryz.prog ops Q (o :: rest) act w := by
  obtain ⟨i0, hi, hz0, hz1, hz2⟩ := info_parts Tryz.infoNode
  have hl := hown.len
  refine wpList_append_own w hgd s x 23 ho lo 99 i0 (.agg #[.slice none 0 0, .int .i64 0]) 2 32 Tryz.underlying23 hi hz0 hz1 hz2 rfl (by decide) v vs.length (two vs) hs hown.row ⟨g1, 0, none⟩ 1 c [.slice none 0 0, .int .i64 0] hx (by simp) ?_ ?_ (by unfold maxLen; omega) (by omega) hbase ?_
  · intro j y hj
    rw [addr_add]
    match j with
    | 0 => simp only [List.getElem?_cons_zero, Option.some.injEq] at hj; rw [← hj]; exact h0
    | 1 => simp only [List.getElem?_cons_succ, List.getElem?_cons_zero, Option.some.injEq] at hj; rw [← hj]; exact h1
    | j + 2 => simp at hj
  · intro y hy
    simp only [List.mem_cons, List.not_mem_nil, or_false] at hy
    rcases hy with rfl | rfl <;> rfl
  · intro v' w' hown' hg _
    refine h v' w' (hown.push (OwnB.nil _ _) (fun y _ => ?_) hown' hg) hg
    cases hy : y.ownBlock with
    | none => exact .inl hy
    | some g => exact .inr (by rw [hy]; simp [Value.ownBlock])
/-- The nodes of a drive come anew. -/
theorem drv_nodes {base : Nat} {W w5 : World} {o b1 b2 m : Nat} {v1 v3 v4 v5 : Value} {vs vs' : List (Value × Value)} {D : MDisk} {N : List NdM} (h : Drv base W o b1 b2 m v1 v3 v4 vs D) (h5 : OwnNA w5 base v5 vs' N) (hg : W.grownBy w5 v1.ownBlock) (hb : base ≤ W.heap.size) :
    Drv base (w5.setCell ⟨o, 0, none⟩ v5) o b1 b2 m v5 v3 v4 vs' ⟨N, D.names, D.kept, D.pend, D.quota⟩ ∧ KepI base W (w5.setCell ⟨o, 0, none⟩ v5) ∧ w5.cell? ⟨o, 0, none⟩ = some v1 ∧ w5.frozen? ⟨o, 0, none⟩ = false := by
  have f : Fr (fun g => v1.ownBlock = some g) W w5 := Fr.of_grown hg (fun k e => e)
  have hS : ∀ g, v1.ownBlock = some g → KindAt W g 99 := fun g hg => own_kind h.n.row hg
  have hnk : ∀ {g t : Nat}, KindAt W g t → t ≠ 99 → ¬ v1.ownBlock = some g := fun hk ht e => ht (hk.ne (hS _ e))
  have bx : Laid w5 o #[v1, .map (some b1), .map (some b2), v3, v4, .int .i64 D.quota] 131 := (f.block _ h.box.lt (hnk h.box.kind (by decide))).trans h.box
  have k5 : OwnE w5 base v3 D.kept := own_frk h.k f (fun g e => ⟨_, hS g e, by decide⟩)
  have p5 : OwnO w5 base v4 D.pend := own_frk h.p f (fun g e => ⟨_, hS g e, by decide⟩)
  have fs : Fr (fun g => g = o) w5 (w5.setCell ⟨o, 0, none⟩ v5) := (Fr.refl _ _).set rfl
  have hmap : ∀ b, b = b1 ∨ b = b2 → w5.heap[b]? = W.heap[b]? ∧ b ≠ o := by
    obtain ⟨D1, D2, hLL, _⟩ := h.l
    have hk : ∀ b t, b = b1 ∨ b = b2 → ¬ KindAt W b t := by
      rintro b t (rfl | rfl) ⟨cs, fr, hk⟩
      · obtain ⟨_, _, hmm, _⟩ := hLL.o1
        rw [hmm] at hk; cases hk
      · obtain ⟨_, _, hmm, _⟩ := hLL.o2
        rw [hmm] at hk; cases hk
    intro b hb
    have hlt : b < W.heap.size := by rcases hb with rfl | rfl; exact hLL.o1.lt; exact hLL.o2.lt
    exact ⟨f.block b hlt (fun e => hk b _ hb (hS b e)), fun e => hk b _ hb (by rw [e]; exact h.box.kind)⟩
  have l5 : LstAt (w5.setCell ⟨o, 0, none⟩ v5) b1 b2 m D.names := by
    obtain ⟨D1, D2, hLL, hRR⟩ := h.l
    have hx : ∀ b, b = b1 ∨ b = b2 → (w5.setCell ⟨o, 0, none⟩ v5).heap[b]? = W.heap[b]? := fun b hb => (heap_setCell_other w5 ⟨o, 0, none⟩ b v5 (hmap b hb).2).trans (hmap b hb).1
    obtain ⟨es1, ck1, k1, k2⟩ := hLL.o1
    obtain ⟨es2, ck2, j1, j2⟩ := hLL.o2
    exact ⟨D1, D2, ⟨⟨es1, ck1, (hx b1 (.inl rfl)).trans k1, k2⟩, ⟨es2, ck2, (hx b2 (.inr rfl)).trans j1, j2⟩, hLL.ne⟩, hRR⟩
  have hkd : ∀ g, g = o → KindAt w5 g 131 := fun g e => by subst e; exact bx.kind
  have K1 : KepI base W w5 := KepI.fr f (fun g e => ⟨(own_ge h.n.row e).1, fun t ht => .inl (ht.ne (hS g e))⟩) hb
  have K2 : KepI base w5 (w5.setCell ⟨o, 0, none⟩ v5) := KepI.fr fs (fun g e => ⟨by subst e; exact h.lo, fun t ht => .inr (.inr (.inr (ht.ne (hkd g e))))⟩) (Nat.le_trans hb f.size)
  exact ⟨⟨bx.set 0 v5, h5.box bx (by decide) (by decide) 0 v5, l5, own_frk k5 fs (fun g e => ⟨_, hkd g e, by decide⟩), own_frk p5 fs (fun g e => ⟨_, hkd g e, by decide⟩), h.lb, h.lo⟩, K1.trans K2, bx.cell 0, frozen_of_row w5 o 0 _ _ bx⟩
def newR (D : MDisk) (nm : ByteArray) : MDisk × Int := if 600 ≤ D.nodes.length ∨ 1000 ≤ D.pend.length ∨ (nodeIn D.names nm = none ∧ 300 ≤ D.names.length) then (D, 6) else (dirD (newD D) (1, nm, noStr, (D.nodes.length : Int)), 0)
end Go.Proofs.YtpbpidfjecejcaaGreatDoor
namespace Go.Proofs.YtpbpidfjecejcaaGreatDoor
open Go.RowKit
set_option linter.unusedVariables false
set_option maxRecDepth 20000 in
set_option maxHeartbeats 2000000 in
theorem create_any (base o b1 b2 m : Nat) (v1 v3 v4 : Value) (vs : List (Value × Value)) (D : MDisk) (nm : ByteArray) (w : World) (hbase : base ≤ w.heap.size) (hW : Wkd D) (hm : m ≤ 1048570) (hs1 : nm.size ≤ 1048576) (hok : okName nm = true) (hd : Drv base w o b1 b2 m v1 v3 v4 vs D) :
    Calls Tryz.prog 109 #[.pointer (some ⟨o, 0, none⟩), .string nm] w (DrAny base o m w (newR D nm)) := by
  obtain ⟨a1, c1, rfl⟩ := hd.n.slice
  obtain ⟨a4, c4, rfl⟩ := hd.p.slice
  have q0 : w.cell? ⟨o, 0, none⟩ = some (.slice a1 D.nodes.length c1) := hd.box.cell 0
  have q1 : w.cell? ⟨o, 1, none⟩ = some (.map (some b1)) := hd.box.cell 1
  have q2 : w.cell? ⟨o, 2, none⟩ = some (.map (some b2)) := hd.box.cell 2
  have q4 : w.cell? ⟨o, 4, none⟩ = some (.slice a4 D.pend.length c4) := hd.box.cell 4
  have HD := hide hd
  have HW := hide hW
  have HRP := hide (rep_create (N := D.nodes.length) hok hW.fine.nd)
  have hnp := hW.np
  have hnn := hW.nn
  have hln := hW.fine.ln
  have HWF := hide (show (Lit.int .i64 (D.nodes.length : Int)).wf = true from by simp [Lit.wf, IntKind.min, IntKind.max, IntKind.signed, IntKind.bits]; omega)
  have HAS := hide (has_list b1 b2 m D.names nm w hs1 hd.l)
  clear hd hW hok
  by_cases F1 : 600 ≤ D.nodes.length
  · have HR := hide (show newR D nm = (D, 6) from by unfold newR; rw [if_pos (.inl F1)])
    go_enter Tryz.func109, Tryz.ntmps109
    go_wp2
    go_ret
    exact (dr_same HR.out rfl HD.out (Below.refl _ _) hbase).some
  by_cases F2 : 1000 ≤ D.pend.length
  · have HR := hide (show newR D nm = (D, 6) from by unfold newR; rw [if_pos (.inr (.inl F2))])
    go_enter Tryz.func109, Tryz.ntmps109
    go_wp2
    go_ret
    exact (dr_same HR.out rfl HD.out (Below.refl _ _) hbase).some
  have hnb : D.nodes.length ≤ 1048576 := by omega
  go_enter Tryz.func109, Tryz.ntmps109
  go_wp2_with fail
  refine HAS.out.mono ?_
  rintro e w1 ⟨⟨r, rfl, hr⟩, hb1⟩
  have d1 := HD.out.below hb1
  have hlen := lst_len d1.l
  have p0 : w1.cell? ⟨o, 0, none⟩ = some (.slice a1 D.nodes.length c1) := d1.box.cell 0
  have p1 : w1.cell? ⟨o, 1, none⟩ = some (.map (some b1)) := d1.box.cell 1
  have p2 : w1.cell? ⟨o, 2, none⟩ = some (.map (some b2)) := d1.box.cell 2
  have HD1 := hide d1
  have HB1 := hide hb1
  have HH := hide hr
  clear d1 hb1 hr HAS q0 q1 q2 q4
  cases r with
  | true =>
      have HR := hide (show newR D nm = (dirD (newD D) (1, nm, noStr, (D.nodes.length : Int)), 0) from by
        unfold newR
        rw [if_neg]
        rintro (h | h | ⟨h, _⟩)
        · exact F1 h
        · exact F2 h
        · obtain ⟨x, hx⟩ := HH.out.1 rfl
          exact nodeIn_no h x hx)
      have hal := (Below.refl w1.heap.size w1).alloc (Nat.le_refl _) (.cells #[.slice none 0 0, .int .i64 0] 99)
      have dX := HD1.out.below hal
      have LA := Laid.new w1 #[.slice none 0 0, .int .i64 0] 99
      have LA0 := hide (show (w1.alloc (.cells #[.slice none 0 0, .int .i64 0] 99)).cell? ⟨w1.heap.size, 0, none⟩ = some (.slice none 0 0) from LA.cell 0)
      have LA1 := hide (show (w1.alloc (.cells #[.slice none 0 0, .int .i64 0] 99)).cell? ⟨w1.heap.size, 1, none⟩ = some (.int .i64 0) from LA.cell 1)
      have HNA := hide dX.n
      have hbX : base ≤ (w1.alloc (.cells #[.slice none 0 0, .int .i64 0] 99)).heap.size := Nat.le_trans hbase (Nat.le_trans HB1.out.size hal.size)
      have HBX := hide hbX
      have HDX := hide dX
      have HKX := hide ((KepI.of_below HB1.out hbase).trans (KepI.of_below hal (Nat.le_trans hbase HB1.out.size)))
      clear hal dX LA hbX
      go_wp2_with (at_builtin; (refine wpList_append_node0 _ rfl (.tmp 41) (.tmp 43) rfl base (.slice a1 D.nodes.length c1) vs D.nodes w1.heap.size 1 rfl rfl ?_ ?_ ?_ hnb ?_ ?_; (exact HNA.out); (exact LA0.out); (exact LA1.out); (exact HBX.out); intro v5 w5 h5 hg5; obtain ⟨a5, c5, rfl⟩ := h5.slice; have hfn := drv_nodes HDX.out h5 hg5 HBX.out; rw [show (D.nodes ++ [(([] : List Nat), (0 : Int))]).length = D.nodes.length + 1 from by simp] at hfn; have r0 := hfn.2.2.1; have f0 := hfn.2.2.2; have HFN := hide hfn; clear hfn h5 hg5))
      have hb6 : base ≤ (w5.setCell ⟨o, 0, none⟩ (.slice a5 (D.nodes.length + 1) c5)).heap.size := Nat.le_trans HBX.out HFN.out.2.1.bel.size
      have CH := hide (change_any base o b1 b2 m _ v3 _ _ (newD D) 1 nm noStr (D.nodes.length : Int) _ (w5.setCell ⟨o, 0, none⟩ (.slice a5 (D.nodes.length + 1) c5)) hb6 hm (by simp only [newD]; omega) hs1 (by simp [noStr, ByteArray.size]) HWF.out HW.out.fine.ap (by simpa [newD] using HRP.out) HFN.out.1)
      unfold noStr at CH
      refine CH.out.mono ?_
      rintro e w7 ⟨v4', rfl, hd7, hk7⟩
      have HD7 := hide hd7
      have HK7 := hide ((HKX.out.trans HFN.out.2.1).trans hk7)
      clear hd7 hk7 CH r0 f0
      go_wp2
      go_ret
      rw [HR.out]
      exact ⟨b1, b2, m + 1, _, v3, v4', _, rfl, HD7.out, HK7.out, Nat.le_refl _⟩

  | false =>
    have hno : nodeIn D.names nm = none := by
      cases hn : nodeIn D.names nm with
      | none => rfl
      | some x => have := HH.out.2 ⟨x, nodeIn_of hn⟩; cases this
    have HNO := hide hno
    clear hno
    by_cases F3 : 300 ≤ D.names.length
    · have HR := hide (show newR D nm = (D, 6) from by unfold newR; rw [if_pos (.inr (.inr ⟨HNO.out, F3⟩))])
      go_wp2
      go_ret
      exact (dr_same HR.out rfl HD.out HB1.out hbase).some
    · have HR := hide (show newR D nm = (dirD (newD D) (1, nm, noStr, (D.nodes.length : Int)), 0) from by
        unfold newR
        rw [if_neg]
        rintro (h | h | ⟨_, h⟩)
        · exact F1 h
        · exact F2 h
        · exact F3 h)
      have hal := (Below.refl w1.heap.size w1).alloc (Nat.le_refl _) (.cells #[.slice none 0 0, .int .i64 0] 99)
      have dX := HD1.out.below hal
      have LA := Laid.new w1 #[.slice none 0 0, .int .i64 0] 99
      have LA0 := hide (show (w1.alloc (.cells #[.slice none 0 0, .int .i64 0] 99)).cell? ⟨w1.heap.size, 0, none⟩ = some (.slice none 0 0) from LA.cell 0)
      have LA1 := hide (show (w1.alloc (.cells #[.slice none 0 0, .int .i64 0] 99)).cell? ⟨w1.heap.size, 1, none⟩ = some (.int .i64 0) from LA.cell 1)
      have HNA := hide dX.n
      have hbX : base ≤ (w1.alloc (.cells #[.slice none 0 0, .int .i64 0] 99)).heap.size := Nat.le_trans hbase (Nat.le_trans HB1.out.size hal.size)
      have HBX := hide hbX
      have HDX := hide dX
      have HKX := hide ((KepI.of_below HB1.out hbase).trans (KepI.of_below hal (Nat.le_trans hbase HB1.out.size)))
      clear hal dX LA hbX
      go_wp2_with (at_builtin; (refine wpList_append_node0 _ rfl (.tmp 41) (.tmp 43) rfl base (.slice a1 D.nodes.length c1) vs D.nodes w1.heap.size 1 rfl rfl ?_ ?_ ?_ hnb ?_ ?_; (exact HNA.out); (exact LA0.out); (exact LA1.out); (exact HBX.out); intro v5 w5 h5 hg5; obtain ⟨a5, c5, rfl⟩ := h5.slice; have hfn := drv_nodes HDX.out h5 hg5 HBX.out; rw [show (D.nodes ++ [(([] : List Nat), (0 : Int))]).length = D.nodes.length + 1 from by simp] at hfn; have r0 := hfn.2.2.1; have f0 := hfn.2.2.2; have HFN := hide hfn; clear hfn h5 hg5))
      have hb6 : base ≤ (w5.setCell ⟨o, 0, none⟩ (.slice a5 (D.nodes.length + 1) c5)).heap.size := Nat.le_trans HBX.out HFN.out.2.1.bel.size
      have CH := hide (change_any base o b1 b2 m _ v3 _ _ (newD D) 1 nm noStr (D.nodes.length : Int) _ (w5.setCell ⟨o, 0, none⟩ (.slice a5 (D.nodes.length + 1) c5)) hb6 hm (by simp only [newD]; omega) hs1 (by simp [noStr, ByteArray.size]) HWF.out HW.out.fine.ap (by simpa [newD] using HRP.out) HFN.out.1)
      unfold noStr at CH
      refine CH.out.mono ?_
      rintro e w7 ⟨v4', rfl, hd7, hk7⟩
      have HD7 := hide hd7
      have HK7 := hide ((HKX.out.trans HFN.out.2.1).trans hk7)
      clear hd7 hk7 CH r0 f0
      go_wp2
      go_ret
      rw [HR.out]
      exact ⟨b1, b2, m + 1, _, v3, v4', _, rfl, HD7.out, HK7.out, Nat.le_refl _⟩

end Go.Proofs.YtpbpidfjecejcaaGreatDoor
namespace Go.Proofs.YtpbpidfjecejcaaGreatDoor
open Go.RowKit
set_option linter.unusedVariables false
theorem look_run {w : World} {b1 b2 m : Nat} {es : List EN} {nm : ByteArray} {n : Int} (hs : nm.size ≤ 1048576) (hL : LstAt w b1 b2 m es) (hn : (nm, n) ∈ es) : (Instr.lookup 124 (.map (some b1)) (.string nm) false).run Tryz.prog w = .ok (.int .i64 n) w := by
  obtain ⟨D1, D2, hl, hr⟩ := hL
  obtain ⟨c, hrun, hat, _⟩ := hl.o1.lookup_int lawStr Tryz.underlying124 Tryz.underlying3 (zeroInt w) (keyS nm (by unfold maxLen; omega))
  have h := (hr.r1 _ _ hn).2
  rw [hat] at h
  simp at h
  rw [hrun, h]
set_option maxRecDepth 20000 in
set_option maxHeartbeats 1000000 in
theorem node_any (base o b1 b2 m : Nat) (v1 v3 v4 : Value) (vs : List (Value × Value)) (D : MDisk) (nm : ByteArray) (k g c1 : Nat) (w : World) (hs : nm.size ≤ 1048576) (hn : D.nodes.length ≤ 600) (hk : k < D.nodes.length) (hin : nodeIn D.names nm = some (k : Int)) (hv : v1 = .slice (some ⟨g, 0, none⟩) D.nodes.length c1) (hd : Drv base w o b1 b2 m v1 v3 v4 vs D) :
    Calls Tryz.prog 112 #[.pointer (some ⟨o, 0, none⟩), .string nm] w fun e w' => e = .returned (.pointer (some ⟨g, k * 2, none⟩)) ∧ Below w.heap.size w w' := by
  subst hv
  have q0 : w.cell? ⟨o, 0, none⟩ = some (.slice (some ⟨g, 0, none⟩) D.nodes.length c1) := hd.box.cell 0
  have q1 : w.cell? ⟨o, 1, none⟩ = some (.map (some b1)) := hd.box.cell 1
  have q2 : w.cell? ⟨o, 2, none⟩ = some (.map (some b2)) := hd.box.cell 2
  have r1 := look_run hs hd.l (nodeIn_of hin)
  have r2 : (Instr.lookup 124 (.map (some b1)) (.string nm) false).run Tryz.prog w.drew = .ok (.int .i64 (k : Int)) w.drew := look_run hs (hd.l.below (like_below rfl rfl rfl rfl) hd.l.lt.1 hd.l.lt.2) (nodeIn_of hin)
  clear hd hin
  go_enter Tryz.func112, Tryz.ntmps112
  go_upto_region 1 with fail
  go_region_law (first
    | fail)
  all_goals
    go_wp2
    go_ret
    exact ⟨rfl, like_below rfl rfl rfl rfl⟩
end Go.Proofs.YtpbpidfjecejcaaGreatDoor
namespace Go.Proofs.YtpbpidfjecejcaaGreatDoor
open Go.RowKit Go.Maps
set_option linter.unusedVariables false
theorem wpList_next_ranges_si2 {H : Type} {P : Program} (w : World) {ops : Array Oper} {rest : List Oper} {o : Oper} {a : Act} {Q : Exit → Act → World → Prop}
    (hg : o.guard = none) (it : Operand) (hop : o.op = Op.next it false) (k e : TypeId) (qe : IntKind) (K : Keyed P k) (hk : P.underlying k = some .string) (he : P.underlying e = some (.int qe))
    (b r n : Nat) (D : DataW H) (left : Lit → Bool) (cnt : Nat) (hit : a.eval it = .pointer (some ⟨r, 0, none⟩)) (h : w.ranges P k (plainElem P e) b r n D left cnt)
    (hDone : cnt = 0 → (∀ kl, left kl = false) → wpList P ops Q rest (a.put o.dst (.tuple #[.bool false])) w)
    (hMore : ∀ (x : ByteArray) (c : Int) (w' : World) (cnt' : Nat), left (.string x.data.toList) = true → D.atKey (.string x.data.toList) (.lit (.int qe 0)) = .lit (.int qe c) → w'.ranges P k (plainElem P e) b r n D (fun z => left z && !z.sameKey (.string x.data.toList)) cnt' → cnt' < cnt →
      w.grownBy w' (some r) → w'.heap.size = w.heap.size → (Instr.entry (.pointer (some ⟨r, 0, none⟩))).run P w' = .ok (.tuple #[.string x, .int qe c]) w' → wpList P ops Q rest (a.put o.dst (.tuple #[.bool true, .string x, .int qe c])) w') :
    wpList P ops Q (o :: rest) a w :=
  wpList_next_ranges w hg it hop k K (plainElem P e) Value.string (Value.int qe) (fun key kl hkey => by obtain ⟨x, rfl, _⟩ := keyOf_str_inv hk hkey; exact ⟨x, rfl⟩) (fun v y hv => by obtain ⟨c, rfl, _⟩ := plainElem_int_inv he hv; exact ⟨c, rfl⟩)
    b r n D left cnt hit h hDone (fun x c kl y w' cnt' hkey hlk hv hat hrg hlt hgr hsz hen => by
      obtain ⟨x', ex, rfl, hwx⟩ := keyOf_str_inv hk hkey
      cases ex
      obtain ⟨c', ec, hy, _⟩ := plainElem_int_inv he hv
      cases ec
      refine hMore x c w' cnt' hlk ?_ hrg hlt hgr hsz hen
      rw [hat, hy])
def usedL (ns : List NdM) (left : Lit → Bool) : List EN → Nat
  | [] => 0
  | e :: r => (if left (kS e.1) = true then 0 else (nodeOf ns e).1.length) + usedL ns left r
theorem usedL_start (ns : List NdM) (left : Lit → Bool) : ∀ (es : List EN), (∀ e ∈ es, left (kS e.1) = true) → usedL ns left es = 0
  | [], _ => rfl
  | e :: r, h => by rw [usedL, if_pos (h e (List.mem_cons_self ..)), usedL_start ns left r (fun x hx => h x (List.mem_cons_of_mem _ hx))]
theorem usedL_end (ns : List NdM) (left : Lit → Bool) (h : ∀ kl, left kl = false) : ∀ (es : List EN), usedL ns left es = usedOf ns es
  | [] => rfl
  | e :: r => by rw [usedL, usedOf, if_neg (by rw [h]; decide), usedL_end ns left h r]
theorem usedL_le (ns : List NdM) (left : Lit → Bool) : ∀ (es : List EN), usedL ns left es ≤ usedOf ns es
  | [] => Nat.le_refl _
  | e :: r => by
    have := usedL_le ns left r
    rw [usedL, usedOf]
    split <;> omega
theorem sameKey_iff (s t : ByteArray) : (kS s).sameKey (kS t) = true ↔ s = t := ⟨fun e => kS_inj (WideAt.sameKey_eq e), fun e => by rw [e]; exact WideAt.sameKey_self (isKeyS t)⟩
theorem usedL_keep (ns : List NdM) (left : Lit → Bool) (x : ByteArray) : ∀ (es : List EN), (∀ e ∈ es, e.1 ≠ x) → usedL ns (fun z => left z && !z.sameKey (kS x)) es = usedL ns left es
  | [], _ => rfl
  | e :: r, h => by
    have h1 : (kS e.1).sameKey (kS x) = false := by
      cases hs : (kS e.1).sameKey (kS x) with
      | false => rfl
      | true => exact absurd ((sameKey_iff _ _).1 hs) (h e (List.mem_cons_self ..))
    rw [usedL, usedL, usedL_keep ns left x r (fun y hy => h y (List.mem_cons_of_mem _ hy))]
    simp only [h1, Bool.not_false, Bool.and_true]
theorem usedL_step (ns : List NdM) (left : Lit → Bool) (x : ByteArray) (c : Int) (hx : left (kS x) = true) : ∀ (es : List EN), Apart es → (x, c) ∈ es → usedL ns (fun z => left z && !z.sameKey (kS x)) es = usedL ns left es + (nodeOf ns (x, c)).1.length
  | [], _, h => by cases h
  | e :: r, ha, h => by
    obtain ⟨a1, a2⟩ := List.pairwise_cons.1 ha
    by_cases he : e = (x, c)
    · subst he
      rw [usedL, usedL, usedL_keep ns left x r (fun y hy e2 => (a1 y hy).1 e2.symm)]
      have hs : (kS x).sameKey (kS x) = true := (sameKey_iff x x).2 rfl
      simp only [hs, hx, Bool.not_true, Bool.and_false, if_true]
      simp
      omega
    · have hm : (x, c) ∈ r := by
        rcases List.mem_cons.1 h with h | h
        · exact absurd h.symm he
        · exact h
      have hne : e.1 ≠ x := (a1 _ hm).1
      have h1 : (kS e.1).sameKey (kS x) = false := by
        cases hs : (kS e.1).sameKey (kS x) with
        | false => rfl
        | true => exact absurd ((sameKey_iff _ _).1 hs) hne
      rw [usedL, usedL, usedL_step ns left x c hx r a2 hm]
      simp only [h1, Bool.not_false, Bool.and_true]
      omega
theorem use_fact {base : Nat} {w w1 : World} {o b1 b2 m : Nat} {a1 : Option Addr} {c1 : Nat} {v3 v4 : Value} {vs : List (Value × Value)} {D : MDisk} {D1 D2 : DU} {x : ByteArray} {c : Int} (hd : Drv base w o b1 b2 m (.slice a1 D.nodes.length c1) v3 v4 vs D) (hr : Reads D1 D2 D.names) (hnd : ∀ e ∈ D.names, 0 ≤ e.2 ∧ e.2 < (D.nodes.length : Int)) (hx : Maps.has D1 (kS x) = true) (hat : D1.atKey (kS x) (.lit (.int .i64 0)) = .lit (.int .i64 c)) (hb : Below w.heap.size w w1) :
    (x, c) ∈ D.names ∧ ∃ (k g : Nat) (ai : Option Addr) (ci : Nat), c = (k : Int) ∧ k < D.nodes.length ∧ a1 = some ⟨g, 0, none⟩ ∧ w1.cell? ⟨o, 0, none⟩ = some (.slice a1 D.nodes.length c1) ∧ w1.cell? ⟨g, k * 2, none⟩ = some (.slice ai (nodeOf D.nodes (x, c)).1.length ci) ∧ Below w.heap.size w w1 := by
  obtain ⟨n, hn⟩ := hr.r2 x hx
  have h1 := (hr.r1 x n hn).2
  rw [hat] at h1
  simp only [DataW.lit.injEq, Lit.int.injEq, true_and] at h1
  subst h1
  obtain ⟨h2, h3⟩ := hnd _ hn
  simp only at h2 h3
  have d1 := hd.below hb
  obtain ⟨g, e, _, _, hc⟩ := d1.n.cells (by omega)
  have hk : c.toNat < D.nodes.length := by omega
  obtain ⟨ai, ci, _, k1, _, _⟩ := hc c.toNat hk
  refine ⟨hn, c.toNat, g, ai, ci, by omega, hk, e, d1.box.cell 0, ?_, hb⟩
  have hno : nodeOf D.nodes (x, c) = D.nodes[c.toNat] := by
    unfold nodeOf
    rw [List.getD_eq_getElem?_getD, List.getElem?_eq_getElem hk]
    rfl
  rw [hno]
  exact k1
set_option maxRecDepth 20000 in
set_option maxHeartbeats 1000000 in
theorem used_any (base o b1 b2 m : Nat) (v1 v3 v4 : Value) (vs : List (Value × Value)) (D : MDisk) (w : World) (hW : Wkd D) (hd : Drv base w o b1 b2 m v1 v3 v4 vs D) :
    Calls Tryz.prog 131 #[.pointer (some ⟨o, 0, none⟩)] w fun e w' => e = .returned (.int .i64 (usedOf D.nodes D.names : Int)) ∧ Below w.heap.size w w' := by
  obtain ⟨a1, c1, rfl⟩ := hd.n.slice
  have HD := hide hd
  obtain ⟨D1, D2, hl, hr⟩ := hd.l
  have HL := hide hl.o1
  have HR := hide hr
  have hub := used_le _ _ hW.fine.ap hW.fine.nd
  have hsm := hW.sum
  have hln := hW.fine.ln
  have HAP := hide hW.fine.ap
  have HND := hide hW.fine.nd
  have q1 : w.cell? ⟨o, 1, none⟩ = some (.map (some b1)) := hd.box.cell 1
  have hlt1 := hl.o1.lt
  clear hd hl hr hW
  go_enter Tryz.func131, Tryz.ntmps131
  go_wp2_with (first | (at_range; refine wpList_range_own _ rfl _ 124 rfl 9 3 lawStr Tryz.underlying124 (plainElem Tryz.prog 3) b1 m D1 rfl HL.out ?_; intro w0 hrg0 hg0 hs0) | go_in)
  go_frame
  have HB0 := hide ((Below.refl w.heap.size w).grown hg0 (Nat.le_refl _) (fun k h => by cases h))
  have HRG0 := hide hrg0
  clear hrg0 hg0 q1
  go_loopw [3, 5] (fun t _ wr => ∃ (left : Lit → Bool) (cnt : Nat), wr.ranges Tryz.prog 9 (plainElem Tryz.prog 3) b1 w.heap.size m D1 left cnt ∧ (∀ s, left (kS s) = true → Maps.has D1 (kS s) = true) ∧ t = .int .i64 (usedL D.nodes left D.names : Int) ∧ Below w.heap.size w wr) (fun _ _ wr => wr.rangeLeft b1 w.heap.size)
  case atStart => exact ⟨_, _, HRG0.out, fun _ h => h, by rw [usedL_start _ _ _ (fun e he => (HR.out.r1 e.1 e.2 he).1)]; rfl, HB0.out⟩
  case round =>
    obtain ⟨left, cnt, hrg, hsub, rfl, hbel⟩ := hrel
    have HRG := hide hrg
    have HS := hide hsub
    have HBL := hide hbel
    have hle := usedL_le D.nodes left D.names
    have FACT := hide (fun x c w1 (hlx : left (kS x) = true) (hat : D1.atKey (kS x) (.lit (.int .i64 0)) = .lit (.int .i64 c)) (hg : wr.grownBy w1 (some w.heap.size)) => use_fact HD.out HR.out HND.out (HS.out x hlx) hat (HBL.out.grown hg HBL.out.size (fun k h => by simp only [Option.some.injEq] at h; omega)))
    have STEP := hide (fun x c (hlx : left (kS x) = true) (hm : (x, c) ∈ D.names) => usedL_step D.nodes left x c hlx D.names HAP.out hm)
    have FINAL := hide (fun h => usedL_end D.nodes left h D.names)
    generalize hus : usedL D.nodes left D.names = us at hle STEP FINAL ⊢
    clear hrg hsub hbel HRG0 HB0 hus
    go_wp2_with (first | (at_next; refine wpList_next_ranges_si2 _ rfl _ rfl 9 3 .i64 lawStr Tryz.underlying9 Tryz.underlying3 b1 w.heap.size m _ _ _ rfl HRG.out ?_ ?_; intro hc0 hl0; rotate_left; intro x c w1 cnt1 hlx hat hrg1 hlt hg1 hs1 hen; obtain ⟨hmem, k, g, ai, ci, rfl, hkl, rfl, x0, x1, hb1⟩ := FACT.out x c w1 hlx hat hg1; have hst := STEP.out x (k : Int) hlx hmem; have hle1 := usedL_le D.nodes (fun z => left z && !z.sameKey (kS x)) D.names; rw [hst] at hle1; have HST := hide hst; have HRG1 := hide hrg1; have HB1 := hide hb1; have HSB := hide (fun s (h : (left (kS s) && !(kS s).sameKey (kS x)) = true) => HS.out s (by simp only [Bool.and_eq_true] at h; exact h.1)); have hlt' := hlt; generalize hnl : (nodeOf D.nodes (x, (k : Int))).1.length = nl at x1 hle1 HST; clear hst hrg1 hg1 hb1 hlx hat hmem hlt hnl; rotate_right) | go_in)
    · have hfin := FINAL.out hl0
      go_ret
      exact ⟨congrArg (fun n : Nat => Ending.returned (.int .i64 (n : Int))) hfin, HBL.out⟩
    · exact ⟨⟨_, cnt1, HRG1.out, HSB.out, val_int (by have h := HST.out; unfold kS at h; rw [h]; omega), HB1.out⟩, by rw [HRG1.out.left_eq, HRG.out.left_eq]; omega⟩
end Go.Proofs.YtpbpidfjecejcaaGreatDoor
namespace Go.Proofs.YtpbpidfjecejcaaGreatDoor
open Go.RowKit
set_option linter.unusedVariables false
/-- A node's row has grown and is put. -/
theorem drv_put {base : Nat} {W w5 : World} {o b1 b2 m g n cap i : Nat} {v3 v4 x v' : Value} {y : Int} {l : List Nat} {vs : List (Value × Value)} {D : MDisk} (h : Drv base W o b1 b2 m (.slice (some ⟨g, 0, none⟩) n cap) v3 v4 vs D) (hi : i < D.nodes.length) (hx : vs[i]? = some (x, .int .i64 y)) (ho : OwnB w5 base v' l) (hg : W.grownBy w5 x.ownBlock) (hat : v'.ownBlock = x.ownBlock ∨ v'.ownBlock = some W.heap.size ∨ v'.ownBlock = none) (hb : base ≤ W.heap.size) :
    Drv base (w5.setCell ⟨g, i * 2, none⟩ v') o b1 b2 m (.slice (some ⟨g, 0, none⟩) n cap) v3 v4 (vs.set i (v', .int .i64 y)) ⟨D.nodes.set i (l, D.nodes[i].2), D.names, D.kept, D.pend, D.quota⟩ ∧ KepI base W (w5.setCell ⟨g, i * 2, none⟩ v') := by
  obtain ⟨x0, hx0, p1⟩ := h.n.body i hi
  obtain rfl : x = x0 := by rw [hx] at hx0; simp only [Option.some.injEq, Prod.mk.injEq] at hx0; exact hx0.1
  obtain ⟨hn, hg2⟩ := h.n.putData hi hx ho hg hat
  have f1 : Fr (fun k => x.ownBlock = some k) W w5 := Fr.of_grown hg (fun k e => e)
  have S1 : ∀ k, x.ownBlock = some k → KindAt W k 5 := fun k e => own_kind p1 e
  have Kg : KindAt W g 99 := own_kind h.n.row rfl
  have Kg5 : KindAt w5 g 99 := Kg.on (f1.block g Kg.lt (fun e => by have := Kg.ne (S1 g e); revert this; decide))
  have f2 : Fr (fun k => k = g) w5 (w5.setCell ⟨g, i * 2, none⟩ v') := (Fr.refl _ _).set rfl
  have f : Fr (fun k => x.ownBlock = some k ∨ k = g) W (w5.setCell ⟨g, i * 2, none⟩ v') := (f1.mono (fun k e => .inl e)).trans (f2.mono (fun k e => .inr e))
  have S : ∀ k, (x.ownBlock = some k ∨ k = g) → KindAt W k 5 ∨ KindAt W k 99 := by
    rintro k (e | rfl)
    · exact .inl (S1 k e)
    · exact .inr Kg
  have nk : ∀ {k t : Nat}, KindAt W k t → t ≠ 5 → t ≠ 99 → ¬ (x.ownBlock = some k ∨ k = g) := fun hk h5 hN e => by
    rcases S _ e with e2 | e2
    · exact h5 (hk.ne e2)
    · exact hN (hk.ne e2)
  have bx := (f.block _ h.box.lt (nk h.box.kind (by decide) (by decide))).trans h.box
  have k5 : OwnE (w5.setCell ⟨g, i * 2, none⟩ v') base v3 D.kept := owns_fr h.k f (fun k hk e => nk (own_kind h.k hk) (by decide) (by decide) e)
  have p5 : OwnO (w5.setCell ⟨g, i * 2, none⟩ v') base v4 D.pend := owns_fr h.p f (fun k hk e => nk (own_kind h.p hk) (by decide) (by decide) e)
  have l5 : LstAt (w5.setCell ⟨g, i * 2, none⟩ v') b1 b2 m D.names := by
    obtain ⟨D1, D2, hLL, hRR⟩ := h.l
    obtain ⟨es1, ck1, k1, k2⟩ := hLL.o1
    obtain ⟨es2, ck2, j1, j2⟩ := hLL.o2
    have nm : ∀ {b : Nat} {es : Array MapEntry} {ck : Nat}, W.heap[b]? = some (.map es ck) → ¬ (x.ownBlock = some b ∨ b = g) := fun hm e => by
      rcases S _ e with ⟨_, _, e2⟩ | ⟨_, _, e2⟩ <;> (rw [hm] at e2; cases e2)
    exact ⟨D1, D2, ⟨⟨es1, ck1, (f.block b1 hLL.o1.lt (nm k1)).trans k1, k2⟩, ⟨es2, ck2, (f.block b2 hLL.o2.lt (nm j1)).trans j1, j2⟩, hLL.ne⟩, hRR⟩
  refine ⟨⟨bx, hn, l5, k5, p5, h.lb, h.lo⟩, KepI.fr f (fun k e => ⟨?_, fun t ht => ?_⟩) hb⟩
  · rcases e with e | rfl
    · exact (own_ge p1 e).1
    · exact (own_ge h.n.row rfl).1
  · rcases S k e with e2 | e2
    · exact .inr (.inl (ht.ne e2))
    · exact .inl (ht.ne e2)
def addR (D : MDisk) (n : Int) (data : List Nat) : MDisk × Int := if D.quota < (usedOf D.nodes D.names : Int) + (data.length : Int) then (D, 5) else if 40000 < (ndAt D n).1.length + data.length ∨ 200000 < sumN D.nodes + data.length then (D, 6) else (putD D n ((ndAt D n).1 ++ data, (ndAt D n).2), 0)
end Go.Proofs.YtpbpidfjecejcaaGreatDoor
