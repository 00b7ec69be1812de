import Derived.Test.YtpccongphchagaaGreatDoorPku
import Derived.Test.YtpccongphchagaaGreatDoorPkq
import Derived.Test.YtpccongphchagaaGreatDoorPkp
import Derived.Deep.DeepCutAuto
import Derived.Deep.RegionLaw
namespace Go.Proofs.YtpccongphchagaaGreatDoor
open Go.RowKit
set_option linter.unusedVariables false
set_option maxRecDepth 20000 in
set_option maxHeartbeats 4000000 in
theorem l1One_rem (base : Nat) (v1 v2 v3 v4 : Value) (D : MDisk) (nm tt : ByteArray) (ad : Option Addr) (data : List Nat) (cd : Nat) (w : World) (hbase : base ≤ w.heap.size) (hW : Wkd D) (hs1 : nm.size ≤ 1048576) (hs2 : tt.size ≤ 1048576) (hdl : data.length ≤ 1048576) (hrow : RowAt w ad data) (hd : Dk w base v1 v2 v3 v4 D) (hok : okName nm = true) :
    Calls Tryz.prog 18 #[.agg #[v1, v2, v3, v4, .int .i64 D.quota], .agg #[.int .i64 5, .string nm, .string tt, .slice ad data.length cd]] w (OnPost base w (doOne D (5, nm, tt, data))) := by
  obtain ⟨a1, c1, rfl⟩ := hd.n.slice
  obtain ⟨a2, c2, rfl⟩ := hd.e.slice
  obtain ⟨a3, c3, rfl⟩ := hd.k.slice
  obtain ⟨a4, c4, rfl⟩ := hd.p.slice
  obtain ⟨L1, L2, L3, hA, hz⟩ := boxes3 w #[.slice a1 D.nodes.length c1, .slice a2 D.names.length c2, .slice a3 D.kept.length c3, .slice a4 D.pend.length c4, .int .i64 D.quota] #[.int .i64 5, .string nm, .string tt, .slice ad data.length cd] #[.slice none 0 0, .slice none 0 0, .slice none 0 0, .slice none 0 0, .int .i64 0] 27 39 27
  have HD := hide (hd.below hA)
  have HRW := hide (hrow.below hA)
  have HA := hide (Kep.of_below hA hbase)
  have HAB := hide hA
  have HW := hide hW
  have hln := hW.fine.ln
  have hnn := hW.nn
  have hnp := hW.np
  have HGW := hide (fun g (hg : (Value.slice a1 D.nodes.length c1).ownBlock = some g) => by obtain ⟨vs, _, hr0, _⟩ := hd.n; exact (own_ge hr0 hg).2)
  clear hd hrow hW hA
  go_enter Tryz.func18, Tryz.ntmps18
  go_upto_region 1 with fail
  generalize ((w.alloc (.cells #[.slice a1 D.nodes.length c1, .slice a2 D.names.length c2, .slice a3 D.kept.length c3, .slice a4 D.pend.length c4, .int .i64 D.quota] 27)).alloc (.cells #[.int .i64 5, .string nm, .string tt, .slice ad data.length cd] 39)).alloc (.cells #[.slice none 0 0, .slice none 0 0, .slice none 0 0, .slice none 0 0, .int .i64 0] 27) = W at L1 L2 L3 HD HRW HA HAB hz ⊢
  have HZ := hide hz
  have q0 : W.cell? ⟨w.heap.size, 0, none⟩ = some (.slice a1 D.nodes.length c1) := L1.cell 0
  have q1 : W.cell? ⟨w.heap.size, 1, none⟩ = some (.slice a2 D.names.length c2) := L1.cell 1
  have q2 : W.cell? ⟨w.heap.size, 2, none⟩ = some (.slice a3 D.kept.length c3) := L1.cell 2
  have q3 : W.cell? ⟨w.heap.size, 3, none⟩ = some (.slice a4 D.pend.length c4) := L1.cell 3
  have q4 : W.cell? ⟨w.heap.size, 4, none⟩ = some (.int .i64 D.quota) := L1.cell 4
  have o0 : W.cell? ⟨w.heap.size + 1, 0, none⟩ = some (.int .i64 5) := L2.cell 0
  have o1 : W.cell? ⟨w.heap.size + 1, 1, none⟩ = some (.string nm) := L2.cell 1
  have o2 : W.cell? ⟨w.heap.size + 1, 2, none⟩ = some (.string tt) := L2.cell 2
  have o3 : W.cell? ⟨w.heap.size + 1, 3, none⟩ = some (.slice ad data.length cd) := L2.cell 3
  have z0 : W.cell? ⟨w.heap.size + 1 + 1, 0, none⟩ = some (.slice none 0 0) := L3.cell 0
  have z1 : W.cell? ⟨w.heap.size + 1 + 1, 1, none⟩ = some (.slice none 0 0) := L3.cell 1
  have z2 : W.cell? ⟨w.heap.size + 1 + 1, 2, none⟩ = some (.slice none 0 0) := L3.cell 2
  have z3 : W.cell? ⟨w.heap.size + 1 + 1, 3, none⟩ = some (.slice none 0 0) := L3.cell 3
  have z4 : W.cell? ⟨w.heap.size + 1 + 1, 4, none⟩ = some (.int .i64 0) := L3.cell 4
  have f0 := frozen_of_row W (w.heap.size + 1 + 1) 0 _ _ L3
  have f1 := frozen_of_row W (w.heap.size + 1 + 1) 1 _ _ L3
  have f2 := frozen_of_row W (w.heap.size + 1 + 1) 2 _ _ L3
  have f3 := frozen_of_row W (w.heap.size + 1 + 1) 3 _ _ L3
  have f4 := frozen_of_row W (w.heap.size + 1 + 1) 4 _ _ L3
  have HL1 := hide L1
  have HL2 := hide L2
  have HL3 := hide L3
  clear L1 L2 L3 hz
  -- what every way without a change ends with
  have END := hide (fun (code : Int) (hR : doOne D (5, nm, tt, data) = (D, code)) => on_end (w := w) (B := w.heap.size + 1 + 1) hR rfl HD.out HL3.out HA.out (by omega) hbase (fun _ => HAB.out))
  have FIND := hide (l1Find_n a2 c2 D.names nm W (by omega) HD.out.e.at)
  have GN := hide (l1GoodName_any nm W (by omega))
  rw [hok] at GN
  have HOK := hide hok
  clear hok
  have HNM := hide (show nmOk (5, nm, tt, data) from ⟨HOK.out, fun e => absurd e (by simp)⟩)
  go_wp2_with fail
  refine GN.out.mono ?_
  rintro e w2 ⟨rfl, hw2⟩
  have hw2' := hw2.symm
  subst hw2'
  clear GN
  go_wp2_with fail
  refine FIND.out.mono ?_
  rintro e w2 ⟨hfd, hw2⟩
  have hw2' := hw2.symm
  subst hw2'
  clear FIND
  rcases hfd with ⟨i, nd, hi, hin, hcell, rfl⟩ | ⟨hno, rfl⟩
  case inr =>
    have HNO := hide hno
    clear hno
    go_wp2
    exact bodyPost_ret (ret_one (w.heap.size + 1 + 1) _ _ _ _ _ _ _ rfl rfl rfl (set_disk _ _ _ _ _ HL3.out)) rfl (END.out 4 (one_missing (by simp) (by simp) HNM.out HNO.out))
  obtain ⟨k, rfl, hk, hnda⟩ := nd_at HW.out hin
  obtain ⟨be, oe, rfl, -⟩ := HD.out.e.at (by omega)
  have x1 := hcell be oe rfl
  obtain ⟨gn, rfl, hgb, hgf, hgk, hgc⟩ := HD.out.n.cells (by omega)
  obtain ⟨ai, ci, x2, x3, hbo⟩ := hgc k hk
  have HIN := hide hin
  have HNDA := hide hnda
  have HBO := hide hbo
  have hgw : gn < w.heap.size := HGW.out gn rfl
  clear hcell hgc hin hnda hbo hgk
  by_cases FP : 1000 ≤ D.pend.length
  · have HR := hide (show doOne D (5, nm, tt, data) = (D, 6) from by
      rw [one_there (by simp) (by simp) HNM.out HIN.out]
      rw [if_neg (by simp), if_neg (by simp), if_neg (by simp)]
      rw [if_pos FP])
    go_wp2
    exact bodyPost_ret (ret_one (w.heap.size + 1 + 1) _ _ _ _ _ _ _ rfl rfl rfl (set_disk _ _ _ _ _ HL3.out)) rfl (END.out 6 HR.out)
  have HR := hide (show doOne D (5, nm, tt, data) = (dirD D (5, nm, noStr, 0), 0) from by
    rw [one_there (by simp) (by simp) HNM.out HIN.out]
    rw [if_neg (by simp), if_neg (by simp), if_neg (by simp)]
    rw [if_neg FP]
    rfl)
  have hal := (Below.refl W.heap.size W).alloc (Nat.le_refl _) (.cells #[.int .i64 5, .string nm, .string noStr, .int .i64 0] 68)
  have hlow : base ≤ W.heap.size := by have := HZ.out; omega
  have DIR := hide (l1Dir_any base _ _ _ _ D 5 nm noStr 0 _ (W.alloc (.cells #[.int .i64 5, .string nm, .string noStr, .int .i64 0] 68)) (by simp; omega) (by omega) (by omega) hs1 (by simp [noStr, ByteArray.size]) (rep_remove HIN.out) (HD.out.below hal))
  have HKX := hide (HA.out.trans (Kep.of_below hal hlow))
  have M3 := hide (HL3.out.below hal HL3.out.lt)
  have M1 := HL1.out.below hal HL1.out.lt
  have r0 : (W.alloc (.cells #[.int .i64 5, .string nm, .string noStr, .int .i64 0] 68)).cell? ⟨w.heap.size, 0, none⟩ = some (.slice (some ⟨gn, 0, none⟩) D.nodes.length c1) := M1.cell 0
  have r1 : (W.alloc (.cells #[.int .i64 5, .string nm, .string noStr, .int .i64 0] 68)).cell? ⟨w.heap.size, 1, none⟩ = some (.slice (some ⟨be, oe, none⟩) D.names.length c2) := M1.cell 1
  have r2 : (W.alloc (.cells #[.int .i64 5, .string nm, .string noStr, .int .i64 0] 68)).cell? ⟨w.heap.size, 2, none⟩ = some (.slice a3 D.kept.length c3) := M1.cell 2
  have r3 : (W.alloc (.cells #[.int .i64 5, .string nm, .string noStr, .int .i64 0] 68)).cell? ⟨w.heap.size, 3, none⟩ = some (.slice a4 D.pend.length c4) := M1.cell 3
  have r4 : (W.alloc (.cells #[.int .i64 5, .string nm, .string noStr, .int .i64 0] 68)).cell? ⟨w.heap.size, 4, none⟩ = some (.int .i64 D.quota) := M1.cell 4
  have M2 := HL2.out.below hal HL2.out.lt
  have s0 : (W.alloc (.cells #[.int .i64 5, .string nm, .string noStr, .int .i64 0] 68)).cell? ⟨w.heap.size + 1, 0, none⟩ = some (.int .i64 5) := M2.cell 0
  have s2 : (W.alloc (.cells #[.int .i64 5, .string nm, .string noStr, .int .i64 0] 68)).cell? ⟨w.heap.size + 1, 2, none⟩ = some (.string tt) := M2.cell 2
  clear M1 M2 hal
  unfold noStr at *
  go_wp2_with fail
  refine DIR.out.mono ?_
  rintro e w7 ⟨y1, y2, y3, y4, rfl, hd7, hk7⟩
  obtain ⟨b1, d1, rfl⟩ := hd7.n.slice
  obtain ⟨b2, d2, rfl⟩ := hd7.e.slice
  obtain ⟨b3, d3, rfl⟩ := hd7.k.slice
  obtain ⟨b4, d4, rfl⟩ := hd7.p.slice
  have L3 := hk7.laid M3.out (by decide) (by decide)
  have k0 : w7.cell? ⟨w.heap.size + 1 + 1, 0, none⟩ = some (.slice none 0 0) := L3.cell 0
  have g0 := frozen_of_row w7 (w.heap.size + 1 + 1) 0 _ _ L3
  have k1 : w7.cell? ⟨w.heap.size + 1 + 1, 1, none⟩ = some (.slice none 0 0) := L3.cell 1
  have g1 := frozen_of_row w7 (w.heap.size + 1 + 1) 1 _ _ L3
  have k2 : w7.cell? ⟨w.heap.size + 1 + 1, 2, none⟩ = some (.slice none 0 0) := L3.cell 2
  have g2 := frozen_of_row w7 (w.heap.size + 1 + 1) 2 _ _ L3
  have k3 : w7.cell? ⟨w.heap.size + 1 + 1, 3, none⟩ = some (.slice none 0 0) := L3.cell 3
  have g3 := frozen_of_row w7 (w.heap.size + 1 + 1) 3 _ _ L3
  have k4 : w7.cell? ⟨w.heap.size + 1 + 1, 4, none⟩ = some (.int .i64 0) := L3.cell 4
  have g4 := frozen_of_row w7 (w.heap.size + 1 + 1) 4 _ _ L3
  have HL := hide L3
  have HD7 := hide hd7
  have HK7 := hide (HKX.out.trans hk7)
  clear hd7 hk7 L3 DIR z0 z1 z2 z3 z4 f0 f1 f2 f3 f4 q0 q1 q2 q3 q4 o0 o1 o2 o3
  go_wp2
  exact bodyPost_ret (ret_one (w.heap.size + 1 + 1) _ _ _ _ _ _ _ rfl rfl rfl (set_disk _ _ _ _ _ HL.out)) rfl (on_end (w := w) HR.out rfl HD7.out HL.out HK7.out (by omega) hbase (fun h => absurd rfl h))
end Go.Proofs.YtpccongphchagaaGreatDoor
namespace Go.Proofs.YtpccongphchagaaGreatDoor
open Go.RowKit
set_option linter.unusedVariables false
/-- What l1One does. -/
def OneLaw : Prop := ∀ (base : Nat) (v1 v2 v3 v4 : Value) (D : MDisk) (kd : Int) (nm tt : ByteArray) (ad : Option Addr) (data : List Nat) (cd : Nat) (w : World), base ≤ w.heap.size → Wkd D → nm.size ≤ 1048576 → tt.size ≤ 1048576 → data.length ≤ 1048576 → RowAt w ad data → Dk w base v1 v2 v3 v4 D →
    Calls Tryz.prog 18 #[.agg #[v1, v2, v3, v4, .int .i64 D.quota], .agg #[.int .i64 kd, .string nm, .string tt, .slice ad data.length cd]] w (OnPost base w (doOne D (kd, nm, tt, data)))
def CopyLaw : Prop := ∀ (v : Value) (D : MDisk) (w : World), Wkd D → DiskAt w v D → Calls Tryz.prog 17 #[v] w fun e w' => ∃ v1 v2 v3 v4, e = .returned (.agg #[v1, v2, v3, v4, .int .i64 D.quota]) ∧ Dk w' w.heap.size v1 v2 v3 v4 D ∧ Below w.heap.size w w'
/-- What DiskDo hands back. -/
def DnPost (w : World) (R : MDisk × Nat × Int) (e : Ending) (w' : World) : Prop := ∃ v1 v2 v3 v4, e = .returned (.agg #[v1, v2, v3, v4, .int .i64 R.1.quota, .int .i64 (R.2.1 : Int), .int .i64 R.2.2]) ∧ Dk w' w.heap.size v1 v2 v3 v4 R.1 ∧ Below w.heap.size w w'
theorem ret_done {fn : Func} {tmps : Array Value} {p : Tmp} (B : Nat) (W : World) (cs : Array Value) (hn : cs.size = 7) (hf : fn.results = #[.cell p 32]) (hp : tmps.getD p undef = .pointer (some ⟨B, 0, none⟩)) (hb : Laid W B cs 32) :
    (results fn tmps).run Tryz.prog W = .ok (.agg cs) W :=
  results_cell_row (P := Tryz.prog) hf _ _ B _ _ _ _ hp hb Tryz.underlying32 rfl (by rw [hn]; kernel_rfl)
def set7 (W : World) (B : Nat) (x1 x2 x3 x4 x5 x6 x7 : Value) : World := ((setD W B x1 x2 x3 x4 x5).setCell ⟨B, 5, none⟩ x6).setCell ⟨B, 6, none⟩ x7
theorem set_done {W : World} {B : Nat} {y1 y2 y3 y4 y5 y6 y7 : Value} (x1 x2 x3 x4 x5 x6 x7 : Value) (h : Laid W B #[y1, y2, y3, y4, y5, y6, y7] 32) : Laid (set7 W B x1 x2 x3 x4 x5 x6 x7) B #[x1, x2, x3, x4, x5, x6, x7] 32 := by
  have h1 : Laid (W.setCell ⟨B, 0, none⟩ x1) B #[x1, y2, y3, y4, y5, y6, y7] 32 := h.set 0 x1
  have h2 : Laid ((W.setCell ⟨B, 0, none⟩ x1).setCell ⟨B, 1, none⟩ x2) B #[x1, x2, y3, y4, y5, y6, y7] 32 := h1.set 1 x2
  have h3 : Laid (((W.setCell ⟨B, 0, none⟩ x1).setCell ⟨B, 1, none⟩ x2).setCell ⟨B, 2, none⟩ x3) B #[x1, x2, x3, y4, y5, y6, y7] 32 := h2.set 2 x3
  have h4 : Laid ((((W.setCell ⟨B, 0, none⟩ x1).setCell ⟨B, 1, none⟩ x2).setCell ⟨B, 2, none⟩ x3).setCell ⟨B, 3, none⟩ x4) B #[x1, x2, x3, x4, y5, y6, y7] 32 := h3.set 3 x4
  have h5 : Laid (setD W B x1 x2 x3 x4 x5) B #[x1, x2, x3, x4, x5, y6, y7] 32 := h4.set 4 x5
  have h6 : Laid ((setD W B x1 x2 x3 x4 x5).setCell ⟨B, 5, none⟩ x6) B #[x1, x2, x3, x4, x5, x6, y7] 32 := h5.set 5 x6
  exact h6.set 6 x7
theorem set7_fr (W : World) (B : Nat) (x1 x2 x3 x4 x5 x6 x7 : Value) : Fr (fun g => g = B) W (set7 W B x1 x2 x3 x4 x5 x6 x7) := by
  have h0 : (fun g => g = B) B := rfl
  exact ((setD_fr W B x1 x2 x3 x4 x5).set (u := x6) (j := 5) h0).set (u := x7) (j := 6) h0
/-- What is handed back. -/
theorem done_end {w W : World} {B : Nat} {v1 v2 v3 v4 y1 y2 y3 y4 y5 y6 y7 : Value} {C : MDisk} {R : MDisk × Nat × Int} {n : Nat} {code q : Int} (hR : R = (C, n, code)) (hq : q = C.quota) (hd : Dk W w.heap.size v1 v2 v3 v4 C) (hL : Laid W B #[y1, y2, y3, y4, y5, y6, y7] 32) (hb : Below w.heap.size w W) (hB : w.heap.size ≤ B) :
    DnPost w R (.returned (.agg #[v1, v2, v3, v4, .int .i64 q, .int .i64 (n : Int), .int .i64 code])) (set7 W B v1 v2 v3 v4 (.int .i64 q) (.int .i64 (n : Int)) (.int .i64 code)) := by
  subst hR
  subst hq
  exact ⟨v1, v2, v3, v4, rfl, hd.frk (set7_fr _ _ _ _ _ _ _ _ _) (fun g e => by obtain rfl : g = B := e; exact ⟨_, hL.kind, by decide⟩), hb.trans ((set7_fr _ _ _ _ _ _ _ _ _).below (fun g e => by omega) hb.size)⟩
/-- How the loop of spec.DiskDo stands. -/
structure DoL (w W : World) (o : Nat) (v1 v2 v3 v4 : Value) (n : Nat) (C : MDisk) : Prop where
  box : Laid W o #[v1, v2, v3, v4, .int .i64 C.quota, .int .i64 (n : Int), .int .i64 0] 32
  dk : Dk W w.heap.size v1 v2 v3 v4 C
  wk : Wkd C
  res : Laid W (w.heap.size + 1) #[.slice none 0 0, .slice none 0 0, .slice none 0 0, .slice none 0 0, .int .i64 0, .int .i64 0, .int .i64 0] 32
  bel : Below w.heap.size w W
  lo : w.heap.size + 1 < o
set_option maxHeartbeats 1000000 in
theorem dol_next {w W w2 : World} {o n : Nat} {v1 v2 v3 v4 y1 y2 y3 y4 : Value} {C C' : MDisk} (h : DoL w W o v1 v2 v3 v4 n C) (hk : Kep w.heap.size W w2) (hd : Dk w2 w.heap.size y1 y2 y3 y4 C') (hw : Wkd C') (hq : C'.quota = C.quota) (cs : Array Value) (t : TypeId) :
    DoL w (((((((w2.setCell ⟨o, 0, none⟩ y1).setCell ⟨o, 1, none⟩ y2).setCell ⟨o, 2, none⟩ y3).setCell ⟨o, 3, none⟩ y4).setCell ⟨o, 4, none⟩ (.int .i64 C.quota)).setCell ⟨o, 5, none⟩ (.int .i64 ((n : Int) + 1))).alloc (.cells cs t)) o y1 y2 y3 y4 (n + 1) C' := by
  have b2 := hk.laid h.box (by decide) (by decide)
  have r2 := hk.laid h.res (by decide) (by decide)
  have f : Fr (fun g => g = o) w2 ((((((w2.setCell ⟨o, 0, none⟩ y1).setCell ⟨o, 1, none⟩ y2).setCell ⟨o, 2, none⟩ y3).setCell ⟨o, 3, none⟩ y4).setCell ⟨o, 4, none⟩ (.int .i64 C.quota)).setCell ⟨o, 5, none⟩ (.int .i64 ((n : Int) + 1))) := by
    have h0 : (fun g => g = o) o := rfl
    exact (setD_fr w2 o y1 y2 y3 y4 (.int .i64 C.quota)).set (u := .int .i64 ((n : Int) + 1)) (j := 5) h0
  have hal := (Below.refl ((((((w2.setCell ⟨o, 0, none⟩ y1).setCell ⟨o, 1, none⟩ y2).setCell ⟨o, 2, none⟩ y3).setCell ⟨o, 3, none⟩ y4).setCell ⟨o, 4, none⟩ (.int .i64 C.quota)).setCell ⟨o, 5, none⟩ (.int .i64 ((n : Int) + 1))).heap.size ((((((w2.setCell ⟨o, 0, none⟩ y1).setCell ⟨o, 1, none⟩ y2).setCell ⟨o, 2, none⟩ y3).setCell ⟨o, 3, none⟩ y4).setCell ⟨o, 4, none⟩ (.int .i64 C.quota)).setCell ⟨o, 5, none⟩ (.int .i64 ((n : Int) + 1)))).alloc (Nat.le_refl _) (.cells cs t)
  have hB := h.bel.trans hk.bel
  have d3 := hd.frk f (fun g e => by obtain rfl : g = o := e; exact ⟨_, b2.kind, by decide⟩)
  have r3 : Laid ((((((w2.setCell ⟨o, 0, none⟩ y1).setCell ⟨o, 1, none⟩ y2).setCell ⟨o, 2, none⟩ y3).setCell ⟨o, 3, none⟩ y4).setCell ⟨o, 4, none⟩ (.int .i64 C.quota)).setCell ⟨o, 5, none⟩ (.int .i64 ((n : Int) + 1))) (w.heap.size + 1) #[.slice none 0 0, .slice none 0 0, .slice none 0 0, .slice none 0 0, .int .i64 0, .int .i64 0, .int .i64 0] 32 := (f.block _ r2.lt (fun e => by have := h.lo; omega)).trans r2
  have hB3 := hB.trans (f.below (fun g e => by have := h.lo; omega) hB.size)
  have h1 : Laid (w2.setCell ⟨o, 0, none⟩ y1) o #[y1, v2, v3, v4, .int .i64 C.quota, .int .i64 (n : Int), .int .i64 0] 32 := b2.set 0 y1
  have h2 : Laid ((w2.setCell ⟨o, 0, none⟩ y1).setCell ⟨o, 1, none⟩ y2) o #[y1, y2, v3, v4, .int .i64 C.quota, .int .i64 (n : Int), .int .i64 0] 32 := h1.set 1 y2
  have h3 : Laid (((w2.setCell ⟨o, 0, none⟩ y1).setCell ⟨o, 1, none⟩ y2).setCell ⟨o, 2, none⟩ y3) o #[y1, y2, y3, v4, .int .i64 C.quota, .int .i64 (n : Int), .int .i64 0] 32 := h2.set 2 y3
  have h4 : Laid ((((w2.setCell ⟨o, 0, none⟩ y1).setCell ⟨o, 1, none⟩ y2).setCell ⟨o, 2, none⟩ y3).setCell ⟨o, 3, none⟩ y4) o #[y1, y2, y3, y4, .int .i64 C.quota, .int .i64 (n : Int), .int .i64 0] 32 := h3.set 3 y4
  have h5 : Laid (((((w2.setCell ⟨o, 0, none⟩ y1).setCell ⟨o, 1, none⟩ y2).setCell ⟨o, 2, none⟩ y3).setCell ⟨o, 3, none⟩ y4).setCell ⟨o, 4, none⟩ (.int .i64 C.quota)) o #[y1, y2, y3, y4, .int .i64 C.quota, .int .i64 (n : Int), .int .i64 0] 32 := h4.set 4 (.int .i64 C.quota)
  have h6 : Laid ((((((w2.setCell ⟨o, 0, none⟩ y1).setCell ⟨o, 1, none⟩ y2).setCell ⟨o, 2, none⟩ y3).setCell ⟨o, 3, none⟩ y4).setCell ⟨o, 4, none⟩ (.int .i64 C.quota)).setCell ⟨o, 5, none⟩ (.int .i64 ((n : Int) + 1))) o #[y1, y2, y3, y4, .int .i64 C.quota, .int .i64 ((n : Int) + 1), .int .i64 0] 32 := h5.set 5 (.int .i64 ((n : Int) + 1))
  have h7 : Laid ((((((w2.setCell ⟨o, 0, none⟩ y1).setCell ⟨o, 1, none⟩ y2).setCell ⟨o, 2, none⟩ y3).setCell ⟨o, 3, none⟩ y4).setCell ⟨o, 4, none⟩ (.int .i64 C.quota)).setCell ⟨o, 5, none⟩ (.int .i64 ((n : Int) + 1))) o #[y1, y2, y3, y4, .int .i64 C'.quota, .int .i64 ((n + 1 : Nat) : Int), .int .i64 0] 32 := by
    rw [hq, show ((n + 1 : Nat) : Int) = (n : Int) + 1 from by omega]
    exact h6
  clear h1 h2 h3 h4 h5 h6 f b2 r2
  generalize ((((((w2.setCell ⟨o, 0, none⟩ y1).setCell ⟨o, 1, none⟩ y2).setCell ⟨o, 2, none⟩ y3).setCell ⟨o, 3, none⟩ y4).setCell ⟨o, 4, none⟩ (.int .i64 C.quota)).setCell ⟨o, 5, none⟩ (.int .i64 ((n : Int) + 1))) = X at *
  exact ⟨h7.below hal h7.lt, d3.below hal, hw, r3.below hal r3.lt, hB3.trans (hal.mono hB3.size), h.lo⟩
/-- Where an operation has failed. -/
theorem done_fail {w w5 : World} {o k : Nat} {v1 v2 v3 v4 x1 x2 x3 x4 x5 x6 x7 : Value} {C : MDisk} {R : MDisk × Nat × Int} {code : Int} {u : Obj} (hR : R = (C, k, code)) (hd : Dk w5 w.heap.size v1 v2 v3 v4 C) (B5 : Laid w5 o #[x1, x2, x3, x4, x5, x6, x7] 32) (R5 : Laid w5 (w.heap.size + 1) #[.slice none 0 0, .slice none 0 0, .slice none 0 0, .slice none 0 0, .int .i64 0, .int .i64 0, .int .i64 0] 32) (hb : Below w.heap.size w w5) (hlo : w.heap.size + 1 < o) :
    Laid ((set7 (w5.setCell ⟨o, 6, none⟩ (.int .i64 code)) (w.heap.size + 1) v1 v2 v3 v4 (.int .i64 C.quota) (.int .i64 (k : Int)) (.int .i64 code)).alloc u) (w.heap.size + 1) #[v1, v2, v3, v4, .int .i64 C.quota, .int .i64 (k : Int), .int .i64 code] 32 ∧
    DnPost w R (.returned (.agg #[v1, v2, v3, v4, .int .i64 C.quota, .int .i64 (k : Int), .int .i64 code])) ((set7 (w5.setCell ⟨o, 6, none⟩ (.int .i64 code)) (w.heap.size + 1) v1 v2 v3 v4 (.int .i64 C.quota) (.int .i64 (k : Int)) (.int .i64 code)).alloc u) := by
  have d1 := hd.box B5 (by decide) 6 (.int .i64 code)
  have R1 := R5.other (p := ⟨o, 6, none⟩) (by simp; omega) (.int .i64 code)
  have b1 : Below w.heap.size w (w5.setCell ⟨o, 6, none⟩ (.int .i64 code)) := hb.setCell (by simp; omega) _
  obtain ⟨y1, y2, y3, y4, e, d2, b2⟩ := done_end (w := w) hR rfl d1 R1 b1 (by omega)
  have L2 := set_done v1 v2 v3 v4 (.int .i64 C.quota) (.int .i64 (k : Int)) (.int .i64 code) R1
  generalize set7 (w5.setCell ⟨o, 6, none⟩ (.int .i64 code)) (w.heap.size + 1) v1 v2 v3 v4 (.int .i64 C.quota) (.int .i64 (k : Int)) (.int .i64 code) = X at d2 b2 L2 ⊢
  have hal := (Below.refl X.heap.size X).alloc (Nat.le_refl _) u
  exact ⟨L2.below hal L2.lt, y1, y2, y3, y4, e, d2.below hal, b2.trans (hal.mono b2.size)⟩
set_option maxRecDepth 20000 in
set_option maxHeartbeats 4000000 in
theorem specDo_any (ONE : OneLaw) (COPY : CopyLaw) (v : Value) (D : MDisk) (ao : Option Addr) (co : Nat) (ops : List OpV) (w : World) (hM : Modest D) (hd : DiskAt w v D) (hol : ops.length ≤ 1048576) (hos : ∀ o ∈ ops, o.2.1.size ≤ 1048576 ∧ o.2.2.1.size ≤ 1048576 ∧ o.2.2.2.length ≤ 1048576) (ho : OpsAt w ao ops) :
    Calls Tryz.prog 5 #[v, .slice ao ops.length co] w (DnPost w (doOf D ops)) := by
  have HAT := hide (fun w' (hb : Below w.heap.size w w') => hd.below hb)
  have HOP := hide (fun w' (hb : Below w.heap.size w w') => ho.below hb)
  obtain ⟨a1, m1, c1, a2, m2, c2, a3, m3, c3, a4, m4, c4, q, hv⟩ := hd.shape
  clear hd ho
  subst hv
  obtain ⟨L1, L2, hA, hz⟩ := boxes2 w #[.slice a1 m1 c1, .slice a2 m2 c2, .slice a3 m3 c3, .slice a4 m4 c4, .int .i64 q] #[.slice none 0 0, .slice none 0 0, .slice none 0 0, .slice none 0 0, .int .i64 0, .int .i64 0, .int .i64 0] 27 32
  have HM := hide hM
  have HOS := hide hos
  have H1 := hide ONE
  have HCP := hide COPY
  clear hM hos ONE COPY
  go_enter Tryz.func5, Tryz.ntmps5
  go_upto_region 1 with fail
  generalize (w.alloc (.cells #[.slice a1 m1 c1, .slice a2 m2 c2, .slice a3 m3 c3, .slice a4 m4 c4, .int .i64 q] 27)).alloc (.cells #[.slice none 0 0, .slice none 0 0, .slice none 0 0, .slice none 0 0, .int .i64 0, .int .i64 0, .int .i64 0] 32) = w0 at L1 L2 hA hz ⊢
  have HR0 := hide (fun (W : World) (hb : Below w.heap.size w W) (h : ¬ (ops.length ≤ 2000 ∧ ValidD D)) (hL : Laid W (w.heap.size + 1) #[.slice none 0 0, .slice none 0 0, .slice none 0 0, .slice none 0 0, .int .i64 0, .int .i64 0, .int .i64 0] 32) => done_end (w := w) (n := 0) (doOf_no h) rfl (show Dk W w.heap.size (.slice none 0 0) (.slice none 0 0) (.slice none 0 0) (.slice none 0 0) noDisk from ⟨(OwnNA.nil _ _).own, World.ownsRow_nil _ _ _ 2, World.ownsRow_nil _ _ _ 2, World.ownsRow_nil _ _ _ 4⟩) hL hb (by omega))
  have z0 : w0.cell? ⟨w.heap.size + 1, 0, none⟩ = some (.slice none 0 0) := L2.cell 0
  have f0 := frozen_of_row w0 (w.heap.size + 1) 0 _ _ L2
  have z1 : w0.cell? ⟨w.heap.size + 1, 1, none⟩ = some (.slice none 0 0) := L2.cell 1
  have f1 := frozen_of_row w0 (w.heap.size + 1) 1 _ _ L2
  have z2 : w0.cell? ⟨w.heap.size + 1, 2, none⟩ = some (.slice none 0 0) := L2.cell 2
  have f2 := frozen_of_row w0 (w.heap.size + 1) 2 _ _ L2
  have z3 : w0.cell? ⟨w.heap.size + 1, 3, none⟩ = some (.slice none 0 0) := L2.cell 3
  have f3 := frozen_of_row w0 (w.heap.size + 1) 3 _ _ L2
  have z4 : w0.cell? ⟨w.heap.size + 1, 4, none⟩ = some (.int .i64 0) := L2.cell 4
  have f4 := frozen_of_row w0 (w.heap.size + 1) 4 _ _ L2
  have z5 : w0.cell? ⟨w.heap.size + 1, 5, none⟩ = some (.int .i64 0) := L2.cell 5
  have f5 := frozen_of_row w0 (w.heap.size + 1) 5 _ _ L2
  have z6 : w0.cell? ⟨w.heap.size + 1, 6, none⟩ = some (.int .i64 0) := L2.cell 6
  have f6 := frozen_of_row w0 (w.heap.size + 1) 6 _ _ L2
  have r0 : w0.cell? ⟨w.heap.size, 0, none⟩ = some (.slice a1 m1 c1) := L1.cell 0
  have r1 : w0.cell? ⟨w.heap.size, 1, none⟩ = some (.slice a2 m2 c2) := L1.cell 1
  have r2 : w0.cell? ⟨w.heap.size, 2, none⟩ = some (.slice a3 m3 c3) := L1.cell 2
  have r3 : w0.cell? ⟨w.heap.size, 3, none⟩ = some (.slice a4 m4 c4) := L1.cell 3
  have r4 : w0.cell? ⟨w.heap.size, 4, none⟩ = some (.int .i64 q) := L1.cell 4
  have HL2 := hide L2
  have HA := hide hA
  by_cases h2 : 2000 < ops.length
  · go_wp2
    exact bodyPost_ret (ret_done (w.heap.size + 1) _ _ rfl rfl rfl (set_done _ _ _ _ _ _ _ HL2.out)) rfl (HR0.out w0 HA.out (fun h => by omega) HL2.out)
  go_wp2_with fail
  refine (specValid_v (HAT.out w0 hA) HM.out).mono ?_
  rintro e w1 ⟨r, rfl, hrr, hb1⟩
  have hA1 := hA.trans (hb1.mono hA.size)
  have L1' := L1.below hb1 L1.lt
  have L2' := L2.below hb1 L2.lt
  have hz1 : w.heap.size + 2 ≤ w1.heap.size := by have := hb1.size; omega
  clear r0 r1 r2 r3 r4 z0 f0 z1 f1 z2 f2 z3 f3 z4 f4 z5 f5 z6 f6
  have z0a : w1.cell? ⟨w.heap.size + 1, 0, none⟩ = some (.slice none 0 0) := L2'.cell 0
  have f0a := frozen_of_row w1 (w.heap.size + 1) 0 _ _ L2'
  have z1a : w1.cell? ⟨w.heap.size + 1, 1, none⟩ = some (.slice none 0 0) := L2'.cell 1
  have f1a := frozen_of_row w1 (w.heap.size + 1) 1 _ _ L2'
  have z2a : w1.cell? ⟨w.heap.size + 1, 2, none⟩ = some (.slice none 0 0) := L2'.cell 2
  have f2a := frozen_of_row w1 (w.heap.size + 1) 2 _ _ L2'
  have z3a : w1.cell? ⟨w.heap.size + 1, 3, none⟩ = some (.slice none 0 0) := L2'.cell 3
  have f3a := frozen_of_row w1 (w.heap.size + 1) 3 _ _ L2'
  have z4a : w1.cell? ⟨w.heap.size + 1, 4, none⟩ = some (.int .i64 0) := L2'.cell 4
  have f4a := frozen_of_row w1 (w.heap.size + 1) 4 _ _ L2'
  have z5a : w1.cell? ⟨w.heap.size + 1, 5, none⟩ = some (.int .i64 0) := L2'.cell 5
  have f5a := frozen_of_row w1 (w.heap.size + 1) 5 _ _ L2'
  have z6a : w1.cell? ⟨w.heap.size + 1, 6, none⟩ = some (.int .i64 0) := L2'.cell 6
  have f6a := frozen_of_row w1 (w.heap.size + 1) 6 _ _ L2'
  have HL2a := hide L2'
  have HA1 := hide hA1
  have HV := hide hrr
  have t0 : w1.cell? ⟨w.heap.size, 0, none⟩ = some (.slice a1 m1 c1) := L1'.cell 0
  have t1 : w1.cell? ⟨w.heap.size, 1, none⟩ = some (.slice a2 m2 c2) := L1'.cell 1
  have t2 : w1.cell? ⟨w.heap.size, 2, none⟩ = some (.slice a3 m3 c3) := L1'.cell 2
  have t3 : w1.cell? ⟨w.heap.size, 3, none⟩ = some (.slice a4 m4 c4) := L1'.cell 3
  have t4 : w1.cell? ⟨w.heap.size, 4, none⟩ = some (.int .i64 q) := L1'.cell 4
  clear hA hb1 L1 L2 L1' L2' hrr hA1
  cases r with
  | false =>
    go_wp2
    exact bodyPost_ret (ret_done (w.heap.size + 1) _ _ rfl rfl rfl (set_done _ _ _ _ _ _ _ HL2a.out)) rfl (HR0.out w1 HA1.out (fun h => by have := HV.out.2 h.2; cases this) HL2a.out)
  | true =>
    have HVD := hide (HV.out.1 rfl)
    have HWK := hide (wkd_of HVD.out HM.out)
    have hcall := HCP.out _ D w1 HWK.out (HAT.out w1 HA1.out)
    have HC := hide hcall
    clear hcall
    go_wp2_with fail
    refine HC.out.mono ?_
    rintro e w2 ⟨y1, y2, y3, y4, rfl, hdk2, hb2⟩
    obtain ⟨b1, d1, rfl⟩ := hdk2.n.slice
    obtain ⟨b2, d2, rfl⟩ := hdk2.e.slice
    obtain ⟨b3, d3, rfl⟩ := hdk2.k.slice
    obtain ⟨b4, d4, rfl⟩ := hdk2.p.slice
    have hle : w.heap.size ≤ w1.heap.size := by omega
    have hdkm : Dk w2 w.heap.size (.slice b1 D.nodes.length d1) (.slice b2 D.names.length d2) (.slice b3 D.kept.length d3) (.slice b4 D.pend.length d4) D := ⟨hdk2.n.mono hle, hdk2.e.mono hle, hdk2.k.mono hle, hdk2.p.mono hle⟩
    have hA2 := HA1.out.trans (hb2.mono HA1.out.size)
    have hal := (Below.refl w2.heap.size w2).alloc (Nat.le_refl _) (.cells #[.slice b1 D.nodes.length d1, .slice b2 D.names.length d2, .slice b3 D.kept.length d3, .slice b4 D.pend.length d4, .int .i64 D.quota, .int .i64 0, .int .i64 0] 32)
    have R2 := HL2a.out.below hb2 HL2a.out.lt
    have HS := hide (show DoL w (w2.alloc (.cells #[.slice b1 D.nodes.length d1, .slice b2 D.names.length d2, .slice b3 D.kept.length d3, .slice b4 D.pend.length d4, .int .i64 D.quota, .int .i64 0, .int .i64 0] 32)) w2.heap.size (.slice b1 D.nodes.length d1) (.slice b2 D.names.length d2) (.slice b3 D.kept.length d3) (.slice b4 D.pend.length d4) 0 D from ⟨Laid.new w2 _ _, hdkm.below hal, HWK.out, R2.below hal R2.lt, hA2.trans (hal.mono hA2.size), by have := hb2.size; omega⟩)
    have HDO := hide (doOf_yes (D := D) (ops := ops) ⟨by omega, HVD.out⟩)
    clear hdk2 hdkm hA2 hal R2 hb2 HC z0a f0a z1a f1a z2a f2a z3a f3a z4a f4a z5a f5a z6a f6a t0 t1 t2 t3 t4
    go_wp2
    generalize w2.alloc (.cells #[.slice b1 D.nodes.length d1, .slice b2 D.names.length d2, .slice b3 D.kept.length d3, .slice b4 D.pend.length d4, .int .i64 D.quota, .int .i64 0, .int .i64 0] 32) = W3 at HS ⊢
    generalize w2.heap.size = o at HS ⊢
    go_loopw [7, 8, 9, 24] (fun _ _ _ i wv => ∃ (k : Nat) (v1 v2 v3 v4 : Value) (C : MDisk), k ≤ ops.length ∧ i = .int .i64 (k : Int) ∧ DoL w wv o v1 v2 v3 v4 k C ∧ RunAt D ops k C) (fun _ _ _ i _ => ops.length - (intOf i).toNat)
    case atStart => exact ⟨0, _, _, _, _, D, Nat.zero_le _, rfl, HS.out, run_start D ops⟩
    case round =>
      obtain ⟨k, v1, v2, v3, v4, C, hk, rfl, hL, hrun⟩ := hrel
      obtain ⟨x1, e1, rfl⟩ := hL.dk.n.slice
      obtain ⟨x2, e2, rfl⟩ := hL.dk.e.slice
      obtain ⟨x3, e3, rfl⟩ := hL.dk.k.slice
      obtain ⟨x4, e4, rfl⟩ := hL.dk.p.slice
      have HL := hide hL
      have HRUN := hide hrun
      have p0 : wr.cell? ⟨o, 0, none⟩ = some (.slice x1 C.nodes.length e1) := hL.box.cell 0
      have p1 : wr.cell? ⟨o, 1, none⟩ = some (.slice x2 C.names.length e2) := hL.box.cell 1
      have p2 : wr.cell? ⟨o, 2, none⟩ = some (.slice x3 C.kept.length e3) := hL.box.cell 2
      have p3 : wr.cell? ⟨o, 3, none⟩ = some (.slice x4 C.pend.length e4) := hL.box.cell 3
      have p4 : wr.cell? ⟨o, 4, none⟩ = some (.int .i64 C.quota) := hL.box.cell 4
      have p5 : wr.cell? ⟨o, 5, none⟩ = some (.int .i64 (k : Int)) := hL.box.cell 5
      have p6 : wr.cell? ⟨o, 6, none⟩ = some (.int .i64 0) := hL.box.cell 6
      by_cases hlt : k < ops.length
      · obtain ⟨bo, oo, rfl, hco⟩ := (HOP.out wr hL.bel) (by omega)
        obtain ⟨ai, ci, s0, s1, s2, s3, hrow⟩ := hco k hlt
        obtain ⟨hz1, hz2, hz3⟩ := HOS.out _ (List.getElem_mem hlt)
        have HN := hide (fun h => run_next HRUN.out hlt h)
        have HT := hide (fun h => run_stop HRUN.out hlt h)
        have HB := hide (fun (h : (doOne C ops[k]).2 ≠ 0) => one_bad h)
        have HQ := hide (one_quota C ops[k])
        have HWN := hide (doOne_wkd ops[k] HL.out.wk)
        generalize ops[k] = op at s0 s1 s2 s3 hrow hz1 hz2 hz3 HN HT HB HQ HWN
        obtain ⟨kd, nm, tt, data⟩ := op
        simp only at s0 s1 s2 s3 hrow hz1 hz2 hz3
        have hal := (Below.refl wr.heap.size wr).alloc (Nat.le_refl _) (.cells #[.int .i64 kd, .string nm, .string tt, .slice ai data.length ci] 39)
        have hbw : w.heap.size ≤ (wr.alloc (.cells #[.int .i64 kd, .string nm, .string tt, .slice ai data.length ci] 39)).heap.size := Nat.le_trans hL.bel.size hal.size
        have CALL := hide (H1.out w.heap.size _ _ _ _ C kd nm tt ai data ci _ hbw hL.wk hz1 hz2 hz3 (hrow.below hal) (hL.dk.below hal))
        have HAL := hide hal
        have HKA := hide (Kep.of_below (base := w.heap.size) hal hL.bel.size)
        have ba := hL.box.below hal hL.box.lt
        have p0a : (wr.alloc (.cells #[.int .i64 kd, .string nm, .string tt, .slice ai data.length ci] 39)).cell? ⟨o, 0, none⟩ = some (.slice x1 C.nodes.length e1) := ba.cell 0
        have p1a : (wr.alloc (.cells #[.int .i64 kd, .string nm, .string tt, .slice ai data.length ci] 39)).cell? ⟨o, 1, none⟩ = some (.slice x2 C.names.length e2) := ba.cell 1
        have p2a : (wr.alloc (.cells #[.int .i64 kd, .string nm, .string tt, .slice ai data.length ci] 39)).cell? ⟨o, 2, none⟩ = some (.slice x3 C.kept.length e3) := ba.cell 2
        have p3a : (wr.alloc (.cells #[.int .i64 kd, .string nm, .string tt, .slice ai data.length ci] 39)).cell? ⟨o, 3, none⟩ = some (.slice x4 C.pend.length e4) := ba.cell 3
        have p4a : (wr.alloc (.cells #[.int .i64 kd, .string nm, .string tt, .slice ai data.length ci] 39)).cell? ⟨o, 4, none⟩ = some (.int .i64 C.quota) := ba.cell 4
        clear hco hrow hal hbw ba hL hrun p0 p1 p2 p3 p4 p5 p6
        generalize hOne : doOne C (kd, nm, tt, data) = R at CALL HN HT HB HQ HWN
        obtain ⟨C', code⟩ := R
        clear hOne
        go_wp2_with fail
        generalize wr.alloc (.cells #[.int .i64 kd, .string nm, .string tt, .slice ai data.length ci] 39) = W4 at CALL HKA HAL p0a p1a p2a p3a p4a ⊢
        refine CALL.out.mono ?_
        rintro e w5 ⟨y1, y2, y3, y4, rfl, hd5, hk5, hx5⟩
        obtain ⟨g1, h1, rfl⟩ := hd5.n.slice
        obtain ⟨g2, h2, rfl⟩ := hd5.e.slice
        obtain ⟨g3, h3, rfl⟩ := hd5.k.slice
        obtain ⟨g4, h4, rfl⟩ := hd5.p.slice
        have hk := HKA.out.trans hk5
        have B5 := hk.laid HL.out.box (by decide) (by decide)
        have R5 := hk.laid HL.out.res (by decide) (by decide)
        have HD5 := hide hd5
        have HK5 := hide hk
        have HX5 := hide hx5
        have b0 : w5.cell? ⟨o, 0, none⟩ = some (.slice x1 C.nodes.length e1) := B5.cell 0
        have b1' : w5.cell? ⟨o, 1, none⟩ = some (.slice x2 C.names.length e2) := B5.cell 1
        have b2' : w5.cell? ⟨o, 2, none⟩ = some (.slice x3 C.kept.length e3) := B5.cell 2
        have b3' : w5.cell? ⟨o, 3, none⟩ = some (.slice x4 C.pend.length e4) := B5.cell 3
        have b4' : w5.cell? ⟨o, 4, none⟩ = some (.int .i64 C.quota) := B5.cell 4
        have b5' : w5.cell? ⟨o, 5, none⟩ = some (.int .i64 (k : Int)) := B5.cell 5
        have b6' : w5.cell? ⟨o, 6, none⟩ = some (.int .i64 0) := B5.cell 6
        have fz0 := frozen_of_row w5 o 0 _ _ B5
        have fz1 := frozen_of_row w5 o 1 _ _ B5
        have fz2 := frozen_of_row w5 o 2 _ _ B5
        have fz3 := frozen_of_row w5 o 3 _ _ B5
        have fz4 := frozen_of_row w5 o 4 _ _ B5
        have fz5 := frozen_of_row w5 o 5 _ _ B5
        have fz6 := frozen_of_row w5 o 6 _ _ B5
        have olt := B5.lt
        have hq' : C'.quota = C.quota := HQ.out
        have hro : ¬ w.heap.size + 1 = o := by have := HL.out.lo; omega
        have hro' : ¬ o = w.heap.size + 1 := by omega
        simp only [hq']
        by_cases hc0 : code = 0
        · subst hc0
          have HNX := hide (dol_next HL.out HK5.out HD5.out HWN.out HQ.out #[.slice g1 C'.nodes.length h1, .slice g2 C'.names.length h2, .slice g3 C'.kept.length h3, .slice g4 C'.pend.length h4, .int .i64 C.quota] 27)
          have HNR := hide (HN.out rfl)
          clear hd5 hk5 hx5 hk B5 R5 CALL HT HB p0a p1a p2a p3a p4a hq'
          go_wp2
          go_roundw
          case rel => exact ⟨k + 1, _, _, _, _, C', by omega, by go_num, HNX.out, HNR.out⟩
          case measure => simp [intOf]; omega
        · have hbx := HX5.out hc0
          have HBX := hide (HAL.out.trans (hbx.mono HAL.out.size))
          have HRS := hide (HT.out hc0)
          have HDR := hide (HL.out.dk.below HBX.out)
          have HBW := hide (HL.out.bel.trans (HBX.out.mono HL.out.bel.size))
          have L6 := B5.set 6 (.int .i64 code)
          have RR := R5.other (p := ⟨o, 6, none⟩) (by simpa using hro) (.int .i64 code)
          have zr0 : w5.cell? ⟨w.heap.size + 1, 0, none⟩ = some (.slice none 0 0) := R5.cell 0
          have fr0 := frozen_of_row w5 (w.heap.size + 1) 0 _ _ R5
          have zr1 : w5.cell? ⟨w.heap.size + 1, 1, none⟩ = some (.slice none 0 0) := R5.cell 1
          have fr1 := frozen_of_row w5 (w.heap.size + 1) 1 _ _ R5
          have zr2 : w5.cell? ⟨w.heap.size + 1, 2, none⟩ = some (.slice none 0 0) := R5.cell 2
          have fr2 := frozen_of_row w5 (w.heap.size + 1) 2 _ _ R5
          have zr3 : w5.cell? ⟨w.heap.size + 1, 3, none⟩ = some (.slice none 0 0) := R5.cell 3
          have fr3 := frozen_of_row w5 (w.heap.size + 1) 3 _ _ R5
          have zr4 : w5.cell? ⟨w.heap.size + 1, 4, none⟩ = some (.int .i64 0) := R5.cell 4
          have fr4 := frozen_of_row w5 (w.heap.size + 1) 4 _ _ R5
          have zr5 : w5.cell? ⟨w.heap.size + 1, 5, none⟩ = some (.int .i64 0) := R5.cell 5
          have fr5 := frozen_of_row w5 (w.heap.size + 1) 5 _ _ R5
          have zr6 : w5.cell? ⟨w.heap.size + 1, 6, none⟩ = some (.int .i64 0) := R5.cell 6
          have fr6 := frozen_of_row w5 (w.heap.size + 1) 6 _ _ R5
          have HB5 := hide B5
          have HR5 := hide R5
          have rlt := R5.lt
          clear hd5 hk5 hx5 hk B5 R5 CALL HN HB p0a p1a p2a p3a p4a hq' hbx L6 RR
          have HFIN := hide (done_fail (u := .cells #[.slice g1 C'.nodes.length h1, .slice g2 C'.names.length h2, .slice g3 C'.kept.length h3, .slice g4 C'.pend.length h4, .int .i64 C.quota] 27) (HDO.out.trans HRS.out) HDR.out HB5.out HR5.out HBW.out HL.out.lo)
          go_wp2
          exact bodyPost_ret (ret_done (w.heap.size + 1) _ _ rfl rfl rfl HFIN.out.1) rfl HFIN.out.2
      · have hke : k = ops.length := by omega
        subst hke
        have HR := hide (HDO.out.trans (run_all HRUN.out))
        have zr0 : wr.cell? ⟨w.heap.size + 1, 0, none⟩ = some (.slice none 0 0) := hL.res.cell 0
        have fr0 := frozen_of_row wr (w.heap.size + 1) 0 _ _ hL.res
        have zr1 : wr.cell? ⟨w.heap.size + 1, 1, none⟩ = some (.slice none 0 0) := hL.res.cell 1
        have fr1 := frozen_of_row wr (w.heap.size + 1) 1 _ _ hL.res
        have zr2 : wr.cell? ⟨w.heap.size + 1, 2, none⟩ = some (.slice none 0 0) := hL.res.cell 2
        have fr2 := frozen_of_row wr (w.heap.size + 1) 2 _ _ hL.res
        have zr3 : wr.cell? ⟨w.heap.size + 1, 3, none⟩ = some (.slice none 0 0) := hL.res.cell 3
        have fr3 := frozen_of_row wr (w.heap.size + 1) 3 _ _ hL.res
        have zr4 : wr.cell? ⟨w.heap.size + 1, 4, none⟩ = some (.int .i64 0) := hL.res.cell 4
        have fr4 := frozen_of_row wr (w.heap.size + 1) 4 _ _ hL.res
        have zr5 : wr.cell? ⟨w.heap.size + 1, 5, none⟩ = some (.int .i64 0) := hL.res.cell 5
        have fr5 := frozen_of_row wr (w.heap.size + 1) 5 _ _ hL.res
        have zr6 : wr.cell? ⟨w.heap.size + 1, 6, none⟩ = some (.int .i64 0) := hL.res.cell 6
        have fr6 := frozen_of_row wr (w.heap.size + 1) 6 _ _ hL.res
        clear hL hrun hlt hk
        go_wp2
        exact bodyPost_ret (ret_done (w.heap.size + 1) _ _ rfl rfl rfl (set_done _ _ _ _ _ _ _ HL.out.res)) rfl (done_end (w := w) HR.out rfl HL.out.dk HL.out.res HL.out.bel (by omega))
end Go.Proofs.YtpccongphchagaaGreatDoor
namespace Go.Proofs.YtpccongphchagaaGreatDoor
open Go.RowKit
theorem run_enterE (v : Value) (w : World) : (callFunc 46 #[v]).run Tryz.prog w = .ok (.enter 46 #[v]) w := by
  kernel_rfl
/-- A call that makes a row of entries, from a world that is like one that is known. -/
theorem ents_like (a : Option Addr) (cap : Nat) (es : List EN) {w0 X W : World} (hn : es.length ≤ 1048576) (hr : EntAt w0 a es) (hb : Below w0.heap.size w0 X) (e1 : W.heap = X.heap) (e2 : W.os = X.os) (e3 : W.tape = X.tape) (e4 : W.output = X.output) :
    Calls Tryz.prog 46 #[.slice a es.length cap] W fun e w' => ∃ a2 c2, e = .returned (.slice a2 es.length c2) ∧ OwnE w' w0.heap.size (.slice a2 es.length c2) es ∧ Below X.heap.size X w' ∧ Below w0.heap.size w0 w' := by
  have h0 := like_below e1 e2 e3 e4
  have hW : Below w0.heap.size w0 W := hb.trans (h0.mono hb.size)
  refine (l1Entries_any a cap es W hn (hr.below hW)).mono ?_
  rintro e w' ⟨v, rfl, ho, hb'⟩
  obtain ⟨a2, c2, rfl⟩ := ho.slice
  have hz : W.heap.size = X.heap.size := by rw [e1]
  rw [hz] at ho hb'
  have hX := h0.trans hb'
  exact ⟨a2, c2, rfl, OwnE.mono ho hb.size, hX, hb.trans (hX.mono hb.size)⟩
def zD : Array Value := #[.slice none 0 0, .slice none 0 0, .slice none 0 0, .slice none 0 0, .int .i64 0]
/-- How l1Copy stands behind its first statement. -/
structure CpR (w5 wx : World) (o : Nat) (x6 x7 : Value) (D : MDisk) : Prop where
  box : Laid wx o #[.slice none 0 0, x6, x7, .slice none 0 0, .int .i64 D.quota] 27
  e : OwnE wx w5.heap.size x6 D.names
  k : OwnE wx w5.heap.size x7 D.kept
  bel : Below w5.heap.size w5 wx
  lo : w5.heap.size ≤ o
theorem cp_last {w5 w7 : World} {x6 x7 : Value} {D : MDisk} (h6 : OwnE w7 w5.heap.size x6 D.names) (h7 : OwnE w7 w5.heap.size x7 D.kept) (hb : Below w5.heap.size w5 w7) : CpR w5 (w7.alloc (.cells #[.slice none 0 0, x6, x7, .slice none 0 0, .int .i64 D.quota] 27)) w7.heap.size x6 x7 D :=
  have hal := (Below.refl w7.heap.size w7).alloc (Nat.le_refl _) (.cells #[.slice none 0 0, x6, x7, .slice none 0 0, .int .i64 D.quota] 27)
  ⟨Laid.new w7 _ _, h6.below hal, h7.below hal, hb.trans (hal.mono hb.size), hb.size⟩
theorem cp_old {w5 w7 : World} {o : Nat} {x6 x7 : Value} {D : MDisk} (hz : Laid w7 o zD 27) (ho : w5.heap.size ≤ o) (h6 : OwnE w7 w5.heap.size x6 D.names) (h7 : OwnE w7 w5.heap.size x7 D.kept) (hb : Below w5.heap.size w5 w7) : CpR w5 (((((w7.setCell ⟨o, 0, none⟩ (.slice none 0 0)).setCell ⟨o, 1, none⟩ x6).setCell ⟨o, 2, none⟩ x7).setCell ⟨o, 3, none⟩ (.slice none 0 0)).setCell ⟨o, 4, none⟩ (.int .i64 D.quota)) o x6 x7 D :=
  ⟨set_disk _ _ _ _ _ hz, own_frk h6 (setD_fr _ _ _ _ _ _ _) (fun g e => ⟨_, by obtain rfl : g = o := e; exact hz.kind, by decide⟩), own_frk h7 (setD_fr _ _ _ _ _ _ _) (fun g e => ⟨_, by obtain rfl : g = o := e; exact hz.kind, by decide⟩), hb.trans ((setD_fr _ _ _ _ _ _ _).below (fun g e => by omega) hb.size), ho⟩
theorem OwnNA.kinds {w : World} {base g : Nat} {v : Value} {vs : List (Value × Value)} {ns : List NdM} (h : OwnNA w base v vs ns) (hg : nodeS v vs g) : KindAt w g 49 ∨ KindAt w g 5 := by
  rcases hg with hg | ⟨x, hx, hg⟩
  · exact .inl (own_kind h.row hg)
  · obtain ⟨l, hl⟩ := h.at_ hx
    exact .inr (own_kind hl hg)
theorem OwnNA.box {w : World} {base B t : Nat} {cs : Array Value} {v : Value} {vs : List (Value × Value)} {ns : List NdM} (h : OwnNA w base v vs ns) (hL : Laid w B cs t) (h1 : t ≠ 49) (h2 : t ≠ 5) (j : Nat) (u : Value) : OwnNA (w.setCell ⟨B, j, none⟩ u) base v vs ns :=
  h.fr (S := fun g => g = B) ((Fr.refl _ _).set rfl) (fun g hg e => by
    subst e
    rcases h.kinds hg with k | k
    · exact h1 (hL.kind.ne k)
    · exact h2 (hL.kind.ne k))
/-- How l1Copy's loop stands. -/
structure CpL (w5 W : World) (o : Nat) (v1 v2 v3 v4 : Value) (vs : List (Value × Value)) (N : List NdM) (D : MDisk) : Prop where
  box : Laid W o #[v1, v2, v3, v4, .int .i64 D.quota] 27
  n : OwnNA W w5.heap.size v1 vs N
  e : OwnE W w5.heap.size v2 D.names
  k : OwnE W w5.heap.size v3 D.kept
  p : OwnO W w5.heap.size v4 D.pend
  bel : Below w5.heap.size w5 W
  lo : w5.heap.size ≤ o
theorem CpL.below {w5 W W' : World} {o : Nat} {v1 v2 v3 v4 : Value} {vs : List (Value × Value)} {N : List NdM} {D : MDisk} (h : CpL w5 W o v1 v2 v3 v4 vs N D) (hb : Below W.heap.size W W') : CpL w5 W' o v1 v2 v3 v4 vs N D :=
  ⟨h.box.below hb h.box.lt, h.n.below hb, h.e.below hb, h.k.below hb, h.p.below hb, h.bel.trans (hb.mono h.bel.size), h.lo⟩
theorem CpL.push {w5 W w10 : World} {o : Nat} {v1 v2 v3 v4 v' : Value} {vs vs' : List (Value × Value)} {N N' : List NdM} {D : MDisk} (h : CpL w5 W o v1 v2 v3 v4 vs N D) (f : Fr (fun g => v1.ownBlock = some g) W w10) (hL : Laid w10 o #[v1, v2, v3, v4, .int .i64 D.quota] 27) (ho : OwnNA w10 w5.heap.size v' vs' N') : CpL w5 (w10.setCell ⟨o, 0, none⟩ v') o v' v2 v3 v4 vs' N' D := by
  have hS : ∀ g, v1.ownBlock = some g → KindAt W g 49 := fun g hg => own_kind h.n.row hg
  have e2 : OwnE w10 w5.heap.size v2 D.names := own_frk h.e f (fun g hg => ⟨_, hS g hg, by decide⟩)
  have k2 : OwnE w10 w5.heap.size v3 D.kept := own_frk h.k f (fun g hg => ⟨_, hS g hg, by decide⟩)
  have p2 : OwnO w10 w5.heap.size v4 D.pend := own_frk h.p f (fun g hg => ⟨_, hS g hg, by decide⟩)
  have fs : Fr (fun g => g = o) w10 (w10.setCell ⟨o, 0, none⟩ v') := (Fr.refl _ _).set rfl
  have hk : ∀ g, g = o → KindAt w10 g 27 := fun g e => by subst e; exact hL.kind
  exact ⟨hL.set 0 v', ho.box hL (by decide) (by decide) 0 v', own_frk e2 fs (fun g e => ⟨_, hk g e, by decide⟩), own_frk k2 fs (fun g e => ⟨_, hk g e, by decide⟩), own_frk p2 fs (fun g e => ⟨_, hk g e, by decide⟩), (h.bel.trans (f.below (fun g hg => (own_ge h.n.row hg).1) h.bel.size)).setCell (p := ⟨o, 0, none⟩) h.lo v', h.lo⟩
theorem cpl_start {w5 wc w8 : World} {o : Nat} {x6 x7 v8 : Value} {D : MDisk} (h : CpR w5 wc o x6 x7 D) (ho : OwnO w8 w5.heap.size v8 D.pend) (hg : wc.grownBy w8 none) : CpL w5 (w8.setCell ⟨o, 3, none⟩ v8) o (.slice none 0 0) x6 x7 v8 [] [] D := by
  have hb : Below wc.heap.size wc w8 := (Below.refl _ _).grown hg (Nat.le_refl _) (fun k e => by cases e)
  have hL := h.box.below hb h.box.lt
  have fs : Fr (fun g => g = o) w8 (w8.setCell ⟨o, 3, none⟩ v8) := (Fr.refl _ _).set rfl
  have hk : ∀ g, g = o → KindAt w8 g 27 := fun g e => by subst e; exact hL.kind
  exact ⟨hL.set 3 v8, OwnNA.nil _ _, own_frk (h.e.below hb) fs (fun g e => ⟨_, hk g e, by decide⟩), own_frk (h.k.below hb) fs (fun g e => ⟨_, hk g e, by decide⟩), own_frk ho fs (fun g e => ⟨_, hk g e, by decide⟩), (h.bel.trans (hb.mono h.bel.size)).setCell (p := ⟨o, 3, none⟩) h.lo v8, h.lo⟩
theorem nodes_succ (ns : List NdM) (j : Nat) (h : j < ns.length) : ns.take (j + 1) = ns.take j ++ [(ns[j].1, ns[j].2)] := by
  rw [List.take_add_one, List.getElem?_eq_getElem h]
  rfl
theorem zalloc {w5 X : World} (hb : Below w5.heap.size w5 X) : Below w5.heap.size w5 (X.alloc (.cells zD 27)) := hb.alloc hb.size _
end Go.Proofs.YtpccongphchagaaGreatDoor
namespace Go.Proofs.YtpccongphchagaaGreatDoor
open Go.RowKit
set_option linter.unusedVariables false
/-- A drive: its box o, its two maps, its rows. -/
structure Drv (base : Nat) (w : World) (o b1 b2 m : Nat) (v1 v3 v4 : Value) (vs : List (Value × Value)) (D : MDisk) : Prop where
  box : Laid w o #[v1, .map (some b1), .map (some b2), v3, v4, .int .i64 D.quota] 99
  n : OwnNA w base v1 vs D.nodes
  l : LstAt w b1 b2 m D.names
  k : OwnE w base v3 D.kept
  p : OwnO w base v4 D.pend
  lb : base ≤ b1 ∧ base ≤ b2
  lo : base ≤ o
theorem Drv.below {base : Nat} {w w' : World} {o b1 b2 m : Nat} {v1 v3 v4 : Value} {vs : List (Value × Value)} {D : MDisk} (h : Drv base w o b1 b2 m v1 v3 v4 vs D) (hb : Below w.heap.size w w') : Drv base w' o b1 b2 m v1 v3 v4 vs D :=
  ⟨h.box.below hb h.box.lt, h.n.below hb, h.l.below hb h.l.lt.1 h.l.lt.2, h.k.below hb, h.p.below hb, h.lb, h.lo⟩
/-- What an operation of the program keeps. -/
structure KepI (base : Nat) (w w' : World) : Prop where
  bel : Below base w w'
  kind : ∀ g t, KindAt w g t → t ≠ 49 → t ≠ 5 → t ≠ 68 → t ≠ 99 → w'.heap[g]? = w.heap[g]?
theorem KepI.of_below {base : Nat} {w w' : World} (h : Below w.heap.size w w') (hb : base ≤ w.heap.size) : KepI base w w' := ⟨h.mono hb, fun g _ k _ _ _ _ => h.block g k.lt⟩
theorem KepI.trans {base : Nat} {a b c : World} (h : KepI base a b) (k : KepI base b c) : KepI base a c :=
  ⟨h.bel.trans k.bel, fun g t ht h1 h2 h3 h4 => by
    have e := h.kind g t ht h1 h2 h3 h4
    exact (k.kind g t (ht.on e) h1 h2 h3 h4).trans e⟩
theorem KepI.laid {base g t : Nat} {w w' : World} {cs : Array Value} (h : KepI base w w') (hL : Laid w g cs t) (h1 : t ≠ 49) (h2 : t ≠ 5) (h3 : t ≠ 68) (h4 : t ≠ 99) : Laid w' g cs t := (h.kind g t hL.kind h1 h2 h3 h4).trans hL
/-- Only blocks of the drive's own kinds, or maps, have changed. -/
theorem KepI.fr {base : Nat} {S : Nat → Prop} {w w' : World} (f : Fr S w w') (hS : ∀ g, S g → base ≤ g ∧ ∀ t, KindAt w g t → t = 49 ∨ t = 5 ∨ t = 68 ∨ t = 99) (hb : base ≤ w.heap.size) : KepI base w w' :=
  ⟨f.below (fun g hg => (hS g hg).1) hb, fun g t ht h1 h2 h3 h4 => f.block g ht.lt (fun hg => by
    rcases (hS g hg).2 t ht with e | e | e | e
    · exact h1 e
    · exact h2 e
    · exact h3 e
    · exact h4 e)⟩
end Go.Proofs.YtpccongphchagaaGreatDoor
namespace Go.Proofs.YtpccongphchagaaGreatDoor
open Go.RowKit
set_option linter.unusedVariables false
/-- append of one step, as a step of a statement whose order is drawn. -/
theorem step_append_dir {ops : Array Oper} {o : Oper} {act : Act} {K : Act → World → Prop} {Q : Exit → Act → World → Prop} {E : Prop} (w : World) (hgd : o.guard = none) (s x : Operand)
    (ho : o.op = .call { callee := .builtin .append, args := #[s, x], argTypes := #[25, 25] })
    (base : Nat) (v : Value) (es : List DO) (y : DO) (g1 c : Nat) (hs : act.eval s = v) (hx : act.eval x = .slice (some ⟨g1, 0, none⟩) 1 c) (hown : OwnO w base v es)
    (h0 : w.cell? ⟨g1, 0, none⟩ = some (.int .i64 y.1)) (h1 : w.cell? ⟨g1, 1, none⟩ = some (.string y.2.1)) (h2 : w.cell? ⟨g1, 2, none⟩ = some (.string y.2.2.1)) (h3 : w.cell? ⟨g1, 3, none⟩ = some (.int .i64 y.2.2.2)) (hlen : es.length ≤ 1048575) (hbase : base ≤ w.heap.size)
    (h : ∀ v' w', OwnO w' base v' (es ++ [y]) → w.grownBy w' v.ownBlock → K (act.put o.dst v') w') : if Region.wanted o (yielded ops act.tmps) = true then Oper.wp Tryz.prog o act w K Q else E := by
  have hw : Region.wanted o (yielded ops act.tmps) = true := by simp [Region.wanted, hgd]
  rw [if_pos hw]
  obtain ⟨i0, hi, hz0, hz1, hz2⟩ := info_parts Tryz.infoDirOp
  have hown' : w.ownsRow base 68 4 v es.length (four (es.map opP)) := by have := hown; unfold OwnO Own4 at this; rw [List.length_map] at this; exact this
  refine wp_append_own w s x 25 ho base 68 i0 (.agg #[.int .i64 0, .string ByteArray.empty, .string ByteArray.empty, .int .i64 0]) 4 48 Tryz.underlying25 hi hz0 hz1 hz2 rfl (by decide) v es.length (four (es.map opP)) hs hown' ⟨g1, 0, none⟩ 1 c [.int .i64 y.1, .string y.2.1, .string y.2.2.1, .int .i64 y.2.2.2] hx (by simp) ?_ ?_ (by unfold maxLen; omega) (by omega) hbase ?_
  · intro j u hj
    rw [addr_add]
    match j with
    | 0 => simp only [List.getElem?_cons_zero, Option.some.injEq] at hj; rw [← hj]; exact h0
    | 1 => simp only [List.getElem?_cons_succ, List.getElem?_cons_zero, Option.some.injEq] at hj; rw [← hj]; exact h1
    | 2 => simp only [List.getElem?_cons_succ, List.getElem?_cons_zero, Option.some.injEq] at hj; rw [← hj]; exact h2
    | 3 => simp only [List.getElem?_cons_succ, List.getElem?_cons_zero, Option.some.injEq] at hj; rw [← hj]; exact h3
    | j + 4 => simp at hj
  · intro u hu
    simp only [List.mem_cons, List.not_mem_nil, or_false] at hu
    rcases hu with rfl | rfl | rfl | rfl <;> rfl
  · intro v' w' hown2 hg _
    refine h v' w' ?_ hg
    unfold OwnO Own4
    rw [List.length_map, List.length_append, List.map_append, four_append]
    exact hown2
/-- A drive behind a change of its names. -/
theorem Drv.names {base : Nat} {w w' : World} {o b1 b2 m m' : Nat} {v1 v3 v4 : Value} {vs : List (Value × Value)} {D : MDisk} {l : List EN} (h : Drv base w o b1 b2 m v1 v3 v4 vs D) (hl : LstAt w' b1 b2 m' l) (ho : Off b1 b2 w w') : Drv base w' o b1 b2 m' v1 v3 v4 vs ⟨D.nodes, l, D.kept, D.pend, D.quota⟩ ∧ Fr (fun g => g = b1 ∨ g = b2) w w' := by
  have f : Fr (fun g => g = b1 ∨ g = b2) w w' := ⟨ho.os, ho.tape, ho.output, ho.size, fun g hg hn => ho.block g hg (fun e => hn (.inl e)) (fun e => hn (.inr e))⟩
  obtain ⟨D1, D2, hL, _⟩ := h.l
  have hno : ∀ g t, g = b1 ∨ g = b2 → ¬ KindAt w g t := by
    rintro g t (rfl | rfl) ⟨cs, fr, hk⟩
    · obtain ⟨_, _, hm, _⟩ := hL.o1
      rw [hm] at hk; cases hk
    · obtain ⟨_, _, hm, _⟩ := hL.o2
      rw [hm] at hk; cases hk
  refine ⟨⟨(f.block _ h.box.lt (fun e => hno _ _ e h.box.kind)).trans h.box, h.n.fr f (fun g hg e => ?_), hl, owns_fr h.k f (fun g hg e => hno _ _ e (own_kind h.k hg)), owns_fr h.p f (fun g hg e => hno _ _ e (own_kind h.p hg)), h.lb, h.lo⟩, f⟩
  rcases h.n.kinds hg with k | k
  · exact hno _ _ e k
  · exact hno _ _ e k
end Go.Proofs.YtpccongphchagaaGreatDoor
