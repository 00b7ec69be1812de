import Derived.Test.YtpccongphchagaaGreatDoorPkw
import Derived.Deep.DeepCutAuto
import Derived.Deep.RegionLaw
namespace Go.Proofs.YtpccongphchagaaGreatDoor
open Go.RowKit
set_option linter.unusedVariables false
set_option maxRecDepth 20000 in
set_option maxHeartbeats 4000000 in
theorem l1One_app2 (base : Nat) (v1 v2 v3 v4 : Value) (D : MDisk) (nm tt : ByteArray) (ad : Option Addr) (data : List Nat) (cd : Nat) (w : World) (hbase : base ≤ w.heap.size) (hW : Wkd D) (hs1 : nm.size ≤ 1048576) (hs2 : tt.size ≤ 1048576) (hdl : data.length ≤ 1048576) (hrow : RowAt w ad data) (hd : Dk w base v1 v2 v3 v4 D) (hok : okName nm = true) (hsp : ¬ D.quota < (usedOf D.nodes D.names : Int) + (data.length : Int)) (hf0 : ∀ n, nodeIn D.names nm = some n → (40000 < (ndAt D n).1.length + data.length ∨ 200000 < sumN D.nodes + data.length)) :
    Calls Tryz.prog 18 #[.agg #[v1, v2, v3, v4, .int .i64 D.quota], .agg #[.int .i64 2, .string nm, .string tt, .slice ad data.length cd]] w (OnPost base w (doOne D (2, nm, tt, data))) := by
  have HSP := hide hsp
  have HF0 := hide hf0
  clear hsp hf0
  obtain ⟨a1, c1, rfl⟩ := hd.n.slice
  obtain ⟨a2, c2, rfl⟩ := hd.e.slice
  obtain ⟨a3, c3, rfl⟩ := hd.k.slice
  obtain ⟨a4, c4, rfl⟩ := hd.p.slice
  obtain ⟨L1, L2, L3, hA, hz⟩ := boxes3 w #[.slice a1 D.nodes.length c1, .slice a2 D.names.length c2, .slice a3 D.kept.length c3, .slice a4 D.pend.length c4, .int .i64 D.quota] #[.int .i64 2, .string nm, .string tt, .slice ad data.length cd] #[.slice none 0 0, .slice none 0 0, .slice none 0 0, .slice none 0 0, .int .i64 0] 27 39 27
  have HD := hide (hd.below hA)
  have HRW := hide (hrow.below hA)
  have HA := hide (Kep.of_below hA hbase)
  have HAB := hide hA
  have HW := hide hW
  have hln := hW.fine.ln
  have hnn := hW.nn
  have hnp := hW.np
  have HGW := hide (fun g (hg : (Value.slice a1 D.nodes.length c1).ownBlock = some g) => by obtain ⟨vs, _, hr0, _⟩ := hd.n; exact (own_ge hr0 hg).2)
  clear hd hrow hW hA
  go_enter Tryz.func18, Tryz.ntmps18
  go_upto_region 1 with fail
  generalize ((w.alloc (.cells #[.slice a1 D.nodes.length c1, .slice a2 D.names.length c2, .slice a3 D.kept.length c3, .slice a4 D.pend.length c4, .int .i64 D.quota] 27)).alloc (.cells #[.int .i64 2, .string nm, .string tt, .slice ad data.length cd] 39)).alloc (.cells #[.slice none 0 0, .slice none 0 0, .slice none 0 0, .slice none 0 0, .int .i64 0] 27) = W at L1 L2 L3 HD HRW HA HAB hz ⊢
  have HZ := hide hz
  have q0 : W.cell? ⟨w.heap.size, 0, none⟩ = some (.slice a1 D.nodes.length c1) := L1.cell 0
  have q1 : W.cell? ⟨w.heap.size, 1, none⟩ = some (.slice a2 D.names.length c2) := L1.cell 1
  have q2 : W.cell? ⟨w.heap.size, 2, none⟩ = some (.slice a3 D.kept.length c3) := L1.cell 2
  have q3 : W.cell? ⟨w.heap.size, 3, none⟩ = some (.slice a4 D.pend.length c4) := L1.cell 3
  have q4 : W.cell? ⟨w.heap.size, 4, none⟩ = some (.int .i64 D.quota) := L1.cell 4
  have o0 : W.cell? ⟨w.heap.size + 1, 0, none⟩ = some (.int .i64 2) := L2.cell 0
  have o1 : W.cell? ⟨w.heap.size + 1, 1, none⟩ = some (.string nm) := L2.cell 1
  have o2 : W.cell? ⟨w.heap.size + 1, 2, none⟩ = some (.string tt) := L2.cell 2
  have o3 : W.cell? ⟨w.heap.size + 1, 3, none⟩ = some (.slice ad data.length cd) := L2.cell 3
  have z0 : W.cell? ⟨w.heap.size + 1 + 1, 0, none⟩ = some (.slice none 0 0) := L3.cell 0
  have z1 : W.cell? ⟨w.heap.size + 1 + 1, 1, none⟩ = some (.slice none 0 0) := L3.cell 1
  have z2 : W.cell? ⟨w.heap.size + 1 + 1, 2, none⟩ = some (.slice none 0 0) := L3.cell 2
  have z3 : W.cell? ⟨w.heap.size + 1 + 1, 3, none⟩ = some (.slice none 0 0) := L3.cell 3
  have z4 : W.cell? ⟨w.heap.size + 1 + 1, 4, none⟩ = some (.int .i64 0) := L3.cell 4
  have f0 := frozen_of_row W (w.heap.size + 1 + 1) 0 _ _ L3
  have f1 := frozen_of_row W (w.heap.size + 1 + 1) 1 _ _ L3
  have f2 := frozen_of_row W (w.heap.size + 1 + 1) 2 _ _ L3
  have f3 := frozen_of_row W (w.heap.size + 1 + 1) 3 _ _ L3
  have f4 := frozen_of_row W (w.heap.size + 1 + 1) 4 _ _ L3
  have HL1 := hide L1
  have HL2 := hide L2
  have HL3 := hide L3
  clear L1 L2 L3 hz
  -- what every way without a change ends with
  have END := hide (fun (code : Int) (hR : doOne D (2, nm, tt, data) = (D, code)) => on_end (w := w) (B := w.heap.size + 1 + 1) hR rfl HD.out HL3.out HA.out (by omega) hbase (fun _ => HAB.out))
  have FIND := hide (l1Find_n a2 c2 D.names nm W (by omega) HD.out.e.at)
  have GN := hide (l1GoodName_any nm W (by omega))
  rw [hok] at GN
  have HOK := hide hok
  clear hok
  have HNM := hide (show nmOk (2, nm, tt, data) from ⟨HOK.out, fun e => absurd e (by simp)⟩)
  go_wp2_with fail
  refine GN.out.mono ?_
  rintro e w2 ⟨rfl, hw2⟩
  have hw2' := hw2.symm
  subst hw2'
  clear GN
  go_wp2_with fail
  refine FIND.out.mono ?_
  rintro e w2 ⟨hfd, hw2⟩
  have hw2' := hw2.symm
  subst hw2'
  clear FIND
  rcases hfd with ⟨i, nd, hi, hin, hcell, rfl⟩ | ⟨hno, rfl⟩
  case inr =>
    have HNO := hide hno
    clear hno
    go_wp2
    exact bodyPost_ret (ret_one (w.heap.size + 1 + 1) _ _ _ _ _ _ _ rfl rfl rfl (set_disk _ _ _ _ _ HL3.out)) rfl (END.out 4 (one_missing (by simp) (by simp) HNM.out HNO.out))
  obtain ⟨k, rfl, hk, hnda⟩ := nd_at HW.out hin
  obtain ⟨be, oe, rfl, -⟩ := HD.out.e.at (by omega)
  have x1 := hcell be oe rfl
  obtain ⟨gn, rfl, hgb, hgf, hgk, hgc⟩ := HD.out.n.cells (by omega)
  obtain ⟨ai, ci, x2, x3, hbo⟩ := hgc k hk
  have HIN := hide hin
  have HNDA := hide hnda
  have HBO := hide hbo
  have hgw : gn < w.heap.size := HGW.out gn rfl
  clear hcell hgc hin hnda hbo hgk
  have hub := used_le _ _ HW.out.fine.ap HW.out.fine.nd
  have hsm := HW.out.sum
  have hndl := HW.out.data _ (List.getElem_mem hk)
  have hlow : base ≤ W.heap.size := by have := HZ.out; omega
  have HDA := hide HD.out.own.at
  have HR0 := hide (one_there (o := (2, nm, tt, data)) (by simp) (by simp) HNM.out HIN.out)
  rw [HNDA.out] at HR0
  have hf : (40000 < (ndAt D (k : Int)).1.length + data.length ∨ 200000 < sumN D.nodes + data.length) := by have := HF0.out _ HIN.out; omega
  rw [HNDA.out] at hf
  have hsp : ¬ D.quota < (usedOf D.nodes D.names : Int) + (data.length : Int) := by have := HSP.out; omega
  have hfzn := hgf (k * 2)
  have USE := hide (fun W' (e1 : W'.heap = W.heap) (e2 : W'.os = W.os) (e3 : W'.tape = W.tape) (e4 : W'.output = W.output) => used_like (W := W') HW.out HDA.out e1 e2 e3 e4)
  have TOTX := hide (fun X (hb : Below W.heap.size W X) W' (e1 : W'.heap = X.heap) (e2 : W'.os = X.os) (e3 : W'.tape = X.tape) (e4 : W'.output = X.output) => total_like (W := W') HW.out (HDA.out.below hb) e1 e2 e3 e4)
  clear hgf x3
  generalize hus : usedOf D.nodes D.names = us at hub HR0 USE hsp
  generalize hsn : sumN D.nodes = sm at hub hsm HR0 TOTX hf
  clear hus hsn
  generalize hdd : D.nodes[k].1 = dd at x2 hndl HBO HR0 hf
  have HDD := hide hdd
  clear hdd
  have hwu : IntKind.i64.wrap ((us : Int) + (data.length : Int)) = (us : Int) + (data.length : Int) := by rw [wrap_small _ (by omega) (by omega)]
  have hwd : IntKind.i64.wrap ((dd.length : Int) + (data.length : Int)) = (dd.length : Int) + (data.length : Int) := by rw [wrap_small _ (by omega) (by omega)]
  have hws : IntKind.i64.wrap ((sm : Int) + (data.length : Int)) = (sm : Int) + (data.length : Int) := by rw [wrap_small _ (by omega) (by omega)]
  have HR1 := hide (HR0.out.trans ((if_pos rfl).trans (if_neg hsp)))
  have hspd : decide (D.quota < (us : Int) + (data.length : Int)) = false := decide_eq_false hsp
  go_upto_region 19 with fail
  go_cut [113] (fun s wx => s = .bool false ∧ Below W.heap.size W wx)
  case first =>
    go_region_law (first
      | (refine step_call_one 51 run_enterU (.tmp 105) #[27] (by rfl) (by rfl) (.agg #[.slice (some ⟨gn, 0, none⟩) D.nodes.length c1, .slice (some ⟨be, oe, none⟩) D.names.length c2, .slice a3 D.kept.length c3, .slice a4 D.pend.length c4, .int .i64 D.quota]) (by simp [go_sem]) ?_; refine (USE.out _ (by rfl) (by rfl) (by rfl) (by rfl)).mono ?_; rintro e w6 ⟨rfl, hb6⟩; have HB6 := hide hb6; have u3 : w6.cell? ⟨w.heap.size + 1, 3, none⟩ = some (.slice ad data.length cd) := (HL2.out.below hb6 HL2.out.lt).cell 3; have u4 : w6.cell? ⟨w.heap.size, 4, none⟩ = some (.int .i64 D.quota) := (HL1.out.below hb6 HL1.out.lt).cell 4; clear hb6; refine ⟨_, rfl, ?_⟩)
      | fail)
    all_goals
      go_wp2_with fail
      go_meet
      case rel => exact ⟨by first | rfl | simp [*], HB6.out⟩
  case rest =>
    obtain ⟨rfl, hbc⟩ := hcut
    obtain ⟨wB, eB⟩ : ∃ x, x = wc := ⟨wc, rfl⟩
    subst eB
    have L1c := HL1.out.below hbc HL1.out.lt
    have L2c := HL2.out.below hbc HL2.out.lt
    have L3c := HL3.out.below hbc HL3.out.lt
    have q0c : wB.cell? ⟨w.heap.size, 0, none⟩ = some (.slice (some ⟨gn, 0, none⟩) D.nodes.length c1) := L1c.cell 0
    have q1c : wB.cell? ⟨w.heap.size, 1, none⟩ = some (.slice (some ⟨be, oe, none⟩) D.names.length c2) := L1c.cell 1
    have q2c : wB.cell? ⟨w.heap.size, 2, none⟩ = some (.slice a3 D.kept.length c3) := L1c.cell 2
    have q3c : wB.cell? ⟨w.heap.size, 3, none⟩ = some (.slice a4 D.pend.length c4) := L1c.cell 3
    have q4c : wB.cell? ⟨w.heap.size, 4, none⟩ = some (.int .i64 D.quota) := L1c.cell 4
    have o3c : wB.cell? ⟨w.heap.size + 1, 3, none⟩ = some (.slice ad data.length cd) := L2c.cell 3
    have z0c : wB.cell? ⟨w.heap.size + 1 + 1, 0, none⟩ = some (.slice none 0 0) := L3c.cell 0
    have f0c := frozen_of_row wB (w.heap.size + 1 + 1) 0 _ _ L3c
    have z1c : wB.cell? ⟨w.heap.size + 1 + 1, 1, none⟩ = some (.slice none 0 0) := L3c.cell 1
    have f1c := frozen_of_row wB (w.heap.size + 1 + 1) 1 _ _ L3c
    have z2c : wB.cell? ⟨w.heap.size + 1 + 1, 2, none⟩ = some (.slice none 0 0) := L3c.cell 2
    have f2c := frozen_of_row wB (w.heap.size + 1 + 1) 2 _ _ L3c
    have z3c : wB.cell? ⟨w.heap.size + 1 + 1, 3, none⟩ = some (.slice none 0 0) := L3c.cell 3
    have f3c := frozen_of_row wB (w.heap.size + 1 + 1) 3 _ _ L3c
    have z4c : wB.cell? ⟨w.heap.size + 1 + 1, 4, none⟩ = some (.int .i64 0) := L3c.cell 4
    have f4c := frozen_of_row wB (w.heap.size + 1 + 1) 4 _ _ L3c
    have HL1c := hide L1c
    have HL2c := hide L2c
    have HL3c := hide L3c
    have HDc := hide (HD.out.below hbc)
    have HKc := hide (HA.out.trans (Kep.of_below hbc hlow))
    clear L1c L2c L3c
    have TOT := hide (TOTX.out wB hbc)
    have hlc : base ≤ wB.heap.size := Nat.le_trans hlow hbc.size
    have HBC := hide hbc
    clear hbc USE TOTX z0 z1 z2 z3 z4 f0 f1 f2 f3 f4 q0 q1 q2 q3 q4 o0 o1 o2 o3 hwu hsp hspd
    have HR := hide (HR1.out.trans (if_pos hf))
    go_upto_region 21 with fail
    go_cut [130] (fun s wx => s = .bool true ∧ Below wB.heap.size wB wx)
    case first =>
      by_cases hf1 : 40000 < dd.length + data.length
      · have hf1i : (40000 : Int) < (dd.length : Int) + (data.length : Int) := by omega
        have hf1d : decide ((40000 : Int) < (dd.length : Int) + (data.length : Int)) = true := decide_eq_true hf1i
        go_quiet (fail)
        go_wp2
        go_meet
        case rel => exact ⟨by first | rfl | simp [*], by first | exact like_below rfl rfl rfl rfl | exact below_drewN (Below.refl _ _) _⟩
      · have hf1i : ¬ (40000 : Int) < (dd.length : Int) + (data.length : Int) := by omega
        have hf2i : (200000 : Int) < (sm : Int) + (data.length : Int) := by omega
        have hf1d : decide ((40000 : Int) < (dd.length : Int) + (data.length : Int)) = false := decide_eq_false hf1i
        have hf2d : decide ((200000 : Int) < (sm : Int) + (data.length : Int)) = true := decide_eq_true hf2i
        go_region_with (refine (TOT.out _ (by rfl) (by rfl) (by rfl) (by rfl)).mono ?_; rintro e w6 ⟨rfl, hb6⟩; have HB6 := hide hb6; have u3 : w6.cell? ⟨w.heap.size + 1, 3, none⟩ = some (.slice ad data.length cd) := (HL2c.out.below hb6 HL2c.out.lt).cell 3; clear hb6)
        all_goals
          go_wp2_with fail
          go_meet
          case rel => exact ⟨by first | rfl | simp [*], HB6.out⟩
    case rest =>
      obtain ⟨rfl, hbd⟩ := hcut
      have L1d := HL1c.out.below hbd HL1c.out.lt
      have L2d := HL2c.out.below hbd HL2c.out.lt
      have L3d := HL3c.out.below hbd HL3c.out.lt
      have q0d : wc.cell? ⟨w.heap.size, 0, none⟩ = some (.slice (some ⟨gn, 0, none⟩) D.nodes.length c1) := L1d.cell 0
      have q1d : wc.cell? ⟨w.heap.size, 1, none⟩ = some (.slice (some ⟨be, oe, none⟩) D.names.length c2) := L1d.cell 1
      have q2d : wc.cell? ⟨w.heap.size, 2, none⟩ = some (.slice a3 D.kept.length c3) := L1d.cell 2
      have q3d : wc.cell? ⟨w.heap.size, 3, none⟩ = some (.slice a4 D.pend.length c4) := L1d.cell 3
      have q4d : wc.cell? ⟨w.heap.size, 4, none⟩ = some (.int .i64 D.quota) := L1d.cell 4
      have o3d : wc.cell? ⟨w.heap.size + 1, 3, none⟩ = some (.slice ad data.length cd) := L2d.cell 3
      have z0d : wc.cell? ⟨w.heap.size + 1 + 1, 0, none⟩ = some (.slice none 0 0) := L3d.cell 0
      have f0d := frozen_of_row wc (w.heap.size + 1 + 1) 0 _ _ L3d
      have z1d : wc.cell? ⟨w.heap.size + 1 + 1, 1, none⟩ = some (.slice none 0 0) := L3d.cell 1
      have f1d := frozen_of_row wc (w.heap.size + 1 + 1) 1 _ _ L3d
      have z2d : wc.cell? ⟨w.heap.size + 1 + 1, 2, none⟩ = some (.slice none 0 0) := L3d.cell 2
      have f2d := frozen_of_row wc (w.heap.size + 1 + 1) 2 _ _ L3d
      have z3d : wc.cell? ⟨w.heap.size + 1 + 1, 3, none⟩ = some (.slice none 0 0) := L3d.cell 3
      have f3d := frozen_of_row wc (w.heap.size + 1 + 1) 3 _ _ L3d
      have z4d : wc.cell? ⟨w.heap.size + 1 + 1, 4, none⟩ = some (.int .i64 0) := L3d.cell 4
      have f4d := frozen_of_row wc (w.heap.size + 1 + 1) 4 _ _ L3d
      have HL1d := hide L1d
      have HL2d := hide L2d
      have HL3d := hide L3d
      have HDd := hide (HDc.out.below hbd)
      have HKd := hide (HKc.out.trans (Kep.of_below hbd hlc))
      clear L1d L2d L3d
      go_wp2
      exact bodyPost_ret (ret_one (w.heap.size + 1 + 1) _ _ _ _ _ _ _ rfl rfl rfl (set_disk _ _ _ _ _ HL3d.out)) rfl (on_end (w := w) HR.out rfl HDd.out HL3d.out HKd.out (by omega) hbase (fun _ => HAB.out.trans ((HBC.out.trans (hbd.mono HBC.out.size)).mono HAB.out.size)))
end Go.Proofs.YtpccongphchagaaGreatDoor
