import Derived.Test.YtpccongphchagaaGreatDoorPkw
import Derived.Deep.DeepCutAuto
import Derived.Deep.RegionLaw
namespace Go.Proofs.YtpccongphchagaaGreatDoor
open Go.RowKit
set_option linter.unusedVariables false
set_option maxRecDepth 20000 in
set_option maxHeartbeats 4000000 in
theorem l1One_app3 (base : Nat) (v1 v2 v3 v4 : Value) (D : MDisk) (nm tt : ByteArray) (ad : Option Addr) (data : List Nat) (cd : Nat) (w : World) (hbase : base ≤ w.heap.size) (hW : Wkd D) (hs1 : nm.size ≤ 1048576) (hs2 : tt.size ≤ 1048576) (hdl : data.length ≤ 1048576) (hrow : RowAt w ad data) (hd : Dk w base v1 v2 v3 v4 D) (hok : okName nm = true) (hsp : ¬ D.quota < (usedOf D.nodes D.names : Int) + (data.length : Int)) (hf0 : ∀ n, nodeIn D.names nm = some n → ¬ (40000 < (ndAt D n).1.length + data.length ∨ 200000 < sumN D.nodes + data.length)) :
    Calls Tryz.prog 18 #[.agg #[v1, v2, v3, v4, .int .i64 D.quota], .agg #[.int .i64 2, .string nm, .string tt, .slice ad data.length cd]] w (OnPost base w (doOne D (2, nm, tt, data))) := by
  have HSP := hide hsp
  have HF0 := hide hf0
  clear hsp hf0
  obtain ⟨a1, c1, rfl⟩ := hd.n.slice
  obtain ⟨a2, c2, rfl⟩ := hd.e.slice
  obtain ⟨a3, c3, rfl⟩ := hd.k.slice
  obtain ⟨a4, c4, rfl⟩ := hd.p.slice
  obtain ⟨L1, L2, L3, hA, hz⟩ := boxes3 w #[.slice a1 D.nodes.length c1, .slice a2 D.names.length c2, .slice a3 D.kept.length c3, .slice a4 D.pend.length c4, .int .i64 D.quota] #[.int .i64 2, .string nm, .string tt, .slice ad data.length cd] #[.slice none 0 0, .slice none 0 0, .slice none 0 0, .slice none 0 0, .int .i64 0] 27 39 27
  have HD := hide (hd.below hA)
  have HRW := hide (hrow.below hA)
  have HA := hide (Kep.of_below hA hbase)
  have HAB := hide hA
  have HW := hide hW
  have hln := hW.fine.ln
  have hnn := hW.nn
  have hnp := hW.np
  have HGW := hide (fun g (hg : (Value.slice a1 D.nodes.length c1).ownBlock = some g) => by obtain ⟨vs, _, hr0, _⟩ := hd.n; exact (own_ge hr0 hg).2)
  clear hd hrow hW hA
  go_enter Tryz.func18, Tryz.ntmps18
  go_upto_region 1 with fail
  generalize ((w.alloc (.cells #[.slice a1 D.nodes.length c1, .slice a2 D.names.length c2, .slice a3 D.kept.length c3, .slice a4 D.pend.length c4, .int .i64 D.quota] 27)).alloc (.cells #[.int .i64 2, .string nm, .string tt, .slice ad data.length cd] 39)).alloc (.cells #[.slice none 0 0, .slice none 0 0, .slice none 0 0, .slice none 0 0, .int .i64 0] 27) = W at L1 L2 L3 HD HRW HA HAB hz ⊢
  have HZ := hide hz
  have q0 : W.cell? ⟨w.heap.size, 0, none⟩ = some (.slice a1 D.nodes.length c1) := L1.cell 0
  have q1 : W.cell? ⟨w.heap.size, 1, none⟩ = some (.slice a2 D.names.length c2) := L1.cell 1
  have q2 : W.cell? ⟨w.heap.size, 2, none⟩ = some (.slice a3 D.kept.length c3) := L1.cell 2
  have q3 : W.cell? ⟨w.heap.size, 3, none⟩ = some (.slice a4 D.pend.length c4) := L1.cell 3
  have q4 : W.cell? ⟨w.heap.size, 4, none⟩ = some (.int .i64 D.quota) := L1.cell 4
  have o0 : W.cell? ⟨w.heap.size + 1, 0, none⟩ = some (.int .i64 2) := L2.cell 0
  have o1 : W.cell? ⟨w.heap.size + 1, 1, none⟩ = some (.string nm) := L2.cell 1
  have o2 : W.cell? ⟨w.heap.size + 1, 2, none⟩ = some (.string tt) := L2.cell 2
  have o3 : W.cell? ⟨w.heap.size + 1, 3, none⟩ = some (.slice ad data.length cd) := L2.cell 3
  have z0 : W.cell? ⟨w.heap.size + 1 + 1, 0, none⟩ = some (.slice none 0 0) := L3.cell 0
  have z1 : W.cell? ⟨w.heap.size + 1 + 1, 1, none⟩ = some (.slice none 0 0) := L3.cell 1
  have z2 : W.cell? ⟨w.heap.size + 1 + 1, 2, none⟩ = some (.slice none 0 0) := L3.cell 2
  have z3 : W.cell? ⟨w.heap.size + 1 + 1, 3, none⟩ = some (.slice none 0 0) := L3.cell 3
  have z4 : W.cell? ⟨w.heap.size + 1 + 1, 4, none⟩ = some (.int .i64 0) := L3.cell 4
  have f0 := frozen_of_row W (w.heap.size + 1 + 1) 0 _ _ L3
  have f1 := frozen_of_row W (w.heap.size + 1 + 1) 1 _ _ L3
  have f2 := frozen_of_row W (w.heap.size + 1 + 1) 2 _ _ L3
  have f3 := frozen_of_row W (w.heap.size + 1 + 1) 3 _ _ L3
  have f4 := frozen_of_row W (w.heap.size + 1 + 1) 4 _ _ L3
  have HL1 := hide L1
  have HL2 := hide L2
  have HL3 := hide L3
  clear L1 L2 L3 hz
  -- what every way without a change ends with
  have END := hide (fun (code : Int) (hR : doOne D (2, nm, tt, data) = (D, code)) => on_end (w := w) (B := w.heap.size + 1 + 1) hR rfl HD.out HL3.out HA.out (by omega) hbase (fun _ => HAB.out))
  have FIND := hide (l1Find_n a2 c2 D.names nm W (by omega) HD.out.e.at)
  have GN := hide (l1GoodName_any nm W (by omega))
  rw [hok] at GN
  have HOK := hide hok
  clear hok
  have HNM := hide (show nmOk (2, nm, tt, data) from ⟨HOK.out, fun e => absurd e (by simp)⟩)
  go_wp2_with fail
  refine GN.out.mono ?_
  rintro e w2 ⟨rfl, hw2⟩
  have hw2' := hw2.symm
  subst hw2'
  clear GN
  go_wp2_with fail
  refine FIND.out.mono ?_
  rintro e w2 ⟨hfd, hw2⟩
  have hw2' := hw2.symm
  subst hw2'
  clear FIND
  rcases hfd with ⟨i, nd, hi, hin, hcell, rfl⟩ | ⟨hno, rfl⟩
  case inr =>
    have HNO := hide hno
    clear hno
    go_wp2
    exact bodyPost_ret (ret_one (w.heap.size + 1 + 1) _ _ _ _ _ _ _ rfl rfl rfl (set_disk _ _ _ _ _ HL3.out)) rfl (END.out 4 (one_missing (by simp) (by simp) HNM.out HNO.out))
  obtain ⟨k, rfl, hk, hnda⟩ := nd_at HW.out hin
  obtain ⟨be, oe, rfl, -⟩ := HD.out.e.at (by omega)
  have x1 := hcell be oe rfl
  obtain ⟨gn, rfl, hgb, hgf, hgk, hgc⟩ := HD.out.n.cells (by omega)
  obtain ⟨ai, ci, x2, x3, hbo⟩ := hgc k hk
  have HIN := hide hin
  have HNDA := hide hnda
  have HBO := hide hbo
  have hgw : gn < w.heap.size := HGW.out gn rfl
  clear hcell hgc hin hnda hbo hgk
  have hub := used_le _ _ HW.out.fine.ap HW.out.fine.nd
  have hsm := HW.out.sum
  have hndl := HW.out.data _ (List.getElem_mem hk)
  have hlow : base ≤ W.heap.size := by have := HZ.out; omega
  have HDA := hide HD.out.own.at
  have HR0 := hide (one_there (o := (2, nm, tt, data)) (by simp) (by simp) HNM.out HIN.out)
  rw [HNDA.out] at HR0
  have hf : ¬ (40000 < (ndAt D (k : Int)).1.length + data.length ∨ 200000 < sumN D.nodes + data.length) := by have := HF0.out _ HIN.out; omega
  rw [HNDA.out] at hf
  have hsp : ¬ D.quota < (usedOf D.nodes D.names : Int) + (data.length : Int) := by have := HSP.out; omega
  have hfzn := hgf (k * 2)
  have USE := hide (fun W' (e1 : W'.heap = W.heap) (e2 : W'.os = W.os) (e3 : W'.tape = W.tape) (e4 : W'.output = W.output) => used_like (W := W') HW.out HDA.out e1 e2 e3 e4)
  have TOTX := hide (fun X (hb : Below W.heap.size W X) W' (e1 : W'.heap = X.heap) (e2 : W'.os = X.os) (e3 : W'.tape = X.tape) (e4 : W'.output = X.output) => total_like (W := W') HW.out (HDA.out.below hb) e1 e2 e3 e4)
  clear hgf x3
  generalize hus : usedOf D.nodes D.names = us at hub HR0 USE hsp
  generalize hsn : sumN D.nodes = sm at hub hsm HR0 TOTX hf
  clear hus hsn
  generalize hdd : D.nodes[k].1 = dd at x2 hndl HBO HR0 hf
  have HDD := hide hdd
  clear hdd
  have hwu : IntKind.i64.wrap ((us : Int) + (data.length : Int)) = (us : Int) + (data.length : Int) := by rw [wrap_small _ (by omega) (by omega)]
  have hwd : IntKind.i64.wrap ((dd.length : Int) + (data.length : Int)) = (dd.length : Int) + (data.length : Int) := by rw [wrap_small _ (by omega) (by omega)]
  have hws : IntKind.i64.wrap ((sm : Int) + (data.length : Int)) = (sm : Int) + (data.length : Int) := by rw [wrap_small _ (by omega) (by omega)]
  have HR1 := hide (HR0.out.trans ((if_pos rfl).trans (if_neg hsp)))
  have hspd : decide (D.quota < (us : Int) + (data.length : Int)) = false := decide_eq_false hsp
  go_upto_region 19 with fail
  go_cut [113] (fun s wx => s = .bool false ∧ Below W.heap.size W wx)
  case first =>
    go_region_law (first
      | (refine step_call_one 51 run_enterU (.tmp 105) #[27] (by rfl) (by rfl) (.agg #[.slice (some ⟨gn, 0, none⟩) D.nodes.length c1, .slice (some ⟨be, oe, none⟩) D.names.length c2, .slice a3 D.kept.length c3, .slice a4 D.pend.length c4, .int .i64 D.quota]) (by simp [go_sem]) ?_; refine (USE.out _ (by rfl) (by rfl) (by rfl) (by rfl)).mono ?_; rintro e w6 ⟨rfl, hb6⟩; have HB6 := hide hb6; have u3 : w6.cell? ⟨w.heap.size + 1, 3, none⟩ = some (.slice ad data.length cd) := (HL2.out.below hb6 HL2.out.lt).cell 3; have u4 : w6.cell? ⟨w.heap.size, 4, none⟩ = some (.int .i64 D.quota) := (HL1.out.below hb6 HL1.out.lt).cell 4; clear hb6; refine ⟨_, rfl, ?_⟩)
      | fail)
    all_goals
      go_wp2_with fail
      go_meet
      case rel => exact ⟨by first | rfl | simp [*], HB6.out⟩
  case rest =>
    obtain ⟨rfl, hbc⟩ := hcut
    obtain ⟨wB, eB⟩ : ∃ x, x = wc := ⟨wc, rfl⟩
    subst eB
    have L1c := HL1.out.below hbc HL1.out.lt
    have L2c := HL2.out.below hbc HL2.out.lt
    have L3c := HL3.out.below hbc HL3.out.lt
    have q0c : wB.cell? ⟨w.heap.size, 0, none⟩ = some (.slice (some ⟨gn, 0, none⟩) D.nodes.length c1) := L1c.cell 0
    have q1c : wB.cell? ⟨w.heap.size, 1, none⟩ = some (.slice (some ⟨be, oe, none⟩) D.names.length c2) := L1c.cell 1
    have q2c : wB.cell? ⟨w.heap.size, 2, none⟩ = some (.slice a3 D.kept.length c3) := L1c.cell 2
    have q3c : wB.cell? ⟨w.heap.size, 3, none⟩ = some (.slice a4 D.pend.length c4) := L1c.cell 3
    have q4c : wB.cell? ⟨w.heap.size, 4, none⟩ = some (.int .i64 D.quota) := L1c.cell 4
    have o3c : wB.cell? ⟨w.heap.size + 1, 3, none⟩ = some (.slice ad data.length cd) := L2c.cell 3
    have z0c : wB.cell? ⟨w.heap.size + 1 + 1, 0, none⟩ = some (.slice none 0 0) := L3c.cell 0
    have f0c := frozen_of_row wB (w.heap.size + 1 + 1) 0 _ _ L3c
    have z1c : wB.cell? ⟨w.heap.size + 1 + 1, 1, none⟩ = some (.slice none 0 0) := L3c.cell 1
    have f1c := frozen_of_row wB (w.heap.size + 1 + 1) 1 _ _ L3c
    have z2c : wB.cell? ⟨w.heap.size + 1 + 1, 2, none⟩ = some (.slice none 0 0) := L3c.cell 2
    have f2c := frozen_of_row wB (w.heap.size + 1 + 1) 2 _ _ L3c
    have z3c : wB.cell? ⟨w.heap.size + 1 + 1, 3, none⟩ = some (.slice none 0 0) := L3c.cell 3
    have f3c := frozen_of_row wB (w.heap.size + 1 + 1) 3 _ _ L3c
    have z4c : wB.cell? ⟨w.heap.size + 1 + 1, 4, none⟩ = some (.int .i64 0) := L3c.cell 4
    have f4c := frozen_of_row wB (w.heap.size + 1 + 1) 4 _ _ L3c
    have HL1c := hide L1c
    have HL2c := hide L2c
    have HL3c := hide L3c
    have HDc := hide (HD.out.below hbc)
    have HKc := hide (HA.out.trans (Kep.of_below hbc hlow))
    clear L1c L2c L3c
    have TOT := hide (TOTX.out wB hbc)
    have hlc : base ≤ wB.heap.size := Nat.le_trans hlow hbc.size
    have HBC := hide hbc
    clear hbc USE TOTX z0 z1 z2 z3 z4 f0 f1 f2 f3 f4 q0 q1 q2 q3 q4 o0 o1 o2 o3 hwu hsp hspd
    have HR := hide (HR1.out.trans (if_neg hf))
    have hf1i : ¬ (40000 : Int) < (dd.length : Int) + (data.length : Int) := by omega
    have hf2i : ¬ (200000 : Int) < (sm : Int) + (data.length : Int) := by omega
    have hf1d : decide ((40000 : Int) < (dd.length : Int) + (data.length : Int)) = false := decide_eq_false hf1i
    have hf2d : decide ((200000 : Int) < (sm : Int) + (data.length : Int)) = false := decide_eq_false hf2i
    go_upto_region 21 with fail
    go_cut [130] (fun s wx => s = .bool false ∧ Below wB.heap.size wB wx)
    case first =>
      go_region_with (refine (TOT.out _ (by rfl) (by rfl) (by rfl) (by rfl)).mono ?_; rintro e w6 ⟨rfl, hb6⟩; have HB6 := hide hb6; have u3 : w6.cell? ⟨w.heap.size + 1, 3, none⟩ = some (.slice ad data.length cd) := (HL2c.out.below hb6 HL2c.out.lt).cell 3; clear hb6)
      all_goals
        go_wp2_with fail
        go_meet
        case rel => exact ⟨by first | rfl | simp [*], HB6.out⟩
    case rest =>
      obtain ⟨rfl, hbd⟩ := hcut
      obtain ⟨wD, eD⟩ : ∃ x, x = wc := ⟨wc, rfl⟩
      subst eD
      have L1d := HL1c.out.below hbd HL1c.out.lt
      have L2d := HL2c.out.below hbd HL2c.out.lt
      have L3d := HL3c.out.below hbd HL3c.out.lt
      have q0d : wD.cell? ⟨w.heap.size, 0, none⟩ = some (.slice (some ⟨gn, 0, none⟩) D.nodes.length c1) := L1d.cell 0
      have q1d : wD.cell? ⟨w.heap.size, 1, none⟩ = some (.slice (some ⟨be, oe, none⟩) D.names.length c2) := L1d.cell 1
      have q2d : wD.cell? ⟨w.heap.size, 2, none⟩ = some (.slice a3 D.kept.length c3) := L1d.cell 2
      have q3d : wD.cell? ⟨w.heap.size, 3, none⟩ = some (.slice a4 D.pend.length c4) := L1d.cell 3
      have q4d : wD.cell? ⟨w.heap.size, 4, none⟩ = some (.int .i64 D.quota) := L1d.cell 4
      have o3d : wD.cell? ⟨w.heap.size + 1, 3, none⟩ = some (.slice ad data.length cd) := L2d.cell 3
      have z0d : wD.cell? ⟨w.heap.size + 1 + 1, 0, none⟩ = some (.slice none 0 0) := L3d.cell 0
      have f0d := frozen_of_row wD (w.heap.size + 1 + 1) 0 _ _ L3d
      have z1d : wD.cell? ⟨w.heap.size + 1 + 1, 1, none⟩ = some (.slice none 0 0) := L3d.cell 1
      have f1d := frozen_of_row wD (w.heap.size + 1 + 1) 1 _ _ L3d
      have z2d : wD.cell? ⟨w.heap.size + 1 + 1, 2, none⟩ = some (.slice none 0 0) := L3d.cell 2
      have f2d := frozen_of_row wD (w.heap.size + 1 + 1) 2 _ _ L3d
      have z3d : wD.cell? ⟨w.heap.size + 1 + 1, 3, none⟩ = some (.slice none 0 0) := L3d.cell 3
      have f3d := frozen_of_row wD (w.heap.size + 1 + 1) 3 _ _ L3d
      have z4d : wD.cell? ⟨w.heap.size + 1 + 1, 4, none⟩ = some (.int .i64 0) := L3d.cell 4
      have f4d := frozen_of_row wD (w.heap.size + 1 + 1) 4 _ _ L3d
      have HL1d := hide L1d
      have HL2d := hide L2d
      have HL3d := hide L3d
      have HDd := hide (HDc.out.below hbd)
      have HKd := hide (HKc.out.trans (Kep.of_below hbd hlc))
      clear L1d L2d L3d
      have hld : base ≤ wD.heap.size := Nat.le_trans hlc hbd.size
      have HBD := hide (HBC.out.trans (hbd.mono HBC.out.size))
      obtain ⟨gn', egn, -, hgf', -, hgc'⟩ := HDd.out.n.cells (by omega)
      simp only [Option.some.injEq, Addr.mk.injEq, and_true] at egn
      subst egn
      have hrd : RowAt wD ai dd := (OwnB.row HBO.out).below HBD.out
      have BYT := hide (fun W' (e1 : W'.heap = wD.heap) (e2 : W'.os = wD.os) (e3 : W'.tape = wD.tape) (e4 : W'.output = wD.output) => bytes_like (W := W') (cap := ci) (show dd.length ≤ 1048576 by omega) hrd e1 e2 e3 e4)
      have HRO := hide (HRW.out.below HBD.out)
      have x2d : wD.cell? ⟨gn, k * 2, none⟩ = some (.slice ai dd.length ci) := (HBD.out.cell (p := ⟨gn, k * 2, none⟩) (lt_of_cell0 x2)).trans x2
      have hsl : dd.length + data.length ≤ 1099511627776 := by omega
      have NEXT := hide (fun w9 (b9 : Below wD.heap.size wD w9) (a9 : Option Addr) (c9 : Nat) (ho9 : OwnB w9 wD.heap.size (.slice a9 (dd ++ data).length c9) (dd ++ data)) => app_put HDd.out HKd.out hbase hld hk b9 ho9)
      have hne1 : ¬ gn = w.heap.size := by omega
      have hne3 : ¬ gn = w.heap.size + 1 + 1 := by omega
      have hne1' : ¬ w.heap.size = gn := by omega
      have hne3' : ¬ w.heap.size + 1 + 1 = gn := by omega
      clear hbd hgf' hgc' hrd TOT hwd hws hf hf1i hf2i hf1d hf2d z0c z1c z2c z3c z4c f0c f1c f2c f3c f4c q0c q1c q2c q3c q4c o3c
      go_upto_region 23 with fail
      go_region_law (first
        | (refine step_call_one 47 run_enterB (.tmp 135) #[22] (by rfl) (by rfl) (.slice ai dd.length ci) (by simp [go_sem]) ?_; refine (BYT.out _ (by rfl) (by rfl) (by rfl) (by rfl)).mono ?_; rintro e w8 ⟨a8, c8, rfl, ho8, hb8⟩; have HO8 := hide ho8; have HB8 := hide hb8; have q08 : w8.cell? ⟨w.heap.size, 0, none⟩ = some (.slice (some ⟨gn, 0, none⟩) D.nodes.length c1) := (HL1d.out.below hb8 HL1d.out.lt).cell 0; have o38 : w8.cell? ⟨w.heap.size + 1, 3, none⟩ = some (.slice ad data.length cd) := (HL2d.out.below hb8 HL2d.out.lt).cell 3; clear ho8 hb8; refine ⟨_, rfl, ?_⟩)
        | (refine step_append_blk _ (by rfl) (.tmp 136) (.tmp 138) (by rfl) wD.heap.size (.slice a8 dd.length c8) dd data (by simp [go_sem]) HO8.out ad cd (by simp [go_sem]) (HRO.out.below HB8.out) hsl HB8.out.size ?_; intro v9 w9 ho9 hg9 hat9; obtain ⟨a9, c9, rfl⟩ := OwnB.slice ho9; have b9 : Below wD.heap.size wD w9 := HB8.out.grown hg9 HB8.out.size (fun k e => (own_ge HO8.out e).1); have hnx := NEXT.out w9 b9 a9 c9 ho9; rw [show (dd ++ data).length = dd.length + data.length from List.length_append] at hnx ⊢; have HNX := hide hnx; have q09 : w9.cell? ⟨w.heap.size, 0, none⟩ = some (.slice (some ⟨gn, 0, none⟩) D.nodes.length c1) := (HL1d.out.below b9 HL1d.out.lt).cell 0; have x29 := (b9.cell (p := ⟨gn, k * 2, none⟩) (lt_of_cell0 x2d)).trans x2d; have xf9 := hnx.2.2.2; have M1 := HL1d.out.below b9 HL1d.out.lt; have M3 := HL3d.out.below b9 HL3d.out.lt; have q19 : w9.cell? ⟨w.heap.size, 1, none⟩ = some (.slice (some ⟨be, oe, none⟩) D.names.length c2) := M1.cell 1; have q29 : w9.cell? ⟨w.heap.size, 2, none⟩ = some (.slice a3 D.kept.length c3) := M1.cell 2; have q39 : w9.cell? ⟨w.heap.size, 3, none⟩ = some (.slice a4 D.pend.length c4) := M1.cell 3; have q49 : w9.cell? ⟨w.heap.size, 4, none⟩ = some (.int .i64 D.quota) := M1.cell 4; have z09 : w9.cell? ⟨w.heap.size + 1 + 1, 0, none⟩ = some (.slice none 0 0) := M3.cell 0; have f09 := frozen_of_row w9 (w.heap.size + 1 + 1) 0 _ _ M3; have z19 : w9.cell? ⟨w.heap.size + 1 + 1, 1, none⟩ = some (.slice none 0 0) := M3.cell 1; have f19 := frozen_of_row w9 (w.heap.size + 1 + 1) 1 _ _ M3; have z29 : w9.cell? ⟨w.heap.size + 1 + 1, 2, none⟩ = some (.slice none 0 0) := M3.cell 2; have f29 := frozen_of_row w9 (w.heap.size + 1 + 1) 2 _ _ M3; have z39 : w9.cell? ⟨w.heap.size + 1 + 1, 3, none⟩ = some (.slice none 0 0) := M3.cell 3; have f39 := frozen_of_row w9 (w.heap.size + 1 + 1) 3 _ _ M3; have z49 : w9.cell? ⟨w.heap.size + 1 + 1, 4, none⟩ = some (.int .i64 0) := M3.cell 4; have f49 := frozen_of_row w9 (w.heap.size + 1 + 1) 4 _ _ M3; clear hnx ho9 hg9 hat9 b9 M1 M3)
        | fail)
      all_goals
        have L3' := HNX.out.2.2.1 _ _ _ (HL3d.out) (by decide)
        have HL := hide L3'
        clear L3'
        go_wp2
        exact bodyPost_ret (ret_one (w.heap.size + 1 + 1) _ _ _ _ _ _ _ rfl rfl rfl (set_disk _ _ _ _ _ HL.out)) rfl (on_end (w := w) HR.out rfl HNX.out.1 HL.out HNX.out.2.1 (by omega) hbase (fun h => absurd rfl h))
end Go.Proofs.YtpccongphchagaaGreatDoor
