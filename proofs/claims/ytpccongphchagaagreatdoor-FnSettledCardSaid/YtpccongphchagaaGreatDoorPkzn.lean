import Derived.Test.YtpccongphchagaaGreatDoorPkx
import Derived.Deep.DeepCutAuto
namespace Go.Proofs.YtpccongphchagaaGreatDoor
open Go.RowKit
set_option maxRecDepth 20000 in
set_option maxHeartbeats 12000000 in
theorem l1Copy_any (v : Value) (D : MDisk) (w : World) (hW : Wkd D) (hd : DiskAt w v D) :
    Calls Tryz.prog 17 #[v] w fun e w' => ∃ v1 v2 v3 v4, e = .returned (.agg #[v1, v2, v3, v4, .int .i64 D.quota]) ∧ Dk w' w.heap.size v1 v2 v3 v4 D ∧ Below w.heap.size w w' := by
  obtain ⟨a1, c1, a2, c2, a3, c3, a4, c4, rfl, hN, hE, hK, hO⟩ := hd
  obtain ⟨L1, L2, hA, hz⟩ := boxes2 w #[.slice a1 D.nodes.length c1, .slice a2 D.names.length c2, .slice a3 D.kept.length c3, .slice a4 D.pend.length c4, .int .i64 D.quota] #[.slice none 0 0, .slice none 0 0, .slice none 0 0, .slice none 0 0, .int .i64 0] 27 27
  have hln := hW.fine.ln
  have hnn := hW.nn
  have hnk := hW.nk
  have hnp := hW.np
  have HDT := hide hW.data
  clear hW
  go_enter Tryz.func17, Tryz.ntmps17
  have HN0 := hide (hN.below hA)
  have HE0 := hide (hE.below hA)
  have HK0 := hide (hK.below hA)
  have HO0 := hide (hO.below hA)
  have HA := hide hA
  clear hN hE hK hO hA
  go_upto_region 1 with fail
  generalize (w.alloc (.cells #[.slice a1 D.nodes.length c1, .slice a2 D.names.length c2, .slice a3 D.kept.length c3, .slice a4 D.pend.length c4, .int .i64 D.quota] 27)).alloc (.cells #[.slice none 0 0, .slice none 0 0, .slice none 0 0, .slice none 0 0, .int .i64 0] 27) = w5 at L1 L2 HN0 HE0 HK0 HO0 HA hz ⊢
  have t1 : w5.cell? ⟨w.heap.size, 1, none⟩ = some (.slice a2 D.names.length c2) := L1.cell 1
  have t2 : w5.cell? ⟨w.heap.size, 2, none⟩ = some (.slice a3 D.kept.length c3) := L1.cell 2
  have t4 : w5.cell? ⟨w.heap.size, 4, none⟩ = some (.int .i64 D.quota) := L1.cell 4
  have HL1 := hide L1
  have HL2 := hide L2
  have HB := hide (fun X (h : Below w5.heap.size w5 X) j => (h.cell (p := ⟨w.heap.size, j, none⟩) L1.lt).trans (L1.cell j))
  clear L1 L2
  have HZ5 := hide hz
  clear hz
  have t1a : (w5.alloc (.cells #[.slice none 0 0, .slice none 0 0, .slice none 0 0, .slice none 0 0, .int .i64 0] 27)).cell? ⟨w.heap.size, 1, none⟩ = some (.slice a2 D.names.length c2) := HB.out _ (zalloc (Below.refl _ _)) 1
  have t2a : (w5.alloc (.cells #[.slice none 0 0, .slice none 0 0, .slice none 0 0, .slice none 0 0, .int .i64 0] 27)).cell? ⟨w.heap.size, 2, none⟩ = some (.slice a3 D.kept.length c3) := HB.out _ (zalloc (Below.refl _ _)) 2
  have t4a : (w5.alloc (.cells #[.slice none 0 0, .slice none 0 0, .slice none 0 0, .slice none 0 0, .int .i64 0] 27)).cell? ⟨w.heap.size, 4, none⟩ = some (.int .i64 D.quota) := HB.out _ (zalloc (Below.refl _ _)) 4
  go_cut [3] (fun s3 wx => ∃ (o : Nat) (x6 x7 : Value), s3 = .pointer (some ⟨o, 0, none⟩) ∧ CpR w5 wx o x6 x7 D)
  case first =>
    go_region_law (first
      | (refine step_call_one 46 run_enterE (.tmp 9) #[24] (by rfl) (by rfl) (.slice a2 D.names.length c2) (by simp [go_sem]) ?_; refine (ents_like a2 c2 D.names (by omega) HE0.out (zalloc (Below.refl _ _)) (by rfl) (by rfl) (by rfl) (by rfl)).mono ?_; rintro e w6 ⟨a6, c6, rfl, ho6, hx6, hb6⟩; have HO6 := hide ho6; have HB6 := hide hb6; have Z6 := hide (Laid.below (Laid.new w5 zD 27) hx6 (by simp)); have s2 : w6.cell? ⟨w.heap.size, 2, none⟩ = some (.slice a3 D.kept.length c3) := HB.out w6 hb6 2; have s4 : w6.cell? ⟨w.heap.size, 4, none⟩ = some (.int .i64 D.quota) := HB.out w6 hb6 4; have s2a : (w6.alloc (.cells #[.slice none 0 0, .slice none 0 0, .slice none 0 0, .slice none 0 0, .int .i64 0] 27)).cell? ⟨w.heap.size, 2, none⟩ = some (.slice a3 D.kept.length c3) := HB.out _ (zalloc hb6) 2; have s4a : (w6.alloc (.cells #[.slice none 0 0, .slice none 0 0, .slice none 0 0, .slice none 0 0, .int .i64 0] 27)).cell? ⟨w.heap.size, 4, none⟩ = some (.int .i64 D.quota) := HB.out _ (zalloc hb6) 4; clear ho6 hx6 hb6; refine ⟨_, rfl, ?_⟩)
      | (refine step_call_one 46 run_enterE (.tmp 9) #[24] (by rfl) (by rfl) (.slice a2 D.names.length c2) (by simp [go_sem]) ?_; refine (ents_like a2 c2 D.names (by omega) HE0.out (Below.refl _ _) (by rfl) (by rfl) (by rfl) (by rfl)).mono ?_; rintro e w6 ⟨a6, c6, rfl, ho6, hx6, hb6⟩; have HO6 := hide ho6; have HB6 := hide hb6; have s2 : w6.cell? ⟨w.heap.size, 2, none⟩ = some (.slice a3 D.kept.length c3) := HB.out w6 hb6 2; have s4 : w6.cell? ⟨w.heap.size, 4, none⟩ = some (.int .i64 D.quota) := HB.out w6 hb6 4; have s2a : (w6.alloc (.cells #[.slice none 0 0, .slice none 0 0, .slice none 0 0, .slice none 0 0, .int .i64 0] 27)).cell? ⟨w.heap.size, 2, none⟩ = some (.slice a3 D.kept.length c3) := HB.out _ (zalloc hb6) 2; have s4a : (w6.alloc (.cells #[.slice none 0 0, .slice none 0 0, .slice none 0 0, .slice none 0 0, .int .i64 0] 27)).cell? ⟨w.heap.size, 4, none⟩ = some (.int .i64 D.quota) := HB.out _ (zalloc hb6) 4; clear ho6 hx6 hb6; refine ⟨_, rfl, ?_⟩)
      | (refine step_call_one 46 run_enterE (.tmp 12) #[24] (by rfl) (by rfl) (.slice a3 D.kept.length c3) (by simp [go_sem]) ?_; refine (ents_like a3 c3 D.kept (by omega) HK0.out (zalloc HB6.out) (by rfl) (by rfl) (by rfl) (by rfl)).mono ?_; rintro e w7 ⟨a7, c7, rfl, ho7, hx7, hb7⟩; have HO7 := hide ho7; have hy7 := ((Below.refl w6.heap.size w6).alloc (Nat.le_refl _) (.cells zD 27)).trans (hx7.mono (by simp)); have HO6' := hide (HO6.out.below hy7); have HB7 := hide hb7; have hZ := Laid.below (Laid.new w6 zD 27) hx7 (by simp); have Z7 := hide hZ; have HZL := hide HB6.out.size; have r4 : w7.cell? ⟨w.heap.size, 4, none⟩ = some (.int .i64 D.quota) := HB.out w7 hb7 4; have r4a : (w7.alloc (.cells #[.slice none 0 0, .slice none 0 0, .slice none 0 0, .slice none 0 0, .int .i64 0] 27)).cell? ⟨w.heap.size, 4, none⟩ = some (.int .i64 D.quota) := HB.out _ (zalloc hb7) 4; have z0 : w7.cell? ⟨w6.heap.size, 0, none⟩ = some (.slice none 0 0) := hZ.cell 0; have z1 : w7.cell? ⟨w6.heap.size, 1, none⟩ = some (.slice none 0 0) := hZ.cell 1; have z2 : w7.cell? ⟨w6.heap.size, 2, none⟩ = some (.slice none 0 0) := hZ.cell 2; have z3 : w7.cell? ⟨w6.heap.size, 3, none⟩ = some (.slice none 0 0) := hZ.cell 3; have z4 : w7.cell? ⟨w6.heap.size, 4, none⟩ = some (.int .i64 0) := hZ.cell 4; have f0 := frozen_of_row w7 w6.heap.size 0 _ _ hZ; have f1 := frozen_of_row w7 w6.heap.size 1 _ _ hZ; have f2 := frozen_of_row w7 w6.heap.size 2 _ _ hZ; have f3 := frozen_of_row w7 w6.heap.size 3 _ _ hZ; have f4 := frozen_of_row w7 w6.heap.size 4 _ _ hZ; clear ho7 hx7 hb7 hy7 hZ; refine ⟨_, rfl, ?_⟩)
      | (refine step_call_one 46 run_enterE (.tmp 12) #[24] (by rfl) (by rfl) (.slice a3 D.kept.length c3) (by simp [go_sem]) ?_; refine (ents_like a3 c3 D.kept (by omega) HK0.out HB6.out (by rfl) (by rfl) (by rfl) (by rfl)).mono ?_; rintro e w7 ⟨a7, c7, rfl, ho7, hx7, hb7⟩; have HO7 := hide ho7; have HO6' := hide (HO6.out.below hx7); have HB7 := hide hb7; have hZ := Z6.out.below hx7 Z6.out.lt; have Z7 := hide hZ; have HZL := hide (Nat.le_refl w5.heap.size); have r4 : w7.cell? ⟨w.heap.size, 4, none⟩ = some (.int .i64 D.quota) := HB.out w7 hb7 4; have r4a : (w7.alloc (.cells #[.slice none 0 0, .slice none 0 0, .slice none 0 0, .slice none 0 0, .int .i64 0] 27)).cell? ⟨w.heap.size, 4, none⟩ = some (.int .i64 D.quota) := HB.out _ (zalloc hb7) 4; have z0 : w7.cell? ⟨w5.heap.size, 0, none⟩ = some (.slice none 0 0) := hZ.cell 0; have z1 : w7.cell? ⟨w5.heap.size, 1, none⟩ = some (.slice none 0 0) := hZ.cell 1; have z2 : w7.cell? ⟨w5.heap.size, 2, none⟩ = some (.slice none 0 0) := hZ.cell 2; have z3 : w7.cell? ⟨w5.heap.size, 3, none⟩ = some (.slice none 0 0) := hZ.cell 3; have z4 : w7.cell? ⟨w5.heap.size, 4, none⟩ = some (.int .i64 0) := hZ.cell 4; have f0 := frozen_of_row w7 w5.heap.size 0 _ _ hZ; have f1 := frozen_of_row w7 w5.heap.size 1 _ _ hZ; have f2 := frozen_of_row w7 w5.heap.size 2 _ _ hZ; have f3 := frozen_of_row w7 w5.heap.size 3 _ _ hZ; have f4 := frozen_of_row w7 w5.heap.size 4 _ _ hZ; clear ho7 hx7 hb7 hZ; refine ⟨_, rfl, ?_⟩)
      | (refine step_call_one 46 run_enterE (.tmp 12) #[24] (by rfl) (by rfl) (.slice a3 D.kept.length c3) (by simp [go_sem]) ?_; refine (ents_like a3 c3 D.kept (by omega) HK0.out HB6.out (by rfl) (by rfl) (by rfl) (by rfl)).mono ?_; rintro e w7 ⟨a7, c7, rfl, ho7, hx7, hb7⟩; have HO7 := hide ho7; have HO6' := hide (HO6.out.below hx7); have HB7 := hide hb7; have r4 : w7.cell? ⟨w.heap.size, 4, none⟩ = some (.int .i64 D.quota) := HB.out w7 hb7 4; have r4a : (w7.alloc (.cells #[.slice none 0 0, .slice none 0 0, .slice none 0 0, .slice none 0 0, .int .i64 0] 27)).cell? ⟨w.heap.size, 4, none⟩ = some (.int .i64 D.quota) := HB.out _ (zalloc hb7) 4; clear ho7 hx7 hb7; refine ⟨_, rfl, ?_⟩)
      | fail)
    all_goals
      go_wp2_with fail
      go_meet
      case rel =>
        first
        | with_reducible exact ⟨_, _, _, rfl, cp_old Z7.out HZL.out HO6'.out HO7.out HB7.out⟩
        | with_reducible exact ⟨_, _, _, rfl, cp_last HO6'.out HO7.out HB7.out⟩
  case rest =>
    obtain ⟨o, x6, x7, rfl, hC⟩ := hcut
    obtain ⟨a6, c6, rfl⟩ := hC.e.slice
    obtain ⟨a7, c7, rfl⟩ := hC.k.slice
    have b3 : wc.cell? ⟨o, 3, none⟩ = some (.slice none 0 0) := hC.box.cell 3
    have d3 : wc.cell? ⟨w.heap.size, 3, none⟩ = some (.slice a4 D.pend.length c4) := HB.out wc hC.bel 3
    have d0 : wc.cell? ⟨w.heap.size, 0, none⟩ = some (.slice a1 D.nodes.length c1) := HB.out wc hC.bel 0
    have OA := hide (HO0.out.below hC.bel)
    have OL := hide (show D.pend.length ≤ 1048576 by omega)
    have HCR := hide hC
    have SZ := hide hC.bel.size
    clear hC t1 t2 t4 t1a t2a t4a
    go_wp2_with (at_builtin; (refine wpList_append_dirs _ rfl (.tmp 16) (.tmp 18) rfl w5.heap.size (.slice none 0 0) [] D.pend rfl (World.ownsRow_nil _ _ _ 4) a4 c4 rfl ?_ ?_ ?_ ?_; (exact OA.out); (simp; exact OL.out); (exact SZ.out); intro v8 w8 ho8 hg8; have hst := cpl_start HCR.out ho8 hg8; have hL8 : Laid w8 o #[.slice none 0 0, .slice a6 D.names.length c6, .slice a7 D.kept.length c7, .slice none 0 0, .int .i64 D.quota] 27 := HCR.out.box.below ((Below.refl _ _).grown hg8 (Nat.le_refl _) (fun k e => by cases e)) HCR.out.box.lt; have hb8 := HCR.out.bel.trans (((Below.refl _ _).grown hg8 (Nat.le_refl _) (fun k e => by cases e)).mono HCR.out.bel.size); obtain ⟨a8, c8, rfl⟩ := ho8.slice; have HST := hide hst; have e3 : w8.cell? ⟨o, 3, none⟩ = some (.slice none 0 0) := hL8.cell 3; have g3 := frozen_of_row w8 o 3 _ _ hL8; have d0' : w8.cell? ⟨w.heap.size, 0, none⟩ = some (.slice a1 D.nodes.length c1) := HB.out w8 hb8 0; have hno : ¬ o = w.heap.size := (by have := HCR.out.lo; have := HZ5.out; omega); have hno' : ¬ w.heap.size = o := (by omega); clear hst hL8 hb8 ho8 hg8))
    simp only [List.nil_append] at HST
    generalize w8.setCell ⟨o, 3, none⟩ (.slice a8 D.pend.length c8) = W9 at HST ⊢
    clear e3 g3 d0' b3 d3 d0 OA OL HCR SZ HO0 HE0 HK0
    go_loopw [5, 24] (fun _ i wv => ∃ (j : Nat) (v1 : Value) (vs : List (Value × Value)), j ≤ D.nodes.length ∧ i = .int .i64 (j : Int) ∧ CpL w5 wv o v1 (.slice a6 D.names.length c6) (.slice a7 D.kept.length c7) (.slice a8 D.pend.length c8) vs (D.nodes.take j) D) (fun _ i _ => D.nodes.length - (intOf i).toNat)
    case atStart => exact ⟨0, _, [], Nat.zero_le _, rfl, HST.out⟩
    case round =>
      obtain ⟨j, v1, vs, hj, rfl, hC⟩ := hrel
      have hbv := hC.bel
      have HC := hide hC
      clear hC HST
      by_cases hlt : j < D.nodes.length
      · obtain ⟨b1, off1, rfl, hcn⟩ := (HN0.out.below hbv) (by omega)
        obtain ⟨ai, ci, g0, g1, hri⟩ := hcn j hlt
        have hdl := HDT.out _ (List.getElem_mem hlt)
        have HSN := hide (nodes_succ D.nodes j hlt)
        generalize D.nodes[j].1 = dd at g0 hri hdl HSN
        generalize D.nodes[j].2 = sf at g1 HSN
        have hA8 := (Below.refl wr.heap.size wr).alloc (Nat.le_refl _) (.cells #[.slice ai dd.length ci, .int .i64 sf] 49)
        have LN8 := Laid.new wr #[.slice ai dd.length ci, .int .i64 sf] 49
        have C8 := HC.out.below hA8
        have hlo8 : w5.heap.size ≤ (wr.alloc (.cells #[.slice ai dd.length ci, .int .i64 sf] 49)).heap.size := C8.bel.size
        have CALL := hide (nd_call 47 bytes_w (z := sf) C8.n hlo8 (hri.below hA8) dd.length ci rfl (by omega))
        have n0 := LN8.cell 0
        have n1 := LN8.cell 1
        have o0 : (wr.alloc (.cells #[.slice ai dd.length ci, .int .i64 sf] 49)).cell? ⟨o, 0, none⟩ = some v1 := C8.box.cell 0
        have HC8 := hide C8
        have hNl : (D.nodes.take j).length = j := by simp; omega
        generalize D.nodes.take j = N0 at HC8 CALL HSN hNl
        have hNb : N0.length ≤ 1048576 := by omega
        clear hcn hri C8 LN8 hA8 hlo8 hNl HC hbv
        go_wp2
        generalize wr.alloc (.cells #[.slice ai dd.length ci, .int .i64 sf] 49) = W8 at HC8 CALL n0 n1 o0 ⊢
        go_region_law (first
          | (refine step_call_one 47 run_enterB (.tmp 31) #[22] (by rfl) (by rfl) (.slice ai dd.length ci) (by rfl) ?_; refine (CALL.out _ ?_ ?_ ?_ ?_).mono ?_; (exact rfl); (exact rfl); (exact rfl); (exact rfl); rintro e w9 ⟨a9, c9, rfl, hkn, ha, hcl⟩; have p1 := (hcl ⟨o, 0, none⟩ (lt_of_cell0 o0)).trans o0; have l2 : o < w9.heap.size := lt_of_cell0 p1; have p2 := (hcl ⟨wr.heap.size, 1, none⟩ (lt_of_cell0 n1)).trans n1; have HKN := hide hkn; have HA := hide ha; clear hkn ha hcl; refine ⟨_, rfl, ?_⟩)
          | (refine step_append_node _ (by rfl) (.tmp 29) (.tmp 36) (by rfl) w5.heap.size v1 vs N0 (.slice a9 dd.length c9) dd sf w9.heap.size 1 (by rfl) (by rfl) ?_ ?_ ?_ ?_ ?_ ?_ ?_ ?_; (refine (HA.out _ ?_ ?_ ?_ ?_).n <;> rfl); (refine (HA.out _ ?_ ?_ ?_ ?_).c0 <;> rfl); (refine (HA.out _ ?_ ?_ ?_ ?_).c1 <;> rfl); (refine (HA.out _ ?_ ?_ ?_ ?_).ow <;> rfl); (exact HKN.out); (exact hNb); (refine (HA.out _ ?_ ?_ ?_ ?_).sz <;> rfl); intro v9 w10 ho9 hg9; have hz := nd_next HA.out HC8.out.box (by decide) (by rfl) ho9 hg9; obtain ⟨a10, c10, rfl⟩ := ho9.slice; have p3 := hz.2.2.1; have f3 := hz.2.2.2.1))
        all_goals
          have HP := hide (HC8.out.push hz.1 hz.2.1 hz.2.2.2.2)
          rw [show (N0 ++ [(dd, sf)]).length = N0.length + 1 from by simp] at HP
          clear hz p3 f3 HA HKN p1 l2 hg9 ho9 n0 n1 o0 HC8 CALL
          generalize w10.setCell ⟨o, 0, none⟩ (.slice a10 (N0.length + 1) c10) = W11 at HP ⊢
          go_wp2
          go_roundw
          case rel => exact ⟨j + 1, _, _, by omega, by go_num, by rw [HSN.out]; exact HP.out⟩
          case measure => simp [intOf]; omega
      · obtain rfl : j = D.nodes.length := by omega
        have HT := hide (List.take_length (l := D.nodes))
        rw [HT.out] at HC
        obtain ⟨x1, cx1, rfl⟩ := HC.out.n.slice
        have b0 : wr.cell? ⟨o, 0, none⟩ = some (.slice x1 D.nodes.length cx1) := HC.out.box.cell 0
        have b1 : wr.cell? ⟨o, 1, none⟩ = some (.slice a6 D.names.length c6) := HC.out.box.cell 1
        have b2 : wr.cell? ⟨o, 2, none⟩ = some (.slice a7 D.kept.length c7) := HC.out.box.cell 2
        have b3 : wr.cell? ⟨o, 3, none⟩ = some (.slice a8 D.pend.length c8) := HC.out.box.cell 3
        have b4 : wr.cell? ⟨o, 4, none⟩ = some (.int .i64 D.quota) := HC.out.box.cell 4
        have hCr : Laid wr (w.heap.size + 1) #[.slice none 0 0, .slice none 0 0, .slice none 0 0, .slice none 0 0, .int .i64 0] 27 := HL2.out.below hbv HL2.out.lt
        have f0 := frozen_of_row wr (w.heap.size + 1) 0 _ _ hCr
        have f1 := frozen_of_row wr (w.heap.size + 1) 1 _ _ hCr
        have f2 := frozen_of_row wr (w.heap.size + 1) 2 _ _ hCr
        have f3 := frozen_of_row wr (w.heap.size + 1) 3 _ _ hCr
        have f4 := frozen_of_row wr (w.heap.size + 1) 4 _ _ hCr
        have z0 : wr.cell? ⟨w.heap.size + 1, 0, none⟩ = some (.slice none 0 0) := hCr.cell 0
        have z1 : wr.cell? ⟨w.heap.size + 1, 1, none⟩ = some (.slice none 0 0) := hCr.cell 1
        have z2 : wr.cell? ⟨w.heap.size + 1, 2, none⟩ = some (.slice none 0 0) := hCr.cell 2
        have z3 : wr.cell? ⟨w.heap.size + 1, 3, none⟩ = some (.slice none 0 0) := hCr.cell 3
        have z4 : wr.cell? ⟨w.heap.size + 1, 4, none⟩ = some (.int .i64 0) := hCr.cell 4
        have HCR := hide hCr
        have HBV := hide hbv
        clear hCr hbv hlt
        go_wp2
        refine bodyPost_ret (ret_disk (w.heap.size + 1) _ _ _ _ _ _ rfl rfl (set_disk _ _ _ _ _ HCR.out)) rfl ⟨_, _, _, _, rfl, ?_, ?_⟩
        · have hle : w.heap.size ≤ w5.heap.size := by have := HZ5.out; omega
          have h := HC.out
          have dk : Dk wr w.heap.size (.slice x1 D.nodes.length cx1) (.slice a6 D.names.length c6) (.slice a7 D.kept.length c7) (.slice a8 D.pend.length c8) D := ⟨h.n.own.mono hle, h.e.mono hle, h.k.mono hle, h.p.mono hle⟩
          exact dk.setD HCR.out _ _ _ _ _
        · have hb : Below w.heap.size w wr := HA.out.trans (HBV.out.mono HA.out.size)
          exact hb.trans ((setD_fr _ _ _ _ _ _ _).below (fun g e => by omega) hb.size)
end Go.Proofs.YtpccongphchagaaGreatDoor
