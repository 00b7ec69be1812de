import Derived.Test.YtpbpidfjecejcaaGreatDoorPks
import Derived.Test.YtpbpidfjecejcaaGreatDoorPkza
import Derived.Deep.DeepCutAuto
import Derived.Deep.RegionLaw
namespace Go.Proofs.YtpbpidfjecejcaaGreatDoor
open Go.RowKit
set_option linter.unusedVariables false
set_option maxRecDepth 20000 in
set_option maxHeartbeats 4000000 in
theorem l1One_bad (base : Nat) (v1 v2 v3 v4 : Value) (D : MDisk) (kd : Int) (nm tt : ByteArray) (ad : Option Addr) (data : List Nat) (cd : Nat) (w : World) (hbase : base ≤ w.heap.size) (hW : Wkd D) (hs1 : nm.size ≤ 1048576) (hs2 : tt.size ≤ 1048576) (hdl : data.length ≤ 1048576) (hrow : RowAt w ad data) (hd : Dk w base v1 v2 v3 v4 D) (hbad : ¬ (1 ≤ kd ∧ kd ≤ 5 ∧ okName nm = true)) :
    Calls Tryz.prog 43 #[.agg #[v1, v2, v3, v4, .int .i64 D.quota], .agg #[.int .i64 kd, .string nm, .string tt, .slice ad data.length cd]] w (OnPost base w (doOne D (kd, nm, tt, data))) := by
  obtain ⟨a1, c1, rfl⟩ := hd.n.slice
  obtain ⟨a2, c2, rfl⟩ := hd.e.slice
  obtain ⟨a3, c3, rfl⟩ := hd.k.slice
  obtain ⟨a4, c4, rfl⟩ := hd.p.slice
  obtain ⟨L1, L2, L3, hA, hz⟩ := boxes3 w #[.slice a1 D.nodes.length c1, .slice a2 D.names.length c2, .slice a3 D.kept.length c3, .slice a4 D.pend.length c4, .int .i64 D.quota] #[.int .i64 kd, .string nm, .string tt, .slice ad data.length cd] #[.slice none 0 0, .slice none 0 0, .slice none 0 0, .slice none 0 0, .int .i64 0] 27 56 27
  have HD := hide (hd.below hA)
  have HRW := hide (hrow.below hA)
  have HA := hide (Kep.of_below hA hbase)
  have HAB := hide hA
  have HW := hide hW
  have hln := hW.fine.ln
  have hnn := hW.nn
  have hnp := hW.np
  clear hd hrow hW hA
  go_enter Tryz.func43, Tryz.ntmps43
  go_upto_region 1 with fail
  generalize ((w.alloc (.cells #[.slice a1 D.nodes.length c1, .slice a2 D.names.length c2, .slice a3 D.kept.length c3, .slice a4 D.pend.length c4, .int .i64 D.quota] 27)).alloc (.cells #[.int .i64 kd, .string nm, .string tt, .slice ad data.length cd] 56)).alloc (.cells #[.slice none 0 0, .slice none 0 0, .slice none 0 0, .slice none 0 0, .int .i64 0] 27) = W at L1 L2 L3 HD HRW HA HAB hz ⊢
  have HZ := hide hz
  have q0 : W.cell? ⟨w.heap.size, 0, none⟩ = some (.slice a1 D.nodes.length c1) := L1.cell 0
  have q1 : W.cell? ⟨w.heap.size, 1, none⟩ = some (.slice a2 D.names.length c2) := L1.cell 1
  have q2 : W.cell? ⟨w.heap.size, 2, none⟩ = some (.slice a3 D.kept.length c3) := L1.cell 2
  have q3 : W.cell? ⟨w.heap.size, 3, none⟩ = some (.slice a4 D.pend.length c4) := L1.cell 3
  have q4 : W.cell? ⟨w.heap.size, 4, none⟩ = some (.int .i64 D.quota) := L1.cell 4
  have o0 : W.cell? ⟨w.heap.size + 1, 0, none⟩ = some (.int .i64 kd) := L2.cell 0
  have o1 : W.cell? ⟨w.heap.size + 1, 1, none⟩ = some (.string nm) := L2.cell 1
  have o2 : W.cell? ⟨w.heap.size + 1, 2, none⟩ = some (.string tt) := L2.cell 2
  have o3 : W.cell? ⟨w.heap.size + 1, 3, none⟩ = some (.slice ad data.length cd) := L2.cell 3
  have z0 : W.cell? ⟨w.heap.size + 1 + 1, 0, none⟩ = some (.slice none 0 0) := L3.cell 0
  have z1 : W.cell? ⟨w.heap.size + 1 + 1, 1, none⟩ = some (.slice none 0 0) := L3.cell 1
  have z2 : W.cell? ⟨w.heap.size + 1 + 1, 2, none⟩ = some (.slice none 0 0) := L3.cell 2
  have z3 : W.cell? ⟨w.heap.size + 1 + 1, 3, none⟩ = some (.slice none 0 0) := L3.cell 3
  have z4 : W.cell? ⟨w.heap.size + 1 + 1, 4, none⟩ = some (.int .i64 0) := L3.cell 4
  have f0 := frozen_of_row W (w.heap.size + 1 + 1) 0 _ _ L3
  have f1 := frozen_of_row W (w.heap.size + 1 + 1) 1 _ _ L3
  have f2 := frozen_of_row W (w.heap.size + 1 + 1) 2 _ _ L3
  have f3 := frozen_of_row W (w.heap.size + 1 + 1) 3 _ _ L3
  have f4 := frozen_of_row W (w.heap.size + 1 + 1) 4 _ _ L3
  have HL1 := hide L1
  have HL2 := hide L2
  have HL3 := hide L3
  clear L1 L2 L3 hz
  -- what every way without a change ends with
  have END := hide (fun (code : Int) (hR : doOne D (kd, nm, tt, data) = (D, code)) => on_end (w := w) (B := w.heap.size + 1 + 1) hR rfl HD.out HL3.out HA.out (by omega) hbase (fun _ => HAB.out))
  have FIND := hide (l1Find_n a2 c2 D.names nm W (by omega) HD.out.e.at)
  by_cases h1 : kd < 1
  · go_wp2
    exact bodyPost_ret (ret_one (w.heap.size + 1 + 1) _ _ _ _ _ _ _ rfl rfl rfl (set_disk _ _ _ _ _ HL3.out)) rfl (END.out 2 (one_kind (.inl h1)))
  by_cases h6 : 6 < kd
  · go_wp2
    exact bodyPost_ret (ret_one (w.heap.size + 1 + 1) _ _ _ _ _ _ _ rfl rfl rfl (set_disk _ _ _ _ _ HL3.out)) rfl (END.out 2 (one_kind (.inr h6)))
  by_cases h6e : kd = 6
  · subst h6e
    have SE := hide (l1Settle_any _ D W HW.out HD.out.own.at)
    have HR := hide (one_dir (D := D) (o := (6, nm, tt, data)) rfl)
    go_wp2_with fail
    refine SE.out.mono ?_
    rintro e w2 ⟨y1, y2, y3, y4, vs, rfl, hda, hb2⟩
    have L3 := HL3.out.below hb2 HL3.out.lt
    have g0 := frozen_of_row w2 (w.heap.size + 1 + 1) 0 _ _ L3
    have g1 := frozen_of_row w2 (w.heap.size + 1 + 1) 1 _ _ L3
    have g2 := frozen_of_row w2 (w.heap.size + 1 + 1) 2 _ _ L3
    have g3 := frozen_of_row w2 (w.heap.size + 1 + 1) 3 _ _ L3
    have g4 := frozen_of_row w2 (w.heap.size + 1 + 1) 4 _ _ L3
    have k0 : w2.cell? ⟨w.heap.size + 1 + 1, 0, none⟩ = some (.slice none 0 0) := L3.cell 0
    have k1 : w2.cell? ⟨w.heap.size + 1 + 1, 1, none⟩ = some (.slice none 0 0) := L3.cell 1
    have k2 : w2.cell? ⟨w.heap.size + 1 + 1, 2, none⟩ = some (.slice none 0 0) := L3.cell 2
    have k3 : w2.cell? ⟨w.heap.size + 1 + 1, 3, none⟩ = some (.slice none 0 0) := L3.cell 3
    have k4 : w2.cell? ⟨w.heap.size + 1 + 1, 4, none⟩ = some (.int .i64 0) := L3.cell 4
    have HL := hide L3
    have hlow : base ≤ W.heap.size := by have := HZ.out; omega
    have HDK := hide (show Dk w2 base y1 y2 y3 y4 (settleD D) from ⟨hda.nodes.own.mono hlow, hda.names.mono hlow, hda.kept.mono hlow, hda.pend.mono hlow⟩)
    have HB := hide (HA.out.trans (Kep.of_below hb2 hlow))
    obtain ⟨b1, d1, rfl⟩ := hda.nodes.slice
    obtain ⟨b2, d2, rfl⟩ := hda.names.slice
    obtain ⟨b3, d3, rfl⟩ := hda.kept.slice
    obtain ⟨b4, d4, rfl⟩ := hda.pend.slice
    clear hda hb2 L3 SE
    go_wp2
    exact bodyPost_ret (ret_one (w.heap.size + 1 + 1) _ _ _ _ _ _ _ rfl rfl rfl (set_disk _ _ _ _ _ HL.out)) rfl (on_end (w := w) HR.out rfl HDK.out HL.out HB.out (by omega) hbase (fun h => absurd rfl h))
  have GN := hide (l1GoodName_any nm W (by omega))
  have hk5 : kd ≤ 5 := by omega
  have hk1 : 1 ≤ kd := by omega
  clear h6 h6e h1
  cases hok : okName nm with
  | false =>
    rw [hok] at GN
    go_wp2_with fail
    refine GN.out.mono ?_
    rintro e w2 ⟨rfl, hw2⟩
    have hw2' := hw2.symm
    subst hw2'
    go_wp2
    exact bodyPost_ret (ret_one (w.heap.size + 1 + 1) _ _ _ _ _ _ _ rfl rfl rfl (set_disk _ _ _ _ _ HL3.out)) rfl (END.out 3 (one_name hk1 hk5 (.inl hok)))
  | true => exact absurd ⟨hk1, hk5, hok⟩ hbad
end Go.Proofs.YtpbpidfjecejcaaGreatDoor
