import Derived.Test.YtpccongphchagaaGreatDoorPku
import Derived.Deep.DeepCutAuto
import Derived.Deep.RegionLaw
namespace Go.Proofs.YtpccongphchagaaGreatDoor
open Go.RowKit
set_option linter.unusedVariables false
set_option maxRecDepth 20000 in
set_option maxHeartbeats 4000000 in
theorem l1One_new (base : Nat) (v1 v2 v3 v4 : Value) (D : MDisk) (nm tt : ByteArray) (ad : Option Addr) (data : List Nat) (cd : Nat) (w : World) (hbase : base ≤ w.heap.size) (hW : Wkd D) (hs1 : nm.size ≤ 1048576) (hs2 : tt.size ≤ 1048576) (hdl : data.length ≤ 1048576) (hrow : RowAt w ad data) (hd : Dk w base v1 v2 v3 v4 D) (hok : okName nm = true) :
    Calls Tryz.prog 18 #[.agg #[v1, v2, v3, v4, .int .i64 D.quota], .agg #[.int .i64 1, .string nm, .string tt, .slice ad data.length cd]] w (OnPost base w (doOne D (1, nm, tt, data))) := by
  obtain ⟨a1, c1, rfl⟩ := hd.n.slice
  obtain ⟨a2, c2, rfl⟩ := hd.e.slice
  obtain ⟨a3, c3, rfl⟩ := hd.k.slice
  obtain ⟨a4, c4, rfl⟩ := hd.p.slice
  obtain ⟨L1, L2, L3, hA, hz⟩ := boxes3 w #[.slice a1 D.nodes.length c1, .slice a2 D.names.length c2, .slice a3 D.kept.length c3, .slice a4 D.pend.length c4, .int .i64 D.quota] #[.int .i64 1, .string nm, .string tt, .slice ad data.length cd] #[.slice none 0 0, .slice none 0 0, .slice none 0 0, .slice none 0 0, .int .i64 0] 27 39 27
  have HD := hide (hd.below hA)
  have HRW := hide (hrow.below hA)
  have HA := hide (Kep.of_below hA hbase)
  have HAB := hide hA
  have HW := hide hW
  have hln := hW.fine.ln
  have hnn := hW.nn
  have hnp := hW.np
  clear hd hrow hW hA
  go_enter Tryz.func18, Tryz.ntmps18
  go_upto_region 1 with fail
  generalize ((w.alloc (.cells #[.slice a1 D.nodes.length c1, .slice a2 D.names.length c2, .slice a3 D.kept.length c3, .slice a4 D.pend.length c4, .int .i64 D.quota] 27)).alloc (.cells #[.int .i64 1, .string nm, .string tt, .slice ad data.length cd] 39)).alloc (.cells #[.slice none 0 0, .slice none 0 0, .slice none 0 0, .slice none 0 0, .int .i64 0] 27) = W at L1 L2 L3 HD HRW HA HAB hz ⊢
  have HZ := hide hz
  have q0 : W.cell? ⟨w.heap.size, 0, none⟩ = some (.slice a1 D.nodes.length c1) := L1.cell 0
  have q1 : W.cell? ⟨w.heap.size, 1, none⟩ = some (.slice a2 D.names.length c2) := L1.cell 1
  have q2 : W.cell? ⟨w.heap.size, 2, none⟩ = some (.slice a3 D.kept.length c3) := L1.cell 2
  have q3 : W.cell? ⟨w.heap.size, 3, none⟩ = some (.slice a4 D.pend.length c4) := L1.cell 3
  have q4 : W.cell? ⟨w.heap.size, 4, none⟩ = some (.int .i64 D.quota) := L1.cell 4
  have o0 : W.cell? ⟨w.heap.size + 1, 0, none⟩ = some (.int .i64 1) := L2.cell 0
  have o1 : W.cell? ⟨w.heap.size + 1, 1, none⟩ = some (.string nm) := L2.cell 1
  have o2 : W.cell? ⟨w.heap.size + 1, 2, none⟩ = some (.string tt) := L2.cell 2
  have o3 : W.cell? ⟨w.heap.size + 1, 3, none⟩ = some (.slice ad data.length cd) := L2.cell 3
  have z0 : W.cell? ⟨w.heap.size + 1 + 1, 0, none⟩ = some (.slice none 0 0) := L3.cell 0
  have z1 : W.cell? ⟨w.heap.size + 1 + 1, 1, none⟩ = some (.slice none 0 0) := L3.cell 1
  have z2 : W.cell? ⟨w.heap.size + 1 + 1, 2, none⟩ = some (.slice none 0 0) := L3.cell 2
  have z3 : W.cell? ⟨w.heap.size + 1 + 1, 3, none⟩ = some (.slice none 0 0) := L3.cell 3
  have z4 : W.cell? ⟨w.heap.size + 1 + 1, 4, none⟩ = some (.int .i64 0) := L3.cell 4
  have f0 := frozen_of_row W (w.heap.size + 1 + 1) 0 _ _ L3
  have f1 := frozen_of_row W (w.heap.size + 1 + 1) 1 _ _ L3
  have f2 := frozen_of_row W (w.heap.size + 1 + 1) 2 _ _ L3
  have f3 := frozen_of_row W (w.heap.size + 1 + 1) 3 _ _ L3
  have f4 := frozen_of_row W (w.heap.size + 1 + 1) 4 _ _ L3
  have HL1 := hide L1
  have HL2 := hide L2
  have HL3 := hide L3
  clear L1 L2 L3 hz
  -- what every way without a change ends with
  have END := hide (fun (code : Int) (hR : doOne D (1, nm, tt, data) = (D, code)) => on_end (w := w) (B := w.heap.size + 1 + 1) hR rfl HD.out HL3.out HA.out (by omega) hbase (fun _ => HAB.out))
  have FIND := hide (l1Find_n a2 c2 D.names nm W (by omega) HD.out.e.at)
  have GN := hide (l1GoodName_any nm W (by omega))
  rw [hok] at GN
  have HOK := hide hok
  clear hok
  have HNM := hide (show nmOk (1, nm, tt, data) from ⟨HOK.out, fun e => absurd e (by simp)⟩)
  go_wp2_with fail
  refine GN.out.mono ?_
  rintro e w2 ⟨rfl, hw2⟩
  have hw2' := hw2.symm
  subst hw2'
  clear GN
  go_wp2_with fail
  refine FIND.out.mono ?_
  rintro e w2 ⟨hfd, hw2⟩
  have HFD := hide hfd
  clear hfd
  have hw2' := hw2.symm
  subst hw2'
  clear FIND
  by_cases F1 : 600 ≤ D.nodes.length
  · rcases HFD.out with ⟨i, nd, hi, hin, hcell, rfl⟩ | ⟨hno, rfl⟩
    all_goals
      go_wp2
      exact bodyPost_ret (ret_one (w.heap.size + 1 + 1) _ _ _ _ _ _ _ rfl rfl rfl (set_disk _ _ _ _ _ HL3.out)) rfl (END.out 6 (one_full rfl HNM.out (.inl F1)))
  by_cases F2 : 1000 ≤ D.pend.length
  · rcases HFD.out with ⟨i, nd, hi, hin, hcell, rfl⟩ | ⟨hno, rfl⟩
    all_goals
      go_wp2
      exact bodyPost_ret (ret_one (w.heap.size + 1 + 1) _ _ _ _ _ _ _ rfl rfl rfl (set_disk _ _ _ _ _ HL3.out)) rfl (END.out 6 (one_full rfl HNM.out (.inr (.inl F2))))
  have FULL3 : ¬ (nodeIn D.names nm = none ∧ 300 ≤ D.names.length) ∨ (nodeIn D.names nm = none ∧ 300 ≤ D.names.length) := by
    by_cases h : nodeIn D.names nm = none ∧ 300 ≤ D.names.length
    · exact .inr h
    · exact .inl h
  rcases FULL3 with F3 | F3
  · have HR := hide (one_new (D := D) (o := (1, nm, tt, data)) rfl HNM.out (fun h => h.elim F1 (fun h => h.elim F2 F3)))
    have HRP := hide (rep_create (N := D.nodes.length) HOK.out HW.out.fine.nd)
    have hlow : base ≤ W.heap.size := by have := HZ.out; omega
    have HLT := hide hlow
    have hgo : ∃ at_ : Int, (e = .returned (.int .i64 at_)) ∧ (at_ < 0 → ¬ 300 ≤ D.names.length) := by
      rcases HFD.out with ⟨i, nd, hi, hin, hcell, rfl⟩ | ⟨hno, rfl⟩
      · exact ⟨_, rfl, fun h => by omega⟩
      · exact ⟨_, rfl, fun _ h => F3 ⟨hno, h⟩⟩
    obtain ⟨at_, rfl, hat⟩ := hgo
    clear HFD F3
    have hnb : D.nodes.length ≤ 1048576 := by omega
    have NA := hide (HD.out.n.below ((Below.refl W.heap.size W).alloc (Nat.le_refl _) (.cells #[.slice none 0 0, .int .i64 0] 49)))
    have LA := Laid.new W #[.slice none 0 0, .int .i64 0] 49
    have la0 : (W.alloc (.cells #[.slice none 0 0, .int .i64 0] 49)).cell? ⟨W.heap.size, 0, none⟩ = some (.slice none 0 0) := LA.cell 0
    have la1 : (W.alloc (.cells #[.slice none 0 0, .int .i64 0] 49)).cell? ⟨W.heap.size, 1, none⟩ = some (.int .i64 0) := LA.cell 1
    have LA0 := hide la0
    have LA1 := hide la1
    clear LA la0 la1
    have parts : at_ < 0 ∨ ¬ at_ < 0 := by omega
    rcases parts with hneg | hpos
    · have hn3 := hat hneg
      go_wp2_with (at_builtin; (refine wpList_append_nodeN _ rfl (.tmp 70) (.tmp 72) rfl base (.slice a1 D.nodes.length c1) D.nodes (.slice none 0 0) [] 0 W.heap.size 1 rfl rfl ?_ ?_ ?_ ?_ hnb ?_ ?_; (exact NA.out); (exact LA0.out); (exact LA1.out); (exact OwnB.nil _ _); (simp; exact Nat.le_succ_of_le HLT.out); intro v5 w5 ho5 hg5; obtain ⟨hdk5, hk5, hl5⟩ := new_next HD.out HA.out hbase ho5 hg5; obtain ⟨a5, c5, rfl⟩ := ho5.slice; have HDK5 := hide hdk5; have HK5 := hide hk5; have M1 := hl5 _ _ _ HL1.out (by decide); have M2 := hl5 _ _ _ HL2.out (by decide); have M3 := hl5 _ _ _ HL3.out (by decide); rw [show (D.nodes ++ [(([] : List Nat), (0 : Int))]).length = D.nodes.length + 1 from by simp] at HDK5; have m0 : w5.cell? ⟨w.heap.size, 0, none⟩ = some (.slice a1 D.nodes.length c1) := M1.cell 0; have m1 : w5.cell? ⟨w.heap.size, 1, none⟩ = some (.slice a2 D.names.length c2) := M1.cell 1; have m2 : w5.cell? ⟨w.heap.size, 2, none⟩ = some (.slice a3 D.kept.length c3) := M1.cell 2; have m3 : w5.cell? ⟨w.heap.size, 3, none⟩ = some (.slice a4 D.pend.length c4) := M1.cell 3; have m4 : w5.cell? ⟨w.heap.size, 4, none⟩ = some (.int .i64 D.quota) := M1.cell 4; have p0 : w5.cell? ⟨w.heap.size + 1, 0, none⟩ = some (.int .i64 1) := M2.cell 0; have p1 : w5.cell? ⟨w.heap.size + 1, 1, none⟩ = some (.string nm) := M2.cell 1; have mf := frozen_of_row w5 w.heap.size 0 _ _ M1; have HM1 := hide M1; have HM3 := hide M3; clear hdk5 hk5 hl5 M1 M2 M3 ho5 hg5 q0 q1 q2 q3 q4 o0 o1 o2 o3 z0 z1 z2 z3 z4 f0 f1 f2 f3 f4))
      have DK6 := HDK5.out.box HM1.out (by decide) 0 (.slice a5 (D.nodes.length + 1) c5)
      have HKX := hide (HK5.out.setNew (p := ⟨w.heap.size, 0, none⟩) (Nat.le_refl _) hbase (.slice a5 (D.nodes.length + 1) c5))
      have M3 := hide (HM3.out.other (p := ⟨w.heap.size, 0, none⟩) (by simp; omega) (.slice a5 (D.nodes.length + 1) c5))
      have hsz5 : base ≤ (w5.setCell ⟨w.heap.size, 0, none⟩ (.slice a5 (D.nodes.length + 1) c5)).heap.size := Nat.le_trans hbase HKX.out.bel.size
      have DIR := hide (l1Dir_any base _ _ _ _ (newD D) 1 nm noStr (D.nodes.length : Int) _ (w5.setCell ⟨w.heap.size, 0, none⟩ (.slice a5 (D.nodes.length + 1) c5)) hsz5 (by simp only [newD]; omega) (by simp only [newD]; omega) hs1 (by simp [noStr, ByteArray.size]) (by simpa [newD] using HRP.out) DK6)
      unfold noStr at *
      clear DK6 hsz5
      refine DIR.out.mono ?_
      rintro e w7 ⟨y1, y2, y3, y4, rfl, hd7, hk7⟩
      obtain ⟨b1, d1, rfl⟩ := hd7.n.slice
      obtain ⟨b2, d2, rfl⟩ := hd7.e.slice
      obtain ⟨b3, d3, rfl⟩ := hd7.k.slice
      obtain ⟨b4, d4, rfl⟩ := hd7.p.slice
      have L3 := hk7.laid M3.out (by decide) (by decide)
      have k0 : w7.cell? ⟨w.heap.size + 1 + 1, 0, none⟩ = some (.slice none 0 0) := L3.cell 0
      have g0 := frozen_of_row w7 (w.heap.size + 1 + 1) 0 _ _ L3
      have k1 : w7.cell? ⟨w.heap.size + 1 + 1, 1, none⟩ = some (.slice none 0 0) := L3.cell 1
      have g1 := frozen_of_row w7 (w.heap.size + 1 + 1) 1 _ _ L3
      have k2 : w7.cell? ⟨w.heap.size + 1 + 1, 2, none⟩ = some (.slice none 0 0) := L3.cell 2
      have g2 := frozen_of_row w7 (w.heap.size + 1 + 1) 2 _ _ L3
      have k3 : w7.cell? ⟨w.heap.size + 1 + 1, 3, none⟩ = some (.slice none 0 0) := L3.cell 3
      have g3 := frozen_of_row w7 (w.heap.size + 1 + 1) 3 _ _ L3
      have k4 : w7.cell? ⟨w.heap.size + 1 + 1, 4, none⟩ = some (.int .i64 0) := L3.cell 4
      have g4 := frozen_of_row w7 (w.heap.size + 1 + 1) 4 _ _ L3
      have HL := hide L3
      have HD7 := hide hd7
      have HK7 := hide (HKX.out.trans hk7)
      clear hd7 hk7 L3 DIR m0 m1 m2 m3 m4 p0 p1 mf
      go_wp2
      exact bodyPost_ret (ret_one (w.heap.size + 1 + 1) _ _ _ _ _ _ _ rfl rfl rfl (set_disk _ _ _ _ _ HL.out)) rfl (on_end (w := w) HR.out rfl HD7.out HL.out HK7.out (by omega) hbase (fun h => absurd rfl h))
    · skip
      go_wp2_with (at_builtin; (refine wpList_append_nodeN _ rfl (.tmp 70) (.tmp 72) rfl base (.slice a1 D.nodes.length c1) D.nodes (.slice none 0 0) [] 0 W.heap.size 1 rfl rfl ?_ ?_ ?_ ?_ hnb ?_ ?_; (exact NA.out); (exact LA0.out); (exact LA1.out); (exact OwnB.nil _ _); (simp; exact Nat.le_succ_of_le HLT.out); intro v5 w5 ho5 hg5; obtain ⟨hdk5, hk5, hl5⟩ := new_next HD.out HA.out hbase ho5 hg5; obtain ⟨a5, c5, rfl⟩ := ho5.slice; have HDK5 := hide hdk5; have HK5 := hide hk5; have M1 := hl5 _ _ _ HL1.out (by decide); have M2 := hl5 _ _ _ HL2.out (by decide); have M3 := hl5 _ _ _ HL3.out (by decide); rw [show (D.nodes ++ [(([] : List Nat), (0 : Int))]).length = D.nodes.length + 1 from by simp] at HDK5; have m0 : w5.cell? ⟨w.heap.size, 0, none⟩ = some (.slice a1 D.nodes.length c1) := M1.cell 0; have m1 : w5.cell? ⟨w.heap.size, 1, none⟩ = some (.slice a2 D.names.length c2) := M1.cell 1; have m2 : w5.cell? ⟨w.heap.size, 2, none⟩ = some (.slice a3 D.kept.length c3) := M1.cell 2; have m3 : w5.cell? ⟨w.heap.size, 3, none⟩ = some (.slice a4 D.pend.length c4) := M1.cell 3; have m4 : w5.cell? ⟨w.heap.size, 4, none⟩ = some (.int .i64 D.quota) := M1.cell 4; have p0 : w5.cell? ⟨w.heap.size + 1, 0, none⟩ = some (.int .i64 1) := M2.cell 0; have p1 : w5.cell? ⟨w.heap.size + 1, 1, none⟩ = some (.string nm) := M2.cell 1; have mf := frozen_of_row w5 w.heap.size 0 _ _ M1; have HM1 := hide M1; have HM3 := hide M3; clear hdk5 hk5 hl5 M1 M2 M3 ho5 hg5 q0 q1 q2 q3 q4 o0 o1 o2 o3 z0 z1 z2 z3 z4 f0 f1 f2 f3 f4))
      have DK6 := HDK5.out.box HM1.out (by decide) 0 (.slice a5 (D.nodes.length + 1) c5)
      have HKX := hide (HK5.out.setNew (p := ⟨w.heap.size, 0, none⟩) (Nat.le_refl _) hbase (.slice a5 (D.nodes.length + 1) c5))
      have M3 := hide (HM3.out.other (p := ⟨w.heap.size, 0, none⟩) (by simp; omega) (.slice a5 (D.nodes.length + 1) c5))
      have hsz5 : base ≤ (w5.setCell ⟨w.heap.size, 0, none⟩ (.slice a5 (D.nodes.length + 1) c5)).heap.size := Nat.le_trans hbase HKX.out.bel.size
      have DIR := hide (l1Dir_any base _ _ _ _ (newD D) 1 nm noStr (D.nodes.length : Int) _ (w5.setCell ⟨w.heap.size, 0, none⟩ (.slice a5 (D.nodes.length + 1) c5)) hsz5 (by simp only [newD]; omega) (by simp only [newD]; omega) hs1 (by simp [noStr, ByteArray.size]) (by simpa [newD] using HRP.out) DK6)
      unfold noStr at *
      clear DK6 hsz5
      refine DIR.out.mono ?_
      rintro e w7 ⟨y1, y2, y3, y4, rfl, hd7, hk7⟩
      obtain ⟨b1, d1, rfl⟩ := hd7.n.slice
      obtain ⟨b2, d2, rfl⟩ := hd7.e.slice
      obtain ⟨b3, d3, rfl⟩ := hd7.k.slice
      obtain ⟨b4, d4, rfl⟩ := hd7.p.slice
      have L3 := hk7.laid M3.out (by decide) (by decide)
      have k0 : w7.cell? ⟨w.heap.size + 1 + 1, 0, none⟩ = some (.slice none 0 0) := L3.cell 0
      have g0 := frozen_of_row w7 (w.heap.size + 1 + 1) 0 _ _ L3
      have k1 : w7.cell? ⟨w.heap.size + 1 + 1, 1, none⟩ = some (.slice none 0 0) := L3.cell 1
      have g1 := frozen_of_row w7 (w.heap.size + 1 + 1) 1 _ _ L3
      have k2 : w7.cell? ⟨w.heap.size + 1 + 1, 2, none⟩ = some (.slice none 0 0) := L3.cell 2
      have g2 := frozen_of_row w7 (w.heap.size + 1 + 1) 2 _ _ L3
      have k3 : w7.cell? ⟨w.heap.size + 1 + 1, 3, none⟩ = some (.slice none 0 0) := L3.cell 3
      have g3 := frozen_of_row w7 (w.heap.size + 1 + 1) 3 _ _ L3
      have k4 : w7.cell? ⟨w.heap.size + 1 + 1, 4, none⟩ = some (.int .i64 0) := L3.cell 4
      have g4 := frozen_of_row w7 (w.heap.size + 1 + 1) 4 _ _ L3
      have HL := hide L3
      have HD7 := hide hd7
      have HK7 := hide (HKX.out.trans hk7)
      clear hd7 hk7 L3 DIR m0 m1 m2 m3 m4 p0 p1 mf
      go_wp2
      exact bodyPost_ret (ret_one (w.heap.size + 1 + 1) _ _ _ _ _ _ _ rfl rfl rfl (set_disk _ _ _ _ _ HL.out)) rfl (on_end (w := w) HR.out rfl HD7.out HL.out HK7.out (by omega) hbase (fun h => absurd rfl h))
  · have hno := F3.1
    have hn3 := F3.2
    rcases HFD.out with ⟨i, nd, hi, hin, hcell, rfl⟩ | ⟨_, rfl⟩
    · rw [hno] at hin; cases hin
    · go_wp2
      exact bodyPost_ret (ret_one (w.heap.size + 1 + 1) _ _ _ _ _ _ _ rfl rfl rfl (set_disk _ _ _ _ _ HL3.out)) rfl (END.out 6 (one_full rfl HNM.out (.inr (.inr F3))))
end Go.Proofs.YtpccongphchagaaGreatDoor
