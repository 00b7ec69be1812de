import Derived.Test.YtpccongphchagaaGreatDoorPkzg
import Derived.Test.YtpccongphchagaaGreatDoorPkzb
import Derived.Test.YtpccongphchagaaGreatDoorPkx
namespace Go.Proofs.YtpccongphchagaaGreatDoor
open Go.RowKit
set_option linter.unusedVariables false
theorem one_code (D : MDisk) (o : OpV) : (doOne D o).2 = 0 ∨ (2 ≤ (doOne D o).2 ∧ (doOne D o).2 ≤ 6) := by
  unfold doOne
  repeat' split
  all_goals simp
theorem run_code : ∀ (ops : List OpV) (D : MDisk), (doRun D ops).2.2 = 0 ∨ (2 ≤ (doRun D ops).2.2 ∧ (doRun D ops).2.2 ≤ 6)
  | [], D => .inl rfl
  | o :: r, D => by
    unfold doRun
    split
    · exact run_code r _
    · exact one_code D o
theorem run_count : ∀ (ops : List OpV) (D : MDisk), (doRun D ops).2.2 = 0 → (doRun D ops).2.1 = ops.length
  | [], D, _ => rfl
  | o :: r, D, h => by
    unfold doRun at h ⊢
    split at h
    · next h0 =>
      rw [if_pos h0]
      have := run_count r _ h
      simp only [List.length_cons]
      omega
    · next h0 => exact absurd h h0
theorem run_wkd : ∀ (ops : List OpV) (D : MDisk), Wkd D → Wkd (doRun D ops).1
  | [], D, h => h
  | o :: r, D, h => by
    unfold doRun
    split
    · exact run_wkd r _ (doOne_wkd o h)
    · exact h
set_option maxRecDepth 20000 in
theorem codeOf_nil (w : World) : Calls Tryz.prog 23 #[.nilIface] w fun e w' => e = .returned (.int .i64 0) ∧ Below w.heap.size w w' := by
  go_enter Tryz.func23, Tryz.ntmps23
  go_wp2_with fail
  refine (is_nil _ _).mono ?_
  rintro e w1 ⟨rfl, rfl⟩
  go_wp2_with fail
  refine (is_nil _ _).mono ?_
  rintro e w1 ⟨rfl, rfl⟩
  go_wp2_with fail
  refine (is_nil _ _).mono ?_
  rintro e w1 ⟨rfl, rfl⟩
  go_wp2_with fail
  refine (is_nil _ _).mono ?_
  rintro e w1 ⟨rfl, rfl⟩
  go_wp2_with fail
  refine (is_nil _ _).mono ?_
  rintro e w1 ⟨rfl, rfl⟩
  go_wp2
  go_ret
  exact ⟨rfl, Below.refl _ _⟩
set_option maxRecDepth 20000 in
theorem codeOf_2 (n : Nat) (w : World) : Calls Tryz.prog 23 #[allV n 2] w fun e w' => e = .returned (.int .i64 2) ∧ Below w.heap.size w w' := by
  have e0 : allV n 2 = .iface 102 (.agg #[.int .i64 (n : Int), .iface 106 (.int .i64 1)]) := rfl
  rw [e0]
  clear e0
  go_enter Tryz.func23, Tryz.ntmps23
  go_wp2_with fail
  refine (is_op _ _ _ _).mono ?_
  rintro e w1 ⟨rfl, hb1⟩
  rw [show ((1 : Int) == 1) = true from by decide]
  have HB1 := hide hb1
  clear hb1
  go_wp2
  go_ret
  exact ⟨rfl, HB1.out⟩
set_option maxRecDepth 20000 in
theorem codeOf_3 (n : Nat) (w : World) : Calls Tryz.prog 23 #[allV n 3] w fun e w' => e = .returned (.int .i64 3) ∧ Below w.heap.size w w' := by
  have e0 : allV n 3 = .iface 102 (.agg #[.int .i64 (n : Int), .iface 106 (.int .i64 2)]) := rfl
  rw [e0]
  clear e0
  go_enter Tryz.func23, Tryz.ntmps23
  go_wp2_with fail
  refine (is_op _ _ _ _).mono ?_
  rintro e w1 ⟨rfl, hb1⟩
  rw [show ((2 : Int) == 1) = false from by decide]
  have HB1 := hide hb1
  clear hb1
  go_wp2_with fail
  refine (is_op _ _ _ _).mono ?_
  rintro e w2 ⟨rfl, hb2⟩
  rw [show ((2 : Int) == 2) = true from by decide]
  have HB2 := hide (HB1.out.trans (hb2.mono HB1.out.size))
  clear hb2
  go_wp2
  go_ret
  exact ⟨rfl, HB2.out⟩
set_option maxRecDepth 20000 in
theorem codeOf_4 (n : Nat) (w : World) : Calls Tryz.prog 23 #[allV n 4] w fun e w' => e = .returned (.int .i64 4) ∧ Below w.heap.size w w' := by
  have e0 : allV n 4 = .iface 102 (.agg #[.int .i64 (n : Int), .iface 106 (.int .i64 3)]) := rfl
  rw [e0]
  clear e0
  go_enter Tryz.func23, Tryz.ntmps23
  go_wp2_with fail
  refine (is_op _ _ _ _).mono ?_
  rintro e w1 ⟨rfl, hb1⟩
  rw [show ((3 : Int) == 1) = false from by decide]
  have HB1 := hide hb1
  clear hb1
  go_wp2_with fail
  refine (is_op _ _ _ _).mono ?_
  rintro e w2 ⟨rfl, hb2⟩
  rw [show ((3 : Int) == 2) = false from by decide]
  have HB2 := hide (HB1.out.trans (hb2.mono HB1.out.size))
  clear hb2
  go_wp2_with fail
  refine (is_op _ _ _ _).mono ?_
  rintro e w3 ⟨rfl, hb3⟩
  rw [show ((3 : Int) == 3) = true from by decide]
  have HB3 := hide (HB2.out.trans (hb3.mono HB2.out.size))
  clear hb3
  go_wp2
  go_ret
  exact ⟨rfl, HB3.out⟩
set_option maxRecDepth 20000 in
theorem codeOf_5 (n : Nat) (w : World) : Calls Tryz.prog 23 #[allV n 5] w fun e w' => e = .returned (.int .i64 5) ∧ Below w.heap.size w w' := by
  have e0 : allV n 5 = .iface 102 (.agg #[.int .i64 (n : Int), .iface 106 (.int .i64 4)]) := rfl
  rw [e0]
  clear e0
  go_enter Tryz.func23, Tryz.ntmps23
  go_wp2_with fail
  refine (is_op _ _ _ _).mono ?_
  rintro e w1 ⟨rfl, hb1⟩
  rw [show ((4 : Int) == 1) = false from by decide]
  have HB1 := hide hb1
  clear hb1
  go_wp2_with fail
  refine (is_op _ _ _ _).mono ?_
  rintro e w2 ⟨rfl, hb2⟩
  rw [show ((4 : Int) == 2) = false from by decide]
  have HB2 := hide (HB1.out.trans (hb2.mono HB1.out.size))
  clear hb2
  go_wp2_with fail
  refine (is_op _ _ _ _).mono ?_
  rintro e w3 ⟨rfl, hb3⟩
  rw [show ((4 : Int) == 3) = false from by decide]
  have HB3 := hide (HB2.out.trans (hb3.mono HB2.out.size))
  clear hb3
  go_wp2_with fail
  refine (is_op _ _ _ _).mono ?_
  rintro e w4 ⟨rfl, hb4⟩
  rw [show ((4 : Int) == 4) = true from by decide]
  have HB4 := hide (HB3.out.trans (hb4.mono HB3.out.size))
  clear hb4
  go_wp2
  go_ret
  exact ⟨rfl, HB4.out⟩
set_option maxRecDepth 20000 in
theorem codeOf_6 (n : Nat) (w : World) : Calls Tryz.prog 23 #[allV n 6] w fun e w' => e = .returned (.int .i64 6) ∧ Below w.heap.size w w' := by
  have e0 : allV n 6 = .iface 102 (.agg #[.int .i64 (n : Int), .iface 106 (.int .i64 5)]) := rfl
  rw [e0]
  clear e0
  go_enter Tryz.func23, Tryz.ntmps23
  go_wp2_with fail
  refine (is_op _ _ _ _).mono ?_
  rintro e w1 ⟨rfl, hb1⟩
  rw [show ((5 : Int) == 1) = false from by decide]
  have HB1 := hide hb1
  clear hb1
  go_wp2_with fail
  refine (is_op _ _ _ _).mono ?_
  rintro e w2 ⟨rfl, hb2⟩
  rw [show ((5 : Int) == 2) = false from by decide]
  have HB2 := hide (HB1.out.trans (hb2.mono HB1.out.size))
  clear hb2
  go_wp2_with fail
  refine (is_op _ _ _ _).mono ?_
  rintro e w3 ⟨rfl, hb3⟩
  rw [show ((5 : Int) == 3) = false from by decide]
  have HB3 := hide (HB2.out.trans (hb3.mono HB2.out.size))
  clear hb3
  go_wp2_with fail
  refine (is_op _ _ _ _).mono ?_
  rintro e w4 ⟨rfl, hb4⟩
  rw [show ((5 : Int) == 4) = false from by decide]
  have HB4 := hide (HB3.out.trans (hb4.mono HB3.out.size))
  clear hb4
  go_wp2_with fail
  refine (is_op _ _ _ _).mono ?_
  rintro e w5 ⟨rfl, hb5⟩
  rw [show ((5 : Int) == 5) = true from by decide]
  have HB5 := hide (HB4.out.trans (hb5.mono HB4.out.size))
  clear hb5
  go_wp2
  go_ret
  exact ⟨rfl, HB5.out⟩
theorem codeOf_any (n : Nat) (c : Int) (w : World) (hc : c = 0 ∨ (2 ≤ c ∧ c ≤ 6)) : Calls Tryz.prog 23 #[allV n c] w fun e w' => e = .returned (.int .i64 c) ∧ Below w.heap.size w w' := by
  have h : c = 0 ∨ c = 2 ∨ c = 3 ∨ c = 4 ∨ c = 5 ∨ c = 6 := by omega
  rcases h with rfl | rfl | rfl | rfl | rfl | rfl
  · exact codeOf_nil w
  · exact codeOf_2 n w
  · exact codeOf_3 n w
  · exact codeOf_4 n w
  · exact codeOf_5 n w
  · exact codeOf_6 n w
/-- What impl.DiskDo hands back. -/
def DaPost (w : World) (R : MDisk × Nat × Int) (e : Ending) (w' : World) : Prop := ∃ v1 v2 v3 v4 vs, e = .returned (.agg #[v1, v2, v3, v4, .int .i64 R.1.quota, .int .i64 (R.2.1 : Int), .int .i64 R.2.2]) ∧ OwnDA w' w.heap.size w'.heap.size v1 v2 v3 v4 vs R.1 ∧ Below w.heap.size w w'
theorem OwnDA.wide {w : World} {base base' hi hi' : Nat} {v1 v2 v3 v4 : Value} {vs : List (Value × Value)} {D : MDisk} (h : OwnDA w base hi v1 v2 v3 v4 vs D) (hb : base' ≤ base) (hh : hi ≤ hi') : OwnDA w base' hi' v1 v2 v3 v4 vs D :=
  ⟨h.nodes.mono hb, h.names.mono hb, h.kept.mono hb, h.pend.mono hb, h.away, fun g e => Nat.lt_of_lt_of_le (h.b1 g e) hh, fun g e => Nat.lt_of_lt_of_le (h.b2 g e) hh, fun g e => Nat.lt_of_lt_of_le (h.b3 g e) hh, fun g e => Nat.lt_of_lt_of_le (h.b4 g e) hh⟩
theorem da_no {w : World} (base hi : Nat) : OwnDA w base hi (.slice none 0 0) (.slice none 0 0) (.slice none 0 0) (.slice none 0 0) [] noDisk :=
  ⟨OwnNA.nil _ _, World.ownsRow_nil _ _ _ 2, World.ownsRow_nil _ _ _ 2, World.ownsRow_nil _ _ _ 4, .inl rfl, (fun g e => by
    rcases e with e | ⟨x, hx, _⟩
    · cases e
    · cases hx), (fun g e => by cases e), (fun g e => by cases e), (fun g e => by cases e)⟩
set_option maxRecDepth 20000 in
set_option maxHeartbeats 4000000 in
theorem implDo_any (v : Value) (D : MDisk) (ao : Option Addr) (co : Nat) (ops : List OpV) (w : World) (hg : ErrG w) (hM : Modest D) (hw : ∀ o ∈ D.pend, (Lit.int .i64 o.2.2.2).wf = true) (hd : DiskAt w v D) (hol : ops.length ≤ 1048576) (hos : ∀ o ∈ ops, o.2.1.size ≤ 1048576 ∧ o.2.2.1.size ≤ 1048576 ∧ o.2.2.2.length ≤ 1048576) (ho : OpsAt w ao ops) :
    Calls Tryz.prog 6 #[v, .slice ao ops.length co] w (DaPost w (doOf D ops)) := by
  have HAT := hide (fun w' (hb : Below w.heap.size w w') => hd.below hb)
  have HOP := hide (fun w' (hb : Below w.heap.size w w') => ho.below hb)
  have HEG := hide (fun w' (hb : Below w.heap.size w w') => show ErrG w' from (hb.cell (p := ⟨0, 0, none⟩) (lt_cell hg)).trans hg)
  obtain ⟨a1, m1, c1, a2, m2, c2, a3, m3, c3, a4, m4, c4, q, hv⟩ := hd.shape
  clear hd ho hg
  subst hv
  obtain ⟨L1, L2, hA, hz⟩ := boxes2 w #[.slice a1 m1 c1, .slice a2 m2 c2, .slice a3 m3 c3, .slice a4 m4 c4, .int .i64 q] #[.slice none 0 0, .slice none 0 0, .slice none 0 0, .slice none 0 0, .int .i64 0, .int .i64 0, .int .i64 0] 27 32
  have HM := hide hM
  have HW := hide hw
  have HOS := hide hos
  clear hM hos hw
  go_enter Tryz.func6, Tryz.ntmps6
  go_upto_region 1 with fail
  generalize (w.alloc (.cells #[.slice a1 m1 c1, .slice a2 m2 c2, .slice a3 m3 c3, .slice a4 m4 c4, .int .i64 q] 27)).alloc (.cells #[.slice none 0 0, .slice none 0 0, .slice none 0 0, .slice none 0 0, .int .i64 0, .int .i64 0, .int .i64 0] 32) = w0 at L1 L2 hA hz ⊢
  have HZ := hide hz
  clear hz
  have HR0 := hide (fun (W : World) (hb : Below w.heap.size w W) (h : ¬ (ops.length ≤ 2000 ∧ ValidD D)) => show DaPost w (doOf D ops) (.returned (.agg #[.slice none 0 0, .slice none 0 0, .slice none 0 0, .slice none 0 0, .int .i64 0, .int .i64 0, .int .i64 1])) (set7 W (w.heap.size + 1) (.slice none 0 0) (.slice none 0 0) (.slice none 0 0) (.slice none 0 0) (.int .i64 0) (.int .i64 0) (.int .i64 1)) from by
    rw [doOf_no h]
    exact ⟨_, _, _, _, [], rfl, da_no _ _, hb.trans ((set7_fr _ _ _ _ _ _ _ _ _).below (fun g e => by omega) hb.size)⟩)
  have z0 : w0.cell? ⟨w.heap.size + 1, 0, none⟩ = some (.slice none 0 0) := L2.cell 0
  have f0 := frozen_of_row w0 (w.heap.size + 1) 0 _ _ L2
  have z1 : w0.cell? ⟨w.heap.size + 1, 1, none⟩ = some (.slice none 0 0) := L2.cell 1
  have f1 := frozen_of_row w0 (w.heap.size + 1) 1 _ _ L2
  have z2 : w0.cell? ⟨w.heap.size + 1, 2, none⟩ = some (.slice none 0 0) := L2.cell 2
  have f2 := frozen_of_row w0 (w.heap.size + 1) 2 _ _ L2
  have z3 : w0.cell? ⟨w.heap.size + 1, 3, none⟩ = some (.slice none 0 0) := L2.cell 3
  have f3 := frozen_of_row w0 (w.heap.size + 1) 3 _ _ L2
  have z4 : w0.cell? ⟨w.heap.size + 1, 4, none⟩ = some (.int .i64 0) := L2.cell 4
  have f4 := frozen_of_row w0 (w.heap.size + 1) 4 _ _ L2
  have z5 : w0.cell? ⟨w.heap.size + 1, 5, none⟩ = some (.int .i64 0) := L2.cell 5
  have f5 := frozen_of_row w0 (w.heap.size + 1) 5 _ _ L2
  have z6 : w0.cell? ⟨w.heap.size + 1, 6, none⟩ = some (.int .i64 0) := L2.cell 6
  have f6 := frozen_of_row w0 (w.heap.size + 1) 6 _ _ L2
  have r0 : w0.cell? ⟨w.heap.size, 0, none⟩ = some (.slice a1 m1 c1) := L1.cell 0
  have r1 : w0.cell? ⟨w.heap.size, 1, none⟩ = some (.slice a2 m2 c2) := L1.cell 1
  have r2 : w0.cell? ⟨w.heap.size, 2, none⟩ = some (.slice a3 m3 c3) := L1.cell 2
  have r3 : w0.cell? ⟨w.heap.size, 3, none⟩ = some (.slice a4 m4 c4) := L1.cell 3
  have r4 : w0.cell? ⟨w.heap.size, 4, none⟩ = some (.int .i64 q) := L1.cell 4
  have HL2 := hide L2
  have HA := hide hA
  by_cases h2 : 2000 < ops.length
  · go_wp2
    exact bodyPost_ret (ret_done (w.heap.size + 1) _ _ rfl rfl rfl (set_done _ _ _ _ _ _ _ HL2.out)) rfl (HR0.out w0 HA.out (fun h => by omega))
  go_wp2_with fail
  refine (implValid_v (HAT.out w0 hA) HM.out HW.out).mono ?_
  rintro e w1 ⟨r, rfl, hrr, hb1⟩
  have hA1 := hA.trans (hb1.mono hA.size)
  have L1' := L1.below hb1 L1.lt
  have L2' := L2.below hb1 L2.lt
  have hz1 : w.heap.size + 2 ≤ w1.heap.size := by have := hb1.size; have := HZ.out; omega
  clear r0 r1 r2 r3 r4 z0 f0 z1 f1 z2 f2 z3 f3 z4 f4 z5 f5 z6 f6
  have z0a : w1.cell? ⟨w.heap.size + 1, 0, none⟩ = some (.slice none 0 0) := L2'.cell 0
  have f0a := frozen_of_row w1 (w.heap.size + 1) 0 _ _ L2'
  have z1a : w1.cell? ⟨w.heap.size + 1, 1, none⟩ = some (.slice none 0 0) := L2'.cell 1
  have f1a := frozen_of_row w1 (w.heap.size + 1) 1 _ _ L2'
  have z2a : w1.cell? ⟨w.heap.size + 1, 2, none⟩ = some (.slice none 0 0) := L2'.cell 2
  have f2a := frozen_of_row w1 (w.heap.size + 1) 2 _ _ L2'
  have z3a : w1.cell? ⟨w.heap.size + 1, 3, none⟩ = some (.slice none 0 0) := L2'.cell 3
  have f3a := frozen_of_row w1 (w.heap.size + 1) 3 _ _ L2'
  have z4a : w1.cell? ⟨w.heap.size + 1, 4, none⟩ = some (.int .i64 0) := L2'.cell 4
  have f4a := frozen_of_row w1 (w.heap.size + 1) 4 _ _ L2'
  have z5a : w1.cell? ⟨w.heap.size + 1, 5, none⟩ = some (.int .i64 0) := L2'.cell 5
  have f5a := frozen_of_row w1 (w.heap.size + 1) 5 _ _ L2'
  have z6a : w1.cell? ⟨w.heap.size + 1, 6, none⟩ = some (.int .i64 0) := L2'.cell 6
  have f6a := frozen_of_row w1 (w.heap.size + 1) 6 _ _ L2'
  have HL2a := hide L2'
  have HA1 := hide hA1
  have HV := hide hrr
  have t0 : w1.cell? ⟨w.heap.size, 0, none⟩ = some (.slice a1 m1 c1) := L1'.cell 0
  have t1 : w1.cell? ⟨w.heap.size, 1, none⟩ = some (.slice a2 m2 c2) := L1'.cell 1
  have t2 : w1.cell? ⟨w.heap.size, 2, none⟩ = some (.slice a3 m3 c3) := L1'.cell 2
  have t3 : w1.cell? ⟨w.heap.size, 3, none⟩ = some (.slice a4 m4 c4) := L1'.cell 3
  have t4 : w1.cell? ⟨w.heap.size, 4, none⟩ = some (.int .i64 q) := L1'.cell 4
  clear hA hb1 L1 L2 L1' L2' hrr hA1
  cases r with
  | false =>
    go_wp2
    exact bodyPost_ret (ret_done (w.heap.size + 1) _ _ rfl rfl rfl (set_done _ _ _ _ _ _ _ HL2a.out)) rfl (HR0.out w1 HA1.out (fun h => by have := HV.out.2 h.2; cases this))
  | true =>
    have HVD := hide (HV.out.1 rfl)
    have HWK := hide (wkd_of HVD.out HM.out)
    have HDR := hide (driveOf_any _ D w1 HWK.out (HAT.out w1 HA1.out))
    go_wp2_with fail
    refine HDR.out.mono ?_
    rintro e w2 ⟨o, b1, b2, v1, v3, v4, vs, rfl, hd2, hb2⟩
    have hbb2 : w1.heap.size ≤ w2.heap.size := hb2.size
    have HAL := hide (doAll_any w1.heap.size o b1 b2 D.names.length v1 v3 v4 vs D ao co ops w2 hbb2 HWK.out HWK.out.fine.ln (by omega) HOS.out (fun X hX => HOP.out X (HA1.out.trans ((hb2.trans hX).mono (by omega)))) hd2)
    have HB2 := hide hb2
    clear hd2 hb2 HDR t0 t1 t2 t3 t4 z0a f0a z1a f1a z2a f2a z3a f3a z4a f4a z5a f5a z6a f6a
    have HDO := hide (doOf_yes (D := D) (ops := ops) ⟨by omega, HVD.out⟩)
    have HCO := hide (run_code ops D)
    have HCN := hide (run_count ops D)
    have HWR := hide (run_wkd ops D HWK.out)
    generalize doRun D ops = R at HAL HDO HCO HCN HWR
    obtain ⟨C, n, code⟩ := R
    simp only at HAL HCO HCN HWR
    go_wp2_with fail
    refine HAL.out.mono ?_
    rintro e w3 ⟨b1', b2', m', v1', v3', v4', vs', rfl, hd3, hk3, hm3⟩
    have hbb3 : w1.heap.size ≤ w3.heap.size := Nat.le_trans hbb2 hk3.bel.size
    have HDK := hide (disk_any w1.heap.size o b1' b2' m' v1' v3' v4' vs' C w3 hbb3 HWR.out (by omega) hd3)
    have HB3 := hide (HB2.out.trans hk3.bel)
    clear hd3 hk3 HAL
    go_wp2_with fail
    refine HDK.out.mono ?_
    rintro e w4 ⟨v2', rfl, ho4, hb4⟩
    obtain ⟨x1, y1, rfl⟩ := ho4.nodes.slice
    obtain ⟨x2, y2, rfl⟩ := ho4.names.slice
    obtain ⟨x3, y3, rfl⟩ := ho4.kept.slice
    obtain ⟨x4, y4, rfl⟩ := ho4.pend.slice
    have HO4 := hide ho4
    have HB4 := hide (HB3.out.trans (hb4.mono hbb3))
    have hb04 : Below w.heap.size w w4 := HA1.out.trans (HB4.out.mono (by omega))
    have HCT := hide (countOf_any n code (ops.length : Int) w4 (HEG.out w4 hb04))
    clear ho4 hb4 HDK hb04
    go_wp2_with fail
    refine HCT.out.mono ?_
    rintro e w5 ⟨rfl, hb5⟩
    have hcn : (if code = 0 then (ops.length : Int) else (n : Int)) = (n : Int) := by
      by_cases h : code = 0
      · rw [if_pos h, HCN.out h]
      · rw [if_neg h]
    rw [hcn]
    have HCD := hide (codeOf_any n code w5 HCO.out)
    have HB5 := hide hb5
    clear hb5 hcn HCT
    go_wp2_with fail
    refine HCD.out.mono ?_
    rintro e w6 ⟨rfl, hb6⟩
    have hs4 := HB4.out.size
    have hb46 : Below w4.heap.size w4 w6 := HB5.out.trans (hb6.mono HB5.out.size)
    have hb16 : Below w1.heap.size w1 w6 := HB4.out.trans (hb46.mono hs4)
    have L6 := HL2a.out.below hb16 HL2a.out.lt
    have z0b : w6.cell? ⟨w.heap.size + 1, 0, none⟩ = some (.slice none 0 0) := L6.cell 0
    have f0b := frozen_of_row w6 (w.heap.size + 1) 0 _ _ L6
    have z1b : w6.cell? ⟨w.heap.size + 1, 1, none⟩ = some (.slice none 0 0) := L6.cell 1
    have f1b := frozen_of_row w6 (w.heap.size + 1) 1 _ _ L6
    have z2b : w6.cell? ⟨w.heap.size + 1, 2, none⟩ = some (.slice none 0 0) := L6.cell 2
    have f2b := frozen_of_row w6 (w.heap.size + 1) 2 _ _ L6
    have z3b : w6.cell? ⟨w.heap.size + 1, 3, none⟩ = some (.slice none 0 0) := L6.cell 3
    have f3b := frozen_of_row w6 (w.heap.size + 1) 3 _ _ L6
    have z4b : w6.cell? ⟨w.heap.size + 1, 4, none⟩ = some (.int .i64 0) := L6.cell 4
    have f4b := frozen_of_row w6 (w.heap.size + 1) 4 _ _ L6
    have z5b : w6.cell? ⟨w.heap.size + 1, 5, none⟩ = some (.int .i64 0) := L6.cell 5
    have f5b := frozen_of_row w6 (w.heap.size + 1) 5 _ _ L6
    have z6b : w6.cell? ⟨w.heap.size + 1, 6, none⟩ = some (.int .i64 0) := L6.cell 6
    have f6b := frozen_of_row w6 (w.heap.size + 1) 6 _ _ L6
    have HO6 := hide (HO4.out.below hb46)
    have HL6 := hide L6
    have HB06 := hide (show Below w.heap.size w w6 from HA1.out.trans (hb16.mono (by omega)))
    have HS6 := hide hb46.size
    clear hb6 hb46 hb16 L6 HCD HB5
    go_wp2
    refine bodyPost_ret (ret_done (w.heap.size + 1) _ _ rfl rfl rfl (set_done _ _ _ _ _ _ _ HL6.out)) rfl ?_
    rw [HDO.out]
    refine ⟨_, _, _, _, vs', rfl, ?_, HB06.out.trans ((set7_fr _ _ _ _ _ _ _ _ _).below (fun g e => by omega) HB06.out.size)⟩
    have h7 := HO6.out.fr (set7_fr w6 (w.heap.size + 1) (.slice x1 C.nodes.length y1) (.slice x2 C.names.length y2) (.slice x3 C.kept.length y3) (.slice x4 C.pend.length y4) (.int .i64 C.quota) (.int .i64 (n : Int)) (.int .i64 code)) (fun g a b e => by omega)
    exact h7.wide (by omega) (Nat.le_trans HS6.out (set7_fr _ _ _ _ _ _ _ _ _).size)
end Go.Proofs.YtpccongphchagaaGreatDoor
