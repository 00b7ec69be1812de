import Derived.Test.YtpccongphchagaaGreatDoorPkw
namespace Go.Proofs.YtpccongphchagaaGreatDoor
open Go.RowKit
set_option linter.unusedVariables false
theorem noStr40 : noStr.size ≤ 40 := by simp [noStr, ByteArray.size]
theorem opsB_snoc {l : List OpV} {o : OpV} (h : OpsB l) (ho : o.2.1.size ≤ 40 ∧ o.2.2.1.size ≤ 40 ∧ o.2.2.2.length ≤ 255) : OpsB (l ++ [o]) := fun x hx => by
  rcases List.mem_append.1 hx with hx | hx
  · exact h x hx
  · obtain rfl := List.mem_singleton.1 hx
    exact ho
/-- What l1Ops hands back. -/
def OpsPost (w w0 : World) (p : Nat) (a : Option Addr) (cap : Nat) (code : List Nat) (most : Nat) (e : Ending) (w' : World) : Prop := ∃ v vs l j, e = .returned v ∧ OwnV w' w.heap.size v vs l ∧ l.length ≤ most ∧ OpsB l ∧ RdIn w w0 w' p a cap code j
set_option maxRecDepth 20000 in
set_option maxHeartbeats 8000000 in
theorem l1Ops_in {w0 w : World} {p : Nat} {a : Option Addr} {cap : Nat} {code : List Nat} {i : Nat} (most : Nat) (hm : most ≤ 1000) (hc : CodeW w0 a code) (h : RdIn w w0 w p a cap code i) :
    Calls Tryz.prog 15 #[.pointer (some ⟨p, 0, none⟩), .int .i64 (most : Int)] w (OpsPost w w0 p a cap code most) := by
  have hpl := h.rd.lt
  have hw0 := h.low.size
  have HC := hide hc
  have HR0 := hide h
  clear h hc
  go_enter Tryz.func15, Tryz.ntmps15
  go_wp2
  go_loopw [5, 6, 7, 8] (fun v n _ _ wv => ∃ (k : Nat) (vs : List V4) (l : List OpV) (j : Nat), k ≤ most ∧ n = .int .i64 (k : Int) ∧ OwnV wv w.heap.size v vs l ∧ l.length ≤ k ∧ OpsB l ∧ RdIn w w0 wv p a cap code j) (fun _ n _ _ _ => most - (intOf n).toNat)
  case atStart => exact ⟨0, [], [], i, Nat.zero_le _, rfl, ⟨rfl, World.ownsRow_nil _ _ _ 4, (fun i hi => by cases hi)⟩, by simp, (fun o ho => by cases ho), HR0.out⟩
  case round =>
    obtain ⟨n, vs, l, j, hn, rfl, hv, hln, hob, hr⟩ := hrel
    obtain ⟨av, cv, rfl⟩ := hv.slice
    have HOB := hide hob
    clear hob HR0
    by_cases hlt : n < most
    · have hli : (n : Int) < (most : Int) := by omega
      have MO := hide (more_w HC.out hr.anew)
      have HR := hide hr
      have HV := hide hv
      clear hr hv
      go_wp2_with fail
      refine MO.out.mono ?_
      rintro e w2 ⟨⟨b, rfl⟩, hr2⟩
      have HR2 := hide (RdIn.onto HR.out.kp hr2)
      have HV2 := hide (HV.out.kp hr2.kp hpl)
      clear hr2 MO HR HV
      cases b with
      | false =>
        go_wp2
        go_ret
        exact ⟨_, vs, l, j, rfl, HV2.out, by omega, HOB.out, HR2.out⟩
      | true =>
      have hxc := nx_lt HC.out.byte j
      have hxn := nx_lt HC.out.byte (j + 1)
      go_wp2_with fail
      refine (next_w HC.out HR2.out.anew).mono ?_
      rintro e w3 ⟨rfl, hr3⟩
      have HR3 := hide (RdIn.onto HR2.out.kp hr3)
      have HV3 := hide (HV2.out.kp hr3.kp hpl)
      clear hr3 HR2 HV2
      generalize nx code j = c at hxc ⊢
      go_wp2_with fail
      refine (next_w HC.out HR3.out.anew).mono ?_
      rintro e w3b ⟨rfl, hr3b⟩
      have HR3b := hide (RdIn.onto HR3.out.kp hr3b)
      have HV3b := hide (HV3.out.kp hr3b.kp hpl)
      clear hr3b HR3 HV3
      generalize nx code (j + 1) = c2 at hxn ⊢
      go_wp2_with fail
      refine (l1Name_any c2 w3b hxn).mono ?_
      rintro e w4 ⟨⟨nm, rfl, hnm⟩, hb4⟩
      have HR4 := hide (HR3b.out.below hb4)
      have HV4 := hide (HV3b.out.below' hb4)
      clear hb4 HR3b HV3b
      have hal := (Below.refl w4.heap.size w4).alloc (Nat.le_refl _) (.cells #[.int .i64 0, .string nm, .string ⟨#[]⟩, .slice none 0 0] 39)
      have L5 := Laid.new w4 #[.int .i64 0, .string nm, .string ⟨#[]⟩, .slice none 0 0] 39
      have HA5 := hide (show OnA w w0 w4 (w4.alloc (.cells #[.int .i64 0, .string nm, .string ⟨#[]⟩, .slice none 0 0] 39)) p a cap code (j + 1 + 1) w4.heap.size 0 nm noStr (.slice none 0 0) [] from ⟨HR4.out.below hal, Kp.of_below hal, L5, OwnB.nil _ _, Nat.le_refl _, HR4.out.kp.size, hpl, hw0⟩)
      have HLL := hide (show l.length + 1 ≤ 1048576 by omega)
      have z0 := L5.cell 0
      have z1 := L5.cell 1
      have z2 := L5.cell 2
      have z3 := L5.cell 3
      have f0 := frozen_of_row _ w4.heap.size 0 _ _ L5
      have f1 := frozen_of_row _ w4.heap.size 1 _ _ L5
      have f2 := frozen_of_row _ w4.heap.size 2 _ _ L5
      have f3 := frozen_of_row _ w4.heap.size 3 _ _ L5
      clear hal L5 HR4
      go_upto_region 7 with fail
      generalize w4.alloc (.cells #[.int .i64 0, .string nm, .string ⟨#[]⟩, .slice none 0 0] 39) = W5 at HA5 z0 z1 z2 z3 f0 f1 f2 f3 ⊢
      have hdr : (c : Int) % 12 = 0 ∨ (c : Int) % 12 = 1 ∨ (c : Int) % 12 = 2 ∨ (c : Int) % 12 = 3 ∨ (c : Int) % 12 = 4 ∨ (c : Int) % 12 = 5 ∨ (c : Int) % 12 = 6 ∨ (c : Int) % 12 = 7 ∨ (c : Int) % 12 = 8 ∨ (c : Int) % 12 = 9 ∨ (c : Int) % 12 = 10 ∨ (c : Int) % 12 = 11 := by omega
      rcases hdr with hd | hd | hd | hd | hd | hd | hd | hd | hd | hd | hd | hd
      · skip
        have HX := hide (HA5.out.kind 1)
        go_upto_region 29 with fail
        generalize W5.setCell ⟨w4.heap.size, 0, none⟩ (.int .i64 1) = X at HX ⊢
        clear HA5 z0 z1 z2 z3 f0 f1 f2 f3
        by_cases h252 : c = 252
        · subst h252
          have y0 : X.cell? ⟨w4.heap.size, 0, none⟩ = some (.int .i64 1) := HX.out.op.cell 0
          have y1 : X.cell? ⟨w4.heap.size, 1, none⟩ = some (.string nm) := HX.out.op.cell 1
          have e0 := frozen_of_row X w4.heap.size 0 _ _ HX.out.op
          have e1 := frozen_of_row X w4.heap.size 1 _ _ HX.out.op
          have HX2 := hide (HX.out.kind 7)
          go_upto_region 33 with fail
          generalize X.setCell ⟨w4.heap.size, 0, none⟩ (.int .i64 7) = X2 at HX2 ⊢
          clear y0 y1 e0 e1
          have y0 : X2.cell? ⟨w4.heap.size, 0, none⟩ = some (.int .i64 7) := HX2.out.op.cell 0
          have y1 : X2.cell? ⟨w4.heap.size, 1, none⟩ = some (.string nm) := HX2.out.op.cell 1
          have y2 : X2.cell? ⟨w4.heap.size, 2, none⟩ = some (.string noStr) := HX2.out.op.cell 2
          have y3 : X2.cell? ⟨w4.heap.size, 3, none⟩ = some (.slice none 0 0) := HX2.out.op.cell 3
          have he := onA_end HX2.out HV4.out
          have HE1 := hide he.1
          have HE2 := hide he.2.1
          have HE3 := hide he.2.2.1
          have HE4 := hide he.2.2.2
          clear he
          go_wp2_with (at_builtin; (refine wpList_append_ops _ rfl (.tmp 64) (.tmp 66) rfl w.heap.size (.slice av l.length cv) vs l rfl ?_ (.slice (some ⟨X2.heap.size, 0, none⟩) 1 1) [(.int .i64 7, .string nm, .string noStr, .slice none 0 0)] [(7, nm, noStr, [])] rfl ?_ ?_ ?_ ?_ ?_; (exact HE1.out); (exact HE2.out); (exact Nat.succ_pos 0); (exact HLL.out); (exact HE4.out); intro v6 w6 h6 hg6; have HV6 := hide h6; have HR6 := hide (rd_grown HE3.out hg6 (fun b e => (own_ge HE1.out.row e).1) hpl hw0); clear h6 hg6))
          go_roundw
          case rel => exact ⟨n + 1, _, l ++ [(7, nm, noStr, [])], _, by omega, by go_num, HV6.out, by simp; omega, opsB_snoc HOB.out (⟨hnm, noStr40, by simp⟩), HR6.out⟩
          case measure => simp [intOf]; omega
        have hn251 : ¬ (c : Int) = 251 := by omega
        have hn252 : ¬ (c : Int) = 252 := by omega
        have y0 : X.cell? ⟨w4.heap.size, 0, none⟩ = some (.int .i64 1) := HX.out.op.cell 0
        have y1 : X.cell? ⟨w4.heap.size, 1, none⟩ = some (.string nm) := HX.out.op.cell 1
        have y2 : X.cell? ⟨w4.heap.size, 2, none⟩ = some (.string noStr) := HX.out.op.cell 2
        have y3 : X.cell? ⟨w4.heap.size, 3, none⟩ = some (.slice none 0 0) := HX.out.op.cell 3
        have he := onA_end HX.out HV4.out
        have HE1 := hide he.1
        have HE2 := hide he.2.1
        have HE3 := hide he.2.2.1
        have HE4 := hide he.2.2.2
        clear he
        go_wp2_with (at_builtin; (refine wpList_append_ops _ rfl (.tmp 64) (.tmp 66) rfl w.heap.size (.slice av l.length cv) vs l rfl ?_ (.slice (some ⟨X.heap.size, 0, none⟩) 1 1) [(.int .i64 1, .string nm, .string noStr, .slice none 0 0)] [(1, nm, noStr, [])] rfl ?_ ?_ ?_ ?_ ?_; (exact HE1.out); (exact HE2.out); (exact Nat.succ_pos 0); (exact HLL.out); (exact HE4.out); intro v6 w6 h6 hg6; have HV6 := hide h6; have HR6 := hide (rd_grown HE3.out hg6 (fun b e => (own_ge HE1.out.row e).1) hpl hw0); clear h6 hg6))
        go_roundw
        case rel => exact ⟨n + 1, _, l ++ [(1, nm, noStr, [])], _, by omega, by go_num, HV6.out, by simp; omega, opsB_snoc HOB.out (⟨hnm, noStr40, by simp⟩), HR6.out⟩
        case measure => simp [intOf]; omega
      · skip
        have HX := hide (HA5.out.kind 1)
        go_upto_region 29 with fail
        generalize W5.setCell ⟨w4.heap.size, 0, none⟩ (.int .i64 1) = X at HX ⊢
        clear HA5 z0 z1 z2 z3 f0 f1 f2 f3
        have hn251 : ¬ (c : Int) = 251 := by omega
        have hn252 : ¬ (c : Int) = 252 := by omega
        have y0 : X.cell? ⟨w4.heap.size, 0, none⟩ = some (.int .i64 1) := HX.out.op.cell 0
        have y1 : X.cell? ⟨w4.heap.size, 1, none⟩ = some (.string nm) := HX.out.op.cell 1
        have y2 : X.cell? ⟨w4.heap.size, 2, none⟩ = some (.string noStr) := HX.out.op.cell 2
        have y3 : X.cell? ⟨w4.heap.size, 3, none⟩ = some (.slice none 0 0) := HX.out.op.cell 3
        have he := onA_end HX.out HV4.out
        have HE1 := hide he.1
        have HE2 := hide he.2.1
        have HE3 := hide he.2.2.1
        have HE4 := hide he.2.2.2
        clear he
        go_wp2_with (at_builtin; (refine wpList_append_ops _ rfl (.tmp 64) (.tmp 66) rfl w.heap.size (.slice av l.length cv) vs l rfl ?_ (.slice (some ⟨X.heap.size, 0, none⟩) 1 1) [(.int .i64 1, .string nm, .string noStr, .slice none 0 0)] [(1, nm, noStr, [])] rfl ?_ ?_ ?_ ?_ ?_; (exact HE1.out); (exact HE2.out); (exact Nat.succ_pos 0); (exact HLL.out); (exact HE4.out); intro v6 w6 h6 hg6; have HV6 := hide h6; have HR6 := hide (rd_grown HE3.out hg6 (fun b e => (own_ge HE1.out.row e).1) hpl hw0); clear h6 hg6))
        go_roundw
        case rel => exact ⟨n + 1, _, l ++ [(1, nm, noStr, [])], _, by omega, by go_num, HV6.out, by simp; omega, opsB_snoc HOB.out (⟨hnm, noStr40, by simp⟩), HR6.out⟩
        case measure => simp [intOf]; omega
      · skip
        have HX := hide (HA5.out.kind 1)
        go_upto_region 29 with fail
        generalize W5.setCell ⟨w4.heap.size, 0, none⟩ (.int .i64 1) = X at HX ⊢
        clear HA5 z0 z1 z2 z3 f0 f1 f2 f3
        have hn251 : ¬ (c : Int) = 251 := by omega
        have hn252 : ¬ (c : Int) = 252 := by omega
        have y0 : X.cell? ⟨w4.heap.size, 0, none⟩ = some (.int .i64 1) := HX.out.op.cell 0
        have y1 : X.cell? ⟨w4.heap.size, 1, none⟩ = some (.string nm) := HX.out.op.cell 1
        have y2 : X.cell? ⟨w4.heap.size, 2, none⟩ = some (.string noStr) := HX.out.op.cell 2
        have y3 : X.cell? ⟨w4.heap.size, 3, none⟩ = some (.slice none 0 0) := HX.out.op.cell 3
        have he := onA_end HX.out HV4.out
        have HE1 := hide he.1
        have HE2 := hide he.2.1
        have HE3 := hide he.2.2.1
        have HE4 := hide he.2.2.2
        clear he
        go_wp2_with (at_builtin; (refine wpList_append_ops _ rfl (.tmp 64) (.tmp 66) rfl w.heap.size (.slice av l.length cv) vs l rfl ?_ (.slice (some ⟨X.heap.size, 0, none⟩) 1 1) [(.int .i64 1, .string nm, .string noStr, .slice none 0 0)] [(1, nm, noStr, [])] rfl ?_ ?_ ?_ ?_ ?_; (exact HE1.out); (exact HE2.out); (exact Nat.succ_pos 0); (exact HLL.out); (exact HE4.out); intro v6 w6 h6 hg6; have HV6 := hide h6; have HR6 := hide (rd_grown HE3.out hg6 (fun b e => (own_ge HE1.out.row e).1) hpl hw0); clear h6 hg6))
        go_roundw
        case rel => exact ⟨n + 1, _, l ++ [(1, nm, noStr, [])], _, by omega, by go_num, HV6.out, by simp; omega, opsB_snoc HOB.out (⟨hnm, noStr40, by simp⟩), HR6.out⟩
        case measure => simp [intOf]; omega
      · skip
        have HX1 := hide (HA5.out.kind 2)
        go_wp2_with fail
        generalize W5.setCell ⟨w4.heap.size, 0, none⟩ (.int .i64 2) = X1 at HX1 ⊢
        refine (l1Data_in HC.out HX1.out.rd.anew).mono ?_
        rintro e X2 ⟨dv, dl, jd, rfl, hod, hdl, hrd⟩
        obtain ⟨ad, cd, rfl⟩ := OwnB.slice hod
        have hX2 := HX1.out.on hrd
        have g3 := frozen_of_row X2 w4.heap.size 3 _ _ hX2.op
        have k3 : X2.cell? ⟨w4.heap.size, 3, none⟩ = some (.slice none 0 0) := hX2.op.cell 3
        have HX := hide (hX2.data (hod.mono HX1.out.rd.kp.size))
        clear hX2 hod hrd HX1 HA5
        go_upto_region 29 with fail
        generalize X2.setCell ⟨w4.heap.size, 3, none⟩ (.slice ad dl.length cd) = X at HX ⊢
        clear g3 k3 z0 z1 z2 z3 f0 f1 f2 f3
        have hn251 : ¬ (c : Int) = 251 := by omega
        have hn252 : ¬ (c : Int) = 252 := by omega
        have y0 : X.cell? ⟨w4.heap.size, 0, none⟩ = some (.int .i64 2) := HX.out.op.cell 0
        have y1 : X.cell? ⟨w4.heap.size, 1, none⟩ = some (.string nm) := HX.out.op.cell 1
        have y2 : X.cell? ⟨w4.heap.size, 2, none⟩ = some (.string noStr) := HX.out.op.cell 2
        have y3 : X.cell? ⟨w4.heap.size, 3, none⟩ = some (.slice ad dl.length cd) := HX.out.op.cell 3
        have he := onA_end HX.out HV4.out
        have HE1 := hide he.1
        have HE2 := hide he.2.1
        have HE3 := hide he.2.2.1
        have HE4 := hide he.2.2.2
        clear he
        go_wp2_with (at_builtin; (refine wpList_append_ops _ rfl (.tmp 64) (.tmp 66) rfl w.heap.size (.slice av l.length cv) vs l rfl ?_ (.slice (some ⟨X.heap.size, 0, none⟩) 1 1) [(.int .i64 2, .string nm, .string noStr, .slice ad dl.length cd)] [(2, nm, noStr, dl)] rfl ?_ ?_ ?_ ?_ ?_; (exact HE1.out); (exact HE2.out); (exact Nat.succ_pos 0); (exact HLL.out); (exact HE4.out); intro v6 w6 h6 hg6; have HV6 := hide h6; have HR6 := hide (rd_grown HE3.out hg6 (fun b e => (own_ge HE1.out.row e).1) hpl hw0); clear h6 hg6))
        go_roundw
        case rel => exact ⟨n + 1, _, l ++ [(2, nm, noStr, dl)], _, by omega, by go_num, HV6.out, by simp; omega, opsB_snoc HOB.out (⟨hnm, noStr40, hdl⟩), HR6.out⟩
        case measure => simp [intOf]; omega
      · skip
        have HX1 := hide (HA5.out.kind 2)
        go_wp2_with fail
        generalize W5.setCell ⟨w4.heap.size, 0, none⟩ (.int .i64 2) = X1 at HX1 ⊢
        refine (l1Data_in HC.out HX1.out.rd.anew).mono ?_
        rintro e X2 ⟨dv, dl, jd, rfl, hod, hdl, hrd⟩
        obtain ⟨ad, cd, rfl⟩ := OwnB.slice hod
        have hX2 := HX1.out.on hrd
        have g3 := frozen_of_row X2 w4.heap.size 3 _ _ hX2.op
        have k3 : X2.cell? ⟨w4.heap.size, 3, none⟩ = some (.slice none 0 0) := hX2.op.cell 3
        have HX := hide (hX2.data (hod.mono HX1.out.rd.kp.size))
        clear hX2 hod hrd HX1 HA5
        go_upto_region 29 with fail
        generalize X2.setCell ⟨w4.heap.size, 3, none⟩ (.slice ad dl.length cd) = X at HX ⊢
        clear g3 k3 z0 z1 z2 z3 f0 f1 f2 f3
        have hn251 : ¬ (c : Int) = 251 := by omega
        have hn252 : ¬ (c : Int) = 252 := by omega
        have y0 : X.cell? ⟨w4.heap.size, 0, none⟩ = some (.int .i64 2) := HX.out.op.cell 0
        have y1 : X.cell? ⟨w4.heap.size, 1, none⟩ = some (.string nm) := HX.out.op.cell 1
        have y2 : X.cell? ⟨w4.heap.size, 2, none⟩ = some (.string noStr) := HX.out.op.cell 2
        have y3 : X.cell? ⟨w4.heap.size, 3, none⟩ = some (.slice ad dl.length cd) := HX.out.op.cell 3
        have he := onA_end HX.out HV4.out
        have HE1 := hide he.1
        have HE2 := hide he.2.1
        have HE3 := hide he.2.2.1
        have HE4 := hide he.2.2.2
        clear he
        go_wp2_with (at_builtin; (refine wpList_append_ops _ rfl (.tmp 64) (.tmp 66) rfl w.heap.size (.slice av l.length cv) vs l rfl ?_ (.slice (some ⟨X.heap.size, 0, none⟩) 1 1) [(.int .i64 2, .string nm, .string noStr, .slice ad dl.length cd)] [(2, nm, noStr, dl)] rfl ?_ ?_ ?_ ?_ ?_; (exact HE1.out); (exact HE2.out); (exact Nat.succ_pos 0); (exact HLL.out); (exact HE4.out); intro v6 w6 h6 hg6; have HV6 := hide h6; have HR6 := hide (rd_grown HE3.out hg6 (fun b e => (own_ge HE1.out.row e).1) hpl hw0); clear h6 hg6))
        go_roundw
        case rel => exact ⟨n + 1, _, l ++ [(2, nm, noStr, dl)], _, by omega, by go_num, HV6.out, by simp; omega, opsB_snoc HOB.out (⟨hnm, noStr40, hdl⟩), HR6.out⟩
        case measure => simp [intOf]; omega
      · skip
        have HX1 := hide (HA5.out.kind 2)
        go_wp2_with fail
        generalize W5.setCell ⟨w4.heap.size, 0, none⟩ (.int .i64 2) = X1 at HX1 ⊢
        refine (l1Data_in HC.out HX1.out.rd.anew).mono ?_
        rintro e X2 ⟨dv, dl, jd, rfl, hod, hdl, hrd⟩
        obtain ⟨ad, cd, rfl⟩ := OwnB.slice hod
        have hX2 := HX1.out.on hrd
        have g3 := frozen_of_row X2 w4.heap.size 3 _ _ hX2.op
        have k3 : X2.cell? ⟨w4.heap.size, 3, none⟩ = some (.slice none 0 0) := hX2.op.cell 3
        have HX := hide (hX2.data (hod.mono HX1.out.rd.kp.size))
        clear hX2 hod hrd HX1 HA5
        go_upto_region 29 with fail
        generalize X2.setCell ⟨w4.heap.size, 3, none⟩ (.slice ad dl.length cd) = X at HX ⊢
        clear g3 k3 z0 z1 z2 z3 f0 f1 f2 f3
        have hn251 : ¬ (c : Int) = 251 := by omega
        have hn252 : ¬ (c : Int) = 252 := by omega
        have y0 : X.cell? ⟨w4.heap.size, 0, none⟩ = some (.int .i64 2) := HX.out.op.cell 0
        have y1 : X.cell? ⟨w4.heap.size, 1, none⟩ = some (.string nm) := HX.out.op.cell 1
        have y2 : X.cell? ⟨w4.heap.size, 2, none⟩ = some (.string noStr) := HX.out.op.cell 2
        have y3 : X.cell? ⟨w4.heap.size, 3, none⟩ = some (.slice ad dl.length cd) := HX.out.op.cell 3
        have he := onA_end HX.out HV4.out
        have HE1 := hide he.1
        have HE2 := hide he.2.1
        have HE3 := hide he.2.2.1
        have HE4 := hide he.2.2.2
        clear he
        go_wp2_with (at_builtin; (refine wpList_append_ops _ rfl (.tmp 64) (.tmp 66) rfl w.heap.size (.slice av l.length cv) vs l rfl ?_ (.slice (some ⟨X.heap.size, 0, none⟩) 1 1) [(.int .i64 2, .string nm, .string noStr, .slice ad dl.length cd)] [(2, nm, noStr, dl)] rfl ?_ ?_ ?_ ?_ ?_; (exact HE1.out); (exact HE2.out); (exact Nat.succ_pos 0); (exact HLL.out); (exact HE4.out); intro v6 w6 h6 hg6; have HV6 := hide h6; have HR6 := hide (rd_grown HE3.out hg6 (fun b e => (own_ge HE1.out.row e).1) hpl hw0); clear h6 hg6))
        go_roundw
        case rel => exact ⟨n + 1, _, l ++ [(2, nm, noStr, dl)], _, by omega, by go_num, HV6.out, by simp; omega, opsB_snoc HOB.out (⟨hnm, noStr40, hdl⟩), HR6.out⟩
        case measure => simp [intOf]; omega
      · skip
        have HX := hide (HA5.out.kind 3)
        go_upto_region 29 with fail
        generalize W5.setCell ⟨w4.heap.size, 0, none⟩ (.int .i64 3) = X at HX ⊢
        clear HA5 z0 z1 z2 z3 f0 f1 f2 f3
        have hn251 : ¬ (c : Int) = 251 := by omega
        have hn252 : ¬ (c : Int) = 252 := by omega
        have y0 : X.cell? ⟨w4.heap.size, 0, none⟩ = some (.int .i64 3) := HX.out.op.cell 0
        have y1 : X.cell? ⟨w4.heap.size, 1, none⟩ = some (.string nm) := HX.out.op.cell 1
        have y2 : X.cell? ⟨w4.heap.size, 2, none⟩ = some (.string noStr) := HX.out.op.cell 2
        have y3 : X.cell? ⟨w4.heap.size, 3, none⟩ = some (.slice none 0 0) := HX.out.op.cell 3
        have he := onA_end HX.out HV4.out
        have HE1 := hide he.1
        have HE2 := hide he.2.1
        have HE3 := hide he.2.2.1
        have HE4 := hide he.2.2.2
        clear he
        go_wp2_with (at_builtin; (refine wpList_append_ops _ rfl (.tmp 64) (.tmp 66) rfl w.heap.size (.slice av l.length cv) vs l rfl ?_ (.slice (some ⟨X.heap.size, 0, none⟩) 1 1) [(.int .i64 3, .string nm, .string noStr, .slice none 0 0)] [(3, nm, noStr, [])] rfl ?_ ?_ ?_ ?_ ?_; (exact HE1.out); (exact HE2.out); (exact Nat.succ_pos 0); (exact HLL.out); (exact HE4.out); intro v6 w6 h6 hg6; have HV6 := hide h6; have HR6 := hide (rd_grown HE3.out hg6 (fun b e => (own_ge HE1.out.row e).1) hpl hw0); clear h6 hg6))
        go_roundw
        case rel => exact ⟨n + 1, _, l ++ [(3, nm, noStr, [])], _, by omega, by go_num, HV6.out, by simp; omega, opsB_snoc HOB.out (⟨hnm, noStr40, by simp⟩), HR6.out⟩
        case measure => simp [intOf]; omega
      · skip
        have HX := hide (HA5.out.kind 3)
        go_upto_region 29 with fail
        generalize W5.setCell ⟨w4.heap.size, 0, none⟩ (.int .i64 3) = X at HX ⊢
        clear HA5 z0 z1 z2 z3 f0 f1 f2 f3
        have hn251 : ¬ (c : Int) = 251 := by omega
        have hn252 : ¬ (c : Int) = 252 := by omega
        have y0 : X.cell? ⟨w4.heap.size, 0, none⟩ = some (.int .i64 3) := HX.out.op.cell 0
        have y1 : X.cell? ⟨w4.heap.size, 1, none⟩ = some (.string nm) := HX.out.op.cell 1
        have y2 : X.cell? ⟨w4.heap.size, 2, none⟩ = some (.string noStr) := HX.out.op.cell 2
        have y3 : X.cell? ⟨w4.heap.size, 3, none⟩ = some (.slice none 0 0) := HX.out.op.cell 3
        have he := onA_end HX.out HV4.out
        have HE1 := hide he.1
        have HE2 := hide he.2.1
        have HE3 := hide he.2.2.1
        have HE4 := hide he.2.2.2
        clear he
        go_wp2_with (at_builtin; (refine wpList_append_ops _ rfl (.tmp 64) (.tmp 66) rfl w.heap.size (.slice av l.length cv) vs l rfl ?_ (.slice (some ⟨X.heap.size, 0, none⟩) 1 1) [(.int .i64 3, .string nm, .string noStr, .slice none 0 0)] [(3, nm, noStr, [])] rfl ?_ ?_ ?_ ?_ ?_; (exact HE1.out); (exact HE2.out); (exact Nat.succ_pos 0); (exact HLL.out); (exact HE4.out); intro v6 w6 h6 hg6; have HV6 := hide h6; have HR6 := hide (rd_grown HE3.out hg6 (fun b e => (own_ge HE1.out.row e).1) hpl hw0); clear h6 hg6))
        go_roundw
        case rel => exact ⟨n + 1, _, l ++ [(3, nm, noStr, [])], _, by omega, by go_num, HV6.out, by simp; omega, opsB_snoc HOB.out (⟨hnm, noStr40, by simp⟩), HR6.out⟩
        case measure => simp [intOf]; omega
      · skip
        have HX1 := hide (HA5.out.kind 4)
        go_wp2_with fail
        generalize W5.setCell ⟨w4.heap.size, 0, none⟩ (.int .i64 4) = X1 at HX1 ⊢
        refine (next_w HC.out HX1.out.rd.anew).mono ?_
        rintro e X2 ⟨rfl, hrd⟩
        have HX2 := hide (HX1.out.on hrd)
        have hx3 := nx_lt HC.out.byte (j + 1 + 1)
        generalize nx code (j + 1 + 1) = c3 at hx3 ⊢
        clear hrd HX1 HA5 z0 z1 z2 z3 f0 f1 f2 f3
        go_wp2_with fail
        refine (l1Name_any c3 X2 hx3).mono ?_
        rintro e X3 ⟨⟨tt, rfl, htt⟩, hb3⟩
        have hX3 := HX2.out.below hb3
        have g2 := frozen_of_row X3 w4.heap.size 2 _ _ hX3.op
        have k2 : X3.cell? ⟨w4.heap.size, 2, none⟩ = some (.string noStr) := hX3.op.cell 2
        have HX := hide (hX3.other tt)
        clear hX3 hb3 HX2
        go_upto_region 29 with fail
        generalize X3.setCell ⟨w4.heap.size, 2, none⟩ (.string tt) = X at HX ⊢
        clear g2 k2
        have hn251 : ¬ (c : Int) = 251 := by omega
        have hn252 : ¬ (c : Int) = 252 := by omega
        have y0 : X.cell? ⟨w4.heap.size, 0, none⟩ = some (.int .i64 4) := HX.out.op.cell 0
        have y1 : X.cell? ⟨w4.heap.size, 1, none⟩ = some (.string nm) := HX.out.op.cell 1
        have y2 : X.cell? ⟨w4.heap.size, 2, none⟩ = some (.string tt) := HX.out.op.cell 2
        have y3 : X.cell? ⟨w4.heap.size, 3, none⟩ = some (.slice none 0 0) := HX.out.op.cell 3
        have he := onA_end HX.out HV4.out
        have HE1 := hide he.1
        have HE2 := hide he.2.1
        have HE3 := hide he.2.2.1
        have HE4 := hide he.2.2.2
        clear he
        go_wp2_with (at_builtin; (refine wpList_append_ops _ rfl (.tmp 64) (.tmp 66) rfl w.heap.size (.slice av l.length cv) vs l rfl ?_ (.slice (some ⟨X.heap.size, 0, none⟩) 1 1) [(.int .i64 4, .string nm, .string tt, .slice none 0 0)] [(4, nm, tt, [])] rfl ?_ ?_ ?_ ?_ ?_; (exact HE1.out); (exact HE2.out); (exact Nat.succ_pos 0); (exact HLL.out); (exact HE4.out); intro v6 w6 h6 hg6; have HV6 := hide h6; have HR6 := hide (rd_grown HE3.out hg6 (fun b e => (own_ge HE1.out.row e).1) hpl hw0); clear h6 hg6))
        go_roundw
        case rel => exact ⟨n + 1, _, l ++ [(4, nm, tt, [])], _, by omega, by go_num, HV6.out, by simp; omega, opsB_snoc HOB.out (⟨hnm, htt, by simp⟩), HR6.out⟩
        case measure => simp [intOf]; omega
      · skip
        have HX := hide (HA5.out.kind 5)
        go_upto_region 29 with fail
        generalize W5.setCell ⟨w4.heap.size, 0, none⟩ (.int .i64 5) = X at HX ⊢
        clear HA5 z0 z1 z2 z3 f0 f1 f2 f3
        have hn251 : ¬ (c : Int) = 251 := by omega
        have hn252 : ¬ (c : Int) = 252 := by omega
        have y0 : X.cell? ⟨w4.heap.size, 0, none⟩ = some (.int .i64 5) := HX.out.op.cell 0
        have y1 : X.cell? ⟨w4.heap.size, 1, none⟩ = some (.string nm) := HX.out.op.cell 1
        have y2 : X.cell? ⟨w4.heap.size, 2, none⟩ = some (.string noStr) := HX.out.op.cell 2
        have y3 : X.cell? ⟨w4.heap.size, 3, none⟩ = some (.slice none 0 0) := HX.out.op.cell 3
        have he := onA_end HX.out HV4.out
        have HE1 := hide he.1
        have HE2 := hide he.2.1
        have HE3 := hide he.2.2.1
        have HE4 := hide he.2.2.2
        clear he
        go_wp2_with (at_builtin; (refine wpList_append_ops _ rfl (.tmp 64) (.tmp 66) rfl w.heap.size (.slice av l.length cv) vs l rfl ?_ (.slice (some ⟨X.heap.size, 0, none⟩) 1 1) [(.int .i64 5, .string nm, .string noStr, .slice none 0 0)] [(5, nm, noStr, [])] rfl ?_ ?_ ?_ ?_ ?_; (exact HE1.out); (exact HE2.out); (exact Nat.succ_pos 0); (exact HLL.out); (exact HE4.out); intro v6 w6 h6 hg6; have HV6 := hide h6; have HR6 := hide (rd_grown HE3.out hg6 (fun b e => (own_ge HE1.out.row e).1) hpl hw0); clear h6 hg6))
        go_roundw
        case rel => exact ⟨n + 1, _, l ++ [(5, nm, noStr, [])], _, by omega, by go_num, HV6.out, by simp; omega, opsB_snoc HOB.out (⟨hnm, noStr40, by simp⟩), HR6.out⟩
        case measure => simp [intOf]; omega
      · skip
        have HX := hide ((HA5.out.kind 6).name ⟨#[]⟩)
        go_upto_region 29 with fail
        generalize (W5.setCell ⟨w4.heap.size, 0, none⟩ (.int .i64 6)).setCell ⟨w4.heap.size, 1, none⟩ (.string ⟨#[]⟩) = X at HX ⊢
        clear HA5 z0 z1 z2 z3 f0 f1 f2 f3
        have hn251 : ¬ (c : Int) = 251 := by omega
        have hn252 : ¬ (c : Int) = 252 := by omega
        have y0 : X.cell? ⟨w4.heap.size, 0, none⟩ = some (.int .i64 6) := HX.out.op.cell 0
        have y1 : X.cell? ⟨w4.heap.size, 1, none⟩ = some (.string ⟨#[]⟩) := HX.out.op.cell 1
        have y2 : X.cell? ⟨w4.heap.size, 2, none⟩ = some (.string noStr) := HX.out.op.cell 2
        have y3 : X.cell? ⟨w4.heap.size, 3, none⟩ = some (.slice none 0 0) := HX.out.op.cell 3
        have he := onA_end HX.out HV4.out
        have HE1 := hide he.1
        have HE2 := hide he.2.1
        have HE3 := hide he.2.2.1
        have HE4 := hide he.2.2.2
        clear he
        go_wp2_with (at_builtin; (refine wpList_append_ops _ rfl (.tmp 64) (.tmp 66) rfl w.heap.size (.slice av l.length cv) vs l rfl ?_ (.slice (some ⟨X.heap.size, 0, none⟩) 1 1) [(.int .i64 6, .string ⟨#[]⟩, .string noStr, .slice none 0 0)] [(6, ⟨#[]⟩, noStr, [])] rfl ?_ ?_ ?_ ?_ ?_; (exact HE1.out); (exact HE2.out); (exact Nat.succ_pos 0); (exact HLL.out); (exact HE4.out); intro v6 w6 h6 hg6; have HV6 := hide h6; have HR6 := hide (rd_grown HE3.out hg6 (fun b e => (own_ge HE1.out.row e).1) hpl hw0); clear h6 hg6))
        go_roundw
        case rel => exact ⟨n + 1, _, l ++ [(6, ⟨#[]⟩, noStr, [])], _, by omega, by go_num, HV6.out, by simp; omega, opsB_snoc HOB.out (⟨noStr40, noStr40, by simp⟩), HR6.out⟩
        case measure => simp [intOf]; omega
      · skip
        have HX := hide (HA5.out.kind 1)
        go_upto_region 29 with fail
        generalize W5.setCell ⟨w4.heap.size, 0, none⟩ (.int .i64 1) = X at HX ⊢
        clear HA5 z0 z1 z2 z3 f0 f1 f2 f3
        by_cases h251 : c = 251
        · subst h251
          have y0 : X.cell? ⟨w4.heap.size, 0, none⟩ = some (.int .i64 1) := HX.out.op.cell 0
          have y1 : X.cell? ⟨w4.heap.size, 1, none⟩ = some (.string nm) := HX.out.op.cell 1
          have e0 := frozen_of_row X w4.heap.size 0 _ _ HX.out.op
          have e1 := frozen_of_row X w4.heap.size 1 _ _ HX.out.op
          have HX2 := hide (HX.out.name ⟨#[97, 32, 98]⟩)
          go_upto_region 31 with fail
          generalize X.setCell ⟨w4.heap.size, 1, none⟩ (.string ⟨#[97, 32, 98]⟩) = X2 at HX2 ⊢
          clear y0 y1 e0 e1
          have y0 : X2.cell? ⟨w4.heap.size, 0, none⟩ = some (.int .i64 1) := HX2.out.op.cell 0
          have y1 : X2.cell? ⟨w4.heap.size, 1, none⟩ = some (.string ⟨#[97, 32, 98]⟩) := HX2.out.op.cell 1
          have y2 : X2.cell? ⟨w4.heap.size, 2, none⟩ = some (.string noStr) := HX2.out.op.cell 2
          have y3 : X2.cell? ⟨w4.heap.size, 3, none⟩ = some (.slice none 0 0) := HX2.out.op.cell 3
          have he := onA_end HX2.out HV4.out
          have HE1 := hide he.1
          have HE2 := hide he.2.1
          have HE3 := hide he.2.2.1
          have HE4 := hide he.2.2.2
          clear he
          go_wp2_with (at_builtin; (refine wpList_append_ops _ rfl (.tmp 64) (.tmp 66) rfl w.heap.size (.slice av l.length cv) vs l rfl ?_ (.slice (some ⟨X2.heap.size, 0, none⟩) 1 1) [(.int .i64 1, .string ⟨#[97, 32, 98]⟩, .string noStr, .slice none 0 0)] [(1, ⟨#[97, 32, 98]⟩, noStr, [])] rfl ?_ ?_ ?_ ?_ ?_; (exact HE1.out); (exact HE2.out); (exact Nat.succ_pos 0); (exact HLL.out); (exact HE4.out); intro v6 w6 h6 hg6; have HV6 := hide h6; have HR6 := hide (rd_grown HE3.out hg6 (fun b e => (own_ge HE1.out.row e).1) hpl hw0); clear h6 hg6))
          go_roundw
          case rel => exact ⟨n + 1, _, l ++ [(1, ⟨#[97, 32, 98]⟩, noStr, [])], _, by omega, by go_num, HV6.out, by simp; omega, opsB_snoc HOB.out (⟨Nat.le_of_ble_eq_true rfl, noStr40, by simp⟩), HR6.out⟩
          case measure => simp [intOf]; omega
        have hn251 : ¬ (c : Int) = 251 := by omega
        have hn252 : ¬ (c : Int) = 252 := by omega
        have y0 : X.cell? ⟨w4.heap.size, 0, none⟩ = some (.int .i64 1) := HX.out.op.cell 0
        have y1 : X.cell? ⟨w4.heap.size, 1, none⟩ = some (.string nm) := HX.out.op.cell 1
        have y2 : X.cell? ⟨w4.heap.size, 2, none⟩ = some (.string noStr) := HX.out.op.cell 2
        have y3 : X.cell? ⟨w4.heap.size, 3, none⟩ = some (.slice none 0 0) := HX.out.op.cell 3
        have he := onA_end HX.out HV4.out
        have HE1 := hide he.1
        have HE2 := hide he.2.1
        have HE3 := hide he.2.2.1
        have HE4 := hide he.2.2.2
        clear he
        go_wp2_with (at_builtin; (refine wpList_append_ops _ rfl (.tmp 64) (.tmp 66) rfl w.heap.size (.slice av l.length cv) vs l rfl ?_ (.slice (some ⟨X.heap.size, 0, none⟩) 1 1) [(.int .i64 1, .string nm, .string noStr, .slice none 0 0)] [(1, nm, noStr, [])] rfl ?_ ?_ ?_ ?_ ?_; (exact HE1.out); (exact HE2.out); (exact Nat.succ_pos 0); (exact HLL.out); (exact HE4.out); intro v6 w6 h6 hg6; have HV6 := hide h6; have HR6 := hide (rd_grown HE3.out hg6 (fun b e => (own_ge HE1.out.row e).1) hpl hw0); clear h6 hg6))
        go_roundw
        case rel => exact ⟨n + 1, _, l ++ [(1, nm, noStr, [])], _, by omega, by go_num, HV6.out, by simp; omega, opsB_snoc HOB.out (⟨hnm, noStr40, by simp⟩), HR6.out⟩
        case measure => simp [intOf]; omega
    · have hli : ¬ (n : Int) < (most : Int) := by omega
      have HV := hide hv
      have HR := hide hr
      clear hv hr
      go_wp2
      go_ret
      exact ⟨_, vs, l, j, rfl, HV.out, by omega, HOB.out, HR.out⟩
end Go.Proofs.YtpccongphchagaaGreatDoor
