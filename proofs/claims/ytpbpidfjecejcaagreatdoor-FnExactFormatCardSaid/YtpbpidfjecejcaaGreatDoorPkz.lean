import Derived.Test.YtpbpidfjecejcaaGreatDoorPks
import Derived.Test.YtpbpidfjecejcaaGreatDoorPko
import Derived.Deep.DeepCutAuto
import Derived.Deep.RegionLaw
import Derived.ProofKit
import Derived.OpenShut
import Derived.ShutString
import Derived.ChangeOld
import Derived.Below
import Derived.Deep.SlicePairs
namespace Go.Proofs.YtpbpidfjecejcaaGreatDoor
open Go.RowKit
set_option linter.unusedVariables false
set_option maxRecDepth 20000 in
set_option maxHeartbeats 4000000 in
theorem l1One_rem (base : Nat) (v1 v2 v3 v4 : Value) (D : MDisk) (nm tt : ByteArray) (ad : Option Addr) (data : List Nat) (cd : Nat) (w : World) (hbase : base ≤ w.heap.size) (hW : Wkd D) (hs1 : nm.size ≤ 1048576) (hs2 : tt.size ≤ 1048576) (hdl : data.length ≤ 1048576) (hrow : RowAt w ad data) (hd : Dk w base v1 v2 v3 v4 D) (hok : okName nm = true) :
    Calls Tryz.prog 43 #[.agg #[v1, v2, v3, v4, .int .i64 D.quota], .agg #[.int .i64 5, .string nm, .string tt, .slice ad data.length cd]] w (OnPost base w (doOne D (5, nm, tt, data))) := by
  obtain ⟨a1, c1, rfl⟩ := hd.n.slice
  obtain ⟨a2, c2, rfl⟩ := hd.e.slice
  obtain ⟨a3, c3, rfl⟩ := hd.k.slice
  obtain ⟨a4, c4, rfl⟩ := hd.p.slice
  obtain ⟨L1, L2, L3, hA, hz⟩ := boxes3 w #[.slice a1 D.nodes.length c1, .slice a2 D.names.length c2, .slice a3 D.kept.length c3, .slice a4 D.pend.length c4, .int .i64 D.quota] #[.int .i64 5, .string nm, .string tt, .slice ad data.length cd] #[.slice none 0 0, .slice none 0 0, .slice none 0 0, .slice none 0 0, .int .i64 0] 27 56 27
  have HD := hide (hd.below hA)
  have HRW := hide (hrow.below hA)
  have HA := hide (Kep.of_below hA hbase)
  have HAB := hide hA
  have HW := hide hW
  have hln := hW.fine.ln
  have hnn := hW.nn
  have hnp := hW.np
  have HGW := hide (fun g (hg : (Value.slice a1 D.nodes.length c1).ownBlock = some g) => by obtain ⟨vs, _, hr0, _⟩ := hd.n; exact (own_ge hr0 hg).2)
  clear hd hrow hW hA
  go_enter Tryz.func43, Tryz.ntmps43
  go_upto_region 1 with fail
  generalize ((w.alloc (.cells #[.slice a1 D.nodes.length c1, .slice a2 D.names.length c2, .slice a3 D.kept.length c3, .slice a4 D.pend.length c4, .int .i64 D.quota] 27)).alloc (.cells #[.int .i64 5, .string nm, .string tt, .slice ad data.length cd] 56)).alloc (.cells #[.slice none 0 0, .slice none 0 0, .slice none 0 0, .slice none 0 0, .int .i64 0] 27) = W at L1 L2 L3 HD HRW HA HAB hz ⊢
  have HZ := hide hz
  have q0 : W.cell? ⟨w.heap.size, 0, none⟩ = some (.slice a1 D.nodes.length c1) := L1.cell 0
  have q1 : W.cell? ⟨w.heap.size, 1, none⟩ = some (.slice a2 D.names.length c2) := L1.cell 1
  have q2 : W.cell? ⟨w.heap.size, 2, none⟩ = some (.slice a3 D.kept.length c3) := L1.cell 2
  have q3 : W.cell? ⟨w.heap.size, 3, none⟩ = some (.slice a4 D.pend.length c4) := L1.cell 3
  have q4 : W.cell? ⟨w.heap.size, 4, none⟩ = some (.int .i64 D.quota) := L1.cell 4
  have o0 : W.cell? ⟨w.heap.size + 1, 0, none⟩ = some (.int .i64 5) := L2.cell 0
  have o1 : W.cell? ⟨w.heap.size + 1, 1, none⟩ = some (.string nm) := L2.cell 1
  have o2 : W.cell? ⟨w.heap.size + 1, 2, none⟩ = some (.string tt) := L2.cell 2
  have o3 : W.cell? ⟨w.heap.size + 1, 3, none⟩ = some (.slice ad data.length cd) := L2.cell 3
  have z0 : W.cell? ⟨w.heap.size + 1 + 1, 0, none⟩ = some (.slice none 0 0) := L3.cell 0
  have z1 : W.cell? ⟨w.heap.size + 1 + 1, 1, none⟩ = some (.slice none 0 0) := L3.cell 1
  have z2 : W.cell? ⟨w.heap.size + 1 + 1, 2, none⟩ = some (.slice none 0 0) := L3.cell 2
  have z3 : W.cell? ⟨w.heap.size + 1 + 1, 3, none⟩ = some (.slice none 0 0) := L3.cell 3
  have z4 : W.cell? ⟨w.heap.size + 1 + 1, 4, none⟩ = some (.int .i64 0) := L3.cell 4
  have f0 := frozen_of_row W (w.heap.size + 1 + 1) 0 _ _ L3
  have f1 := frozen_of_row W (w.heap.size + 1 + 1) 1 _ _ L3
  have f2 := frozen_of_row W (w.heap.size + 1 + 1) 2 _ _ L3
  have f3 := frozen_of_row W (w.heap.size + 1 + 1) 3 _ _ L3
  have f4 := frozen_of_row W (w.heap.size + 1 + 1) 4 _ _ L3
  have HL1 := hide L1
  have HL2 := hide L2
  have HL3 := hide L3
  clear L1 L2 L3 hz
  -- what every way without a change ends with
  have END := hide (fun (code : Int) (hR : doOne D (5, nm, tt, data) = (D, code)) => on_end (w := w) (B := w.heap.size + 1 + 1) hR rfl HD.out HL3.out HA.out (by omega) hbase (fun _ => HAB.out))
  have FIND := hide (l1Find_n a2 c2 D.names nm W (by omega) HD.out.e.at)
  have GN := hide (l1GoodName_any nm W (by omega))
  rw [hok] at GN
  have HOK := hide hok
  clear hok
  have HNM := hide (show nmOk (5, nm, tt, data) from ⟨HOK.out, fun e => absurd e (by simp)⟩)
  go_wp2_with fail
  refine GN.out.mono ?_
  rintro e w2 ⟨rfl, hw2⟩
  have hw2' := hw2.symm
  subst hw2'
  clear GN
  go_wp2_with fail
  refine FIND.out.mono ?_
  rintro e w2 ⟨hfd, hw2⟩
  have hw2' := hw2.symm
  subst hw2'
  clear FIND
  rcases hfd with ⟨i, nd, hi, hin, hcell, rfl⟩ | ⟨hno, rfl⟩
  case inr =>
    have HNO := hide hno
    clear hno
    go_wp2
    exact bodyPost_ret (ret_one (w.heap.size + 1 + 1) _ _ _ _ _ _ _ rfl rfl rfl (set_disk _ _ _ _ _ HL3.out)) rfl (END.out 4 (one_missing (by simp) (by simp) HNM.out HNO.out))
  obtain ⟨k, rfl, hk, hnda⟩ := nd_at HW.out hin
  obtain ⟨be, oe, rfl, -⟩ := HD.out.e.at (by omega)
  have x1 := hcell be oe rfl
  obtain ⟨gn, rfl, hgb, hgf, hgk, hgc⟩ := HD.out.n.cells (by omega)
  obtain ⟨ai, ci, x2, x3, hbo⟩ := hgc k hk
  have HIN := hide hin
  have HNDA := hide hnda
  have HBO := hide hbo
  have hgw : gn < w.heap.size := HGW.out gn rfl
  clear hcell hgc hin hnda hbo hgk
  by_cases FP : 1000 ≤ D.pend.length
  · have HR := hide (show doOne D (5, nm, tt, data) = (D, 6) from by
      rw [one_there (by simp) (by simp) HNM.out HIN.out]
      rw [if_neg (by simp), if_neg (by simp), if_neg (by simp)]
      rw [if_pos FP])
    go_wp2
    exact bodyPost_ret (ret_one (w.heap.size + 1 + 1) _ _ _ _ _ _ _ rfl rfl rfl (set_disk _ _ _ _ _ HL3.out)) rfl (END.out 6 HR.out)
  have HR := hide (show doOne D (5, nm, tt, data) = (dirD D (5, nm, noStr, 0), 0) from by
    rw [one_there (by simp) (by simp) HNM.out HIN.out]
    rw [if_neg (by simp), if_neg (by simp), if_neg (by simp)]
    rw [if_neg FP]
    rfl)
  have hal := (Below.refl W.heap.size W).alloc (Nat.le_refl _) (.cells #[.int .i64 5, .string nm, .string noStr, .int .i64 0] 105)
  have hlow : base ≤ W.heap.size := by have := HZ.out; omega
  have DIR := hide (l1Dir_any base _ _ _ _ D 5 nm noStr 0 _ (W.alloc (.cells #[.int .i64 5, .string nm, .string noStr, .int .i64 0] 105)) (by simp; omega) (by omega) (by omega) hs1 (by simp [noStr, ByteArray.size]) (rep_remove HIN.out) (HD.out.below hal))
  have HKX := hide (HA.out.trans (Kep.of_below hal hlow))
  have M3 := hide (HL3.out.below hal HL3.out.lt)
  have M1 := HL1.out.below hal HL1.out.lt
  have r0 : (W.alloc (.cells #[.int .i64 5, .string nm, .string noStr, .int .i64 0] 105)).cell? ⟨w.heap.size, 0, none⟩ = some (.slice (some ⟨gn, 0, none⟩) D.nodes.length c1) := M1.cell 0
  have r1 : (W.alloc (.cells #[.int .i64 5, .string nm, .string noStr, .int .i64 0] 105)).cell? ⟨w.heap.size, 1, none⟩ = some (.slice (some ⟨be, oe, none⟩) D.names.length c2) := M1.cell 1
  have r2 : (W.alloc (.cells #[.int .i64 5, .string nm, .string noStr, .int .i64 0] 105)).cell? ⟨w.heap.size, 2, none⟩ = some (.slice a3 D.kept.length c3) := M1.cell 2
  have r3 : (W.alloc (.cells #[.int .i64 5, .string nm, .string noStr, .int .i64 0] 105)).cell? ⟨w.heap.size, 3, none⟩ = some (.slice a4 D.pend.length c4) := M1.cell 3
  have r4 : (W.alloc (.cells #[.int .i64 5, .string nm, .string noStr, .int .i64 0] 105)).cell? ⟨w.heap.size, 4, none⟩ = some (.int .i64 D.quota) := M1.cell 4
  have M2 := HL2.out.below hal HL2.out.lt
  have s0 : (W.alloc (.cells #[.int .i64 5, .string nm, .string noStr, .int .i64 0] 105)).cell? ⟨w.heap.size + 1, 0, none⟩ = some (.int .i64 5) := M2.cell 0
  have s2 : (W.alloc (.cells #[.int .i64 5, .string nm, .string noStr, .int .i64 0] 105)).cell? ⟨w.heap.size + 1, 2, none⟩ = some (.string tt) := M2.cell 2
  clear M1 M2 hal
  unfold noStr at *
  go_wp2_with fail
  refine DIR.out.mono ?_
  rintro e w7 ⟨y1, y2, y3, y4, rfl, hd7, hk7⟩
  obtain ⟨b1, d1, rfl⟩ := hd7.n.slice
  obtain ⟨b2, d2, rfl⟩ := hd7.e.slice
  obtain ⟨b3, d3, rfl⟩ := hd7.k.slice
  obtain ⟨b4, d4, rfl⟩ := hd7.p.slice
  have L3 := hk7.laid M3.out (by decide) (by decide)
  have k0 : w7.cell? ⟨w.heap.size + 1 + 1, 0, none⟩ = some (.slice none 0 0) := L3.cell 0
  have g0 := frozen_of_row w7 (w.heap.size + 1 + 1) 0 _ _ L3
  have k1 : w7.cell? ⟨w.heap.size + 1 + 1, 1, none⟩ = some (.slice none 0 0) := L3.cell 1
  have g1 := frozen_of_row w7 (w.heap.size + 1 + 1) 1 _ _ L3
  have k2 : w7.cell? ⟨w.heap.size + 1 + 1, 2, none⟩ = some (.slice none 0 0) := L3.cell 2
  have g2 := frozen_of_row w7 (w.heap.size + 1 + 1) 2 _ _ L3
  have k3 : w7.cell? ⟨w.heap.size + 1 + 1, 3, none⟩ = some (.slice none 0 0) := L3.cell 3
  have g3 := frozen_of_row w7 (w.heap.size + 1 + 1) 3 _ _ L3
  have k4 : w7.cell? ⟨w.heap.size + 1 + 1, 4, none⟩ = some (.int .i64 0) := L3.cell 4
  have g4 := frozen_of_row w7 (w.heap.size + 1 + 1) 4 _ _ L3
  have HL := hide L3
  have HD7 := hide hd7
  have HK7 := hide (HKX.out.trans hk7)
  clear hd7 hk7 L3 DIR z0 z1 z2 z3 z4 f0 f1 f2 f3 f4 q0 q1 q2 q3 q4 o0 o1 o2 o3
  go_wp2
  exact bodyPost_ret (ret_one (w.heap.size + 1 + 1) _ _ _ _ _ _ _ rfl rfl rfl (set_disk _ _ _ _ _ HL.out)) rfl (on_end (w := w) HR.out rfl HD7.out HL.out HK7.out (by omega) hbase (fun h => absurd rfl h))
end Go.Proofs.YtpbpidfjecejcaaGreatDoor
namespace Go.Proofs.YtpbpidfjecejcaaGreatDoor
open Go.ChangeShapes Go.WideShapes Go.ChangeAt Go.RowKit Go.Deep
set_option linter.unusedVariables false
section
variable {H : Type} {enc : TypeId × Value → H} {W : World}
theorem spot_none {a : Addr} {v : Value} (h : W.cell? a = some v) : a.spot = none := World.cell?_spot h
theorem bytes_open {fuel : Nat} {v : Value} {x : DataW H × List MemPlace} (h : DataW.trod enc Tryz.prog W 0 (fun _ => true) true fuel 52 [v] = some x) :
    ∃ (a : Option Addr) (c : Nat) (l : List Nat), v = .slice a l.length c ∧ RowAt W a l ∧ l.length ≤ 9223372036854775807 := by
  rcases open_ints Tryz.underlying52 Tryz.underlying5 (by kernel_rfl) h with ⟨hcs, _⟩ | ⟨x, l, c, zs, hcs, _, hl, hm, hz, _, hcell, hwz⟩
  · simp only [List.cons.injEq, and_true] at hcs
    exact ⟨none, 0, [], hcs, fun h => absurd h (Nat.lt_irrefl _), by simp⟩
  · simp only [List.cons.injEq, and_true] at hcs
    have hz2 : zs.length = c := by simpa using hz
    have hlen : ((zs.take l).map Int.toNat).length = l := by simp; omega
    refine ⟨some x, c, (zs.take l).map Int.toNat, by rw [hlen]; exact hcs, fun hp => ?_, by rw [hlen]; unfold maxLen at hm; omega⟩
    obtain ⟨b, off, spot⟩ := x
    have hc := hcell 0 (by omega)
    have hspot : spot = none := by simpa [Addr.add] using World.cell?_spot hc
    subst hspot
    refine ⟨b, off, rfl, fun i hi => ?_⟩
    have hi' : i < zs.length := by omega
    have h1 := hcell i hi'
    have hb : 0 ≤ zs[i] ∧ zs[i] ≤ 255 := by
      have := hwz zs[i] (List.getElem_mem hi')
      simp [Lit.wf, IntKind.min, IntKind.max, IntKind.signed, IntKind.bits] at this
      exact this
    rw [addr_add] at h1
    rw [h1]
    simp only [List.getElem_map, List.getElem_take, List.getD_eq_getElem?_getD, List.getElem?_eq_getElem hi', Option.getD_some]
    rw [Int.toNat_of_nonneg hb.1]
theorem ents_open {fuel : Nat} {v : Value} {x : DataW H × List MemPlace} (h : DataW.trod enc Tryz.prog W 0 (fun _ => true) true fuel 33 [v] = some x) :
    ∃ (a : Option Addr) (c : Nat) (es : List (ByteArray × Int)), v = .slice a es.length c ∧ EntAt W a es ∧ es.length ≤ 9223372036854775807 ∧ ∀ e ∈ es, e.1.size ≤ 9223372036854775807 := by
  rcases open_slice_pairs Tryz.underlying33 Tryz.underlying109 (by kernel_rfl) rfl rfl (by kernel_rfl) (by kernel_rfl) h with ⟨hcs, _⟩ | ⟨x, l, c, m, fu, V0, V1, D0, D1, P0, P1, hcs, _, hl, hm, hmm, _, hx⟩
  · simp only [List.cons.injEq, and_true] at hcs
    exact ⟨none, 0, [], hcs, (fun h => absurd h (Nat.lt_irrefl _)), by simp, (fun e he => by cases he)⟩
  · simp only [List.cons.injEq, and_true] at hcs
    have hmm2 : m = c := by simpa using hmm
    have each : ∀ i, i < l → ∃ q : ByteArray × Int, W.cell? (x.add (i * 2)) = some (.string q.1) ∧ W.cell? (x.add (i * 2 + 1)) = some (.int .i64 q.2) ∧ q.1.size ≤ 9223372036854775807 := fun i hi => by
      obtain ⟨x0, x1, t0, t1⟩ := hx i (by omega)
      obtain ⟨s, g0, _, hs⟩ := DataW.trod_string Tryz.underlying9 t0
      obtain ⟨z, g1, _⟩ := DataW.trod_int Tryz.underlying3 t1
      simp only [List.cons.injEq, and_true] at g0 g1
      exact ⟨(s, z), by rw [x0, g0], by rw [x1, g1], by unfold maxLen at hs; simp only; omega⟩
    obtain ⟨q, hq⟩ := choose_lt each
    have hlen : ((List.range l).map q).length = l := by simp
    refine ⟨some x, c, (List.range l).map q, by rw [hlen]; exact hcs, fun hp => ?_, by rw [hlen]; unfold maxLen at hm; omega, fun e he => ?_⟩
    · obtain ⟨b, off, spot⟩ := x
      have hspot : spot = none := by simpa [Addr.add] using World.cell?_spot (hq 0 (by omega)).1
      subst hspot
      refine ⟨b, off, rfl, fun i hi => ?_⟩
      obtain ⟨k0, k1, _⟩ := hq i (by omega)
      rw [addr_add] at k0 k1
      simp only [List.getElem_map, List.getElem_range]
      exact ⟨k0, k1⟩
    · obtain ⟨i, hi, rfl⟩ := List.mem_map.1 he
      exact (hq i (List.mem_range.1 hi)).2.2
theorem nodes_open {fuel : Nat} {v : Value} {x : DataW H × List MemPlace} (h : DataW.trod enc Tryz.prog W 0 (fun _ => true) true fuel 32 [v] = some x) :
    ∃ (a : Option Addr) (c : Nat) (es : List (List Nat × Int)), v = .slice a es.length c ∧ NodeAt W a es ∧ es.length ≤ 9223372036854775807 ∧ ∀ e ∈ es, e.1.length ≤ 9223372036854775807 := by
  rcases open_slice_pairs Tryz.underlying32 Tryz.underlying107 (by kernel_rfl) rfl rfl (by kernel_rfl) (by kernel_rfl) h with ⟨hcs, _⟩ | ⟨x, l, c, m, fu, V0, V1, D0, D1, P0, P1, hcs, _, hl, hm, hmm, _, hx⟩
  · simp only [List.cons.injEq, and_true] at hcs
    exact ⟨none, 0, [], hcs, (fun h => absurd h (Nat.lt_irrefl _)), by simp, (fun e he => by cases he)⟩
  · simp only [List.cons.injEq, and_true] at hcs
    have hmm2 : m = c := by simpa using hmm
    have each : ∀ i, i < l → ∃ q : List Nat × Int, (∃ ai ci, W.cell? (x.add (i * 2)) = some (.slice ai q.1.length ci) ∧ RowAt W ai q.1) ∧ W.cell? (x.add (i * 2 + 1)) = some (.int .i64 q.2) ∧ q.1.length ≤ 9223372036854775807 := fun i hi => by
      obtain ⟨x0, x1, t0, t1⟩ := hx i (by omega)
      obtain ⟨ai, ci, bl, g0, hr, hbl⟩ := bytes_open t0
      obtain ⟨z, g1, _⟩ := DataW.trod_int Tryz.underlying3 t1
      simp only [List.cons.injEq, and_true] at g1
      exact ⟨(bl, z), ⟨ai, ci, by rw [x0, g0], hr⟩, by rw [x1, g1], hbl⟩
    obtain ⟨q, hq⟩ := choose_lt each
    have hlen : ((List.range l).map q).length = l := by simp
    refine ⟨some x, c, (List.range l).map q, by rw [hlen]; exact hcs, fun hp => ?_, by rw [hlen]; unfold maxLen at hm; omega, fun e he => ?_⟩
    · obtain ⟨b, off, spot⟩ := x
      obtain ⟨⟨_, _, k00, _⟩, _⟩ := hq 0 (by omega)
      have hspot : spot = none := by simpa [Addr.add] using World.cell?_spot k00
      subst hspot
      refine ⟨b, off, rfl, fun i hi => ?_⟩
      obtain ⟨⟨ai, ci, k0, kr⟩, k1, _⟩ := hq i (by omega)
      rw [addr_add] at k0 k1
      simp only [List.getElem_map, List.getElem_range]
      exact ⟨ai, ci, k0, k1, kr⟩
    · obtain ⟨i, hi, rfl⟩ := List.mem_map.1 he
      exact (hq i (List.mem_range.1 hi)).2.2
set_option maxRecDepth 20000 in
theorem ops_open {fuel : Nat} {v : Value} {x : DataW H × List MemPlace} (h : DataW.trod enc Tryz.prog W 0 (fun _ => true) true fuel 34 [v] = some x) :
    ∃ (a : Option Addr) (c : Nat) (es : List (Int × ByteArray × ByteArray × Int)), v = .slice a es.length c ∧ OpAt W a es ∧ es.length ≤ 9223372036854775807 ∧ (∀ e ∈ es, e.2.1.size ≤ 9223372036854775807 ∧ e.2.2.1.size ≤ 9223372036854775807) ∧ ∀ o ∈ es, (Lit.int .i64 o.2.2.2).wf = true := by
  have ce : Tryz.prog.cellsOf 111 = 4 := by kernel_rfl
  have c3 : Tryz.prog.cellsOf 3 = 1 := by kernel_rfl
  have c9 : Tryz.prog.cellsOf 9 = 1 := by kernel_rfl
  rcases open_slice Tryz.underlying34 h with ⟨hcs, _⟩ | ⟨x, l, c, m, fu, D, Pl, hcs, _, hl, hm, hmm, _, hx⟩
  · simp only [List.cons.injEq, and_true] at hcs
    exact ⟨none, 0, [], hcs, (fun h => absurd h (Nat.lt_irrefl _)), by simp, (fun e he => by cases he), (fun e he => by cases he)⟩
  · simp only [List.cons.injEq, and_true] at hcs
    have hmm2 : m = c := by simpa using hmm
    have each : ∀ i, i < l → ∃ q : Int × ByteArray × ByteArray × Int, W.cell? (x.add (i * 4)) = some (.int .i64 q.1) ∧ W.cell? (x.add (i * 4 + 1)) = some (.string q.2.1) ∧ W.cell? (x.add (i * 4 + 2)) = some (.string q.2.2.1) ∧ W.cell? (x.add (i * 4 + 3)) = some (.int .i64 q.2.2.2) ∧ q.2.1.size ≤ 9223372036854775807 ∧ q.2.2.1.size ≤ 9223372036854775807 ∧ (Lit.int .i64 q.2.2.2).wf = true := fun i hi => by
      obtain ⟨cs', h1, h2⟩ := hx i (by omega)
      rw [ce] at h1
      obtain ⟨_, hlen, hcell⟩ := World.cells?_some h1
      obtain ⟨xs, k, hk, hxy, _, hxl, hf⟩ := DataW.trod_struct Tryz.underlying111 h2
      match cs', hlen with
      | [v0, v1, v2, v3], _ =>
        have e0 := hcell 0 (by omega)
        have e1 := hcell 1 (by omega)
        have e2 := hcell 2 (by omega)
        have e3 := hcell 3 (by omega)
        rw [add_add] at e0 e1 e2 e3
        have hxl4 : xs.length = 4 := hxl
        match xs, hxl4 with
        | [y0, y1, y2, y3], _ =>
          have g0 : (DataW.trod enc Tryz.prog W 0 (fun _ => true) true k 3 (([v0, v1, v2, v3].drop 0).take (Tryz.prog.cellsOf 3)) = some y0) := hf 0 _ rfl
          rw [c3] at g0
          have g0 : DataW.trod enc Tryz.prog W 0 (fun _ => true) true k 3 [v0] = some y0 := g0
          have g1 : (DataW.trod enc Tryz.prog W 0 (fun _ => true) true k 9 (([v0, v1, v2, v3].drop 1).take (Tryz.prog.cellsOf 9)) = some y1) := hf 1 _ rfl
          rw [c9] at g1
          have g1 : DataW.trod enc Tryz.prog W 0 (fun _ => true) true k 9 [v1] = some y1 := g1
          have g2 : (DataW.trod enc Tryz.prog W 0 (fun _ => true) true k 9 (([v0, v1, v2, v3].drop 2).take (Tryz.prog.cellsOf 9)) = some y2) := hf 2 _ rfl
          rw [c9] at g2
          have g2 : DataW.trod enc Tryz.prog W 0 (fun _ => true) true k 9 [v2] = some y2 := g2
          have g3 : (DataW.trod enc Tryz.prog W 0 (fun _ => true) true k 3 (([v0, v1, v2, v3].drop 3).take (Tryz.prog.cellsOf 3)) = some y3) := hf 3 _ rfl
          rw [c3] at g3
          have g3 : DataW.trod enc Tryz.prog W 0 (fun _ => true) true k 3 [v3] = some y3 := g3
          obtain ⟨z0, r0, _⟩ := DataW.trod_int Tryz.underlying3 g0
          obtain ⟨s1, r1, _, hs1⟩ := DataW.trod_string Tryz.underlying9 g1
          obtain ⟨s2, r2, _, hs2⟩ := DataW.trod_string Tryz.underlying9 g2
          obtain ⟨z3, r3, _, w3⟩ := DataW.trod_int Tryz.underlying3 g3
          simp only [List.cons.injEq, and_true] at r0 r1 r2 r3
          subst r0 r1 r2 r3
          exact ⟨(z0, s1, s2, z3), by simpa using e0, by simpa using e1, by simpa using e2, by simpa using e3, by unfold maxLen at hs1; simp only; omega, by unfold maxLen at hs2; simp only; omega, w3⟩
    obtain ⟨q, hq⟩ := choose_lt each
    have hlen : ((List.range l).map q).length = l := by simp
    refine ⟨some x, c, (List.range l).map q, by rw [hlen]; exact hcs, fun hp => ?_, by rw [hlen]; unfold maxLen at hm; omega, fun e he => ?_, fun e he => ?_⟩
    · obtain ⟨b, off, spot⟩ := x
      have hspot : spot = none := by simpa [Addr.add] using World.cell?_spot (hq 0 (by omega)).1
      subst hspot
      refine ⟨b, off, rfl, fun i hi => ?_⟩
      obtain ⟨k0, k1, k2, k3, _⟩ := hq i (by omega)
      rw [addr_add] at k0 k1 k2 k3
      simp only [List.getElem_map, List.getElem_range]
      exact ⟨k0, k1, k2, k3⟩
    · obtain ⟨i, hi, rfl⟩ := List.mem_map.1 he
      exact ⟨(hq i (List.mem_range.1 hi)).2.2.2.2.1, (hq i (List.mem_range.1 hi)).2.2.2.2.2.1⟩
    · obtain ⟨i, hi, rfl⟩ := List.mem_map.1 he
      exact (hq i (List.mem_range.1 hi)).2.2.2.2.2.2
set_option maxRecDepth 20000 in
theorem disk_open {base : Nat} {v : Value} {d : DataW H} {ps : List MemPlace} (hval : Value.okWide Tryz.prog W .any base 36 v) (h : DataW.Trod enc Tryz.prog W 0 (fun _ => true) true 36 v d ps) : ∃ D, InDisk W v D := by
  obtain ⟨cs, rfl, hsz⟩ := okWide_struct Tryz.underlying36 hval
  obtain ⟨fuel, hf⟩ := h
  obtain ⟨xs, k, hk, hxy, hl5, hxl, hfl⟩ := DataW.trod_struct Tryz.underlying36 hf
  have ce : Tryz.prog.cellsOf 36 = 5 := by kernel_rfl
  have c3 : Tryz.prog.cellsOf 3 = 1 := by kernel_rfl
  have cn : Tryz.prog.cellsOf 32 = 1 := by kernel_rfl
  have cen : Tryz.prog.cellsOf 33 = 1 := by kernel_rfl
  have co : Tryz.prog.cellsOf 34 = 1 := by kernel_rfl
  rw [ce] at hsz
  obtain ⟨l⟩ := cs
  have hll : l.length = 5 := by simpa using hsz
  match l, hll with
  | [v0, v1, v2, v3, v4], _ =>
    have hxl5 : xs.length = 5 := hxl
    match xs, hxl5 with
    | [y0, y1, y2, y3, y4], _ =>
      have g0 : (DataW.trod enc Tryz.prog W 0 (fun _ => true) true k 32 (([v0, v1, v2, v3, v4].drop 0).take (Tryz.prog.cellsOf 32)) = some y0) := hfl 0 _ rfl
      rw [cn] at g0
      have g0 : DataW.trod enc Tryz.prog W 0 (fun _ => true) true k 32 [v0] = some y0 := g0
      have g1 : (DataW.trod enc Tryz.prog W 0 (fun _ => true) true k 33 (([v0, v1, v2, v3, v4].drop 1).take (Tryz.prog.cellsOf 33)) = some y1) := hfl 1 _ rfl
      rw [cen] at g1
      have g1 : DataW.trod enc Tryz.prog W 0 (fun _ => true) true k 33 [v1] = some y1 := g1
      have g2 : (DataW.trod enc Tryz.prog W 0 (fun _ => true) true k 33 (([v0, v1, v2, v3, v4].drop 2).take (Tryz.prog.cellsOf 33)) = some y2) := hfl 2 _ rfl
      rw [cen] at g2
      have g2 : DataW.trod enc Tryz.prog W 0 (fun _ => true) true k 33 [v2] = some y2 := g2
      have g3 : (DataW.trod enc Tryz.prog W 0 (fun _ => true) true k 34 (([v0, v1, v2, v3, v4].drop 3).take (Tryz.prog.cellsOf 34)) = some y3) := hfl 3 _ rfl
      rw [co] at g3
      have g3 : DataW.trod enc Tryz.prog W 0 (fun _ => true) true k 34 [v3] = some y3 := g3
      have g4 : (DataW.trod enc Tryz.prog W 0 (fun _ => true) true k 3 (([v0, v1, v2, v3, v4].drop 4).take (Tryz.prog.cellsOf 3)) = some y4) := hfl 4 _ rfl
      rw [c3] at g4
      have g4 : DataW.trod enc Tryz.prog W 0 (fun _ => true) true k 3 [v4] = some y4 := g4
      obtain ⟨a1, c1, ns, rfl, r1, n1, h1⟩ := nodes_open g0
      obtain ⟨a2, c2, es, rfl, r2, n2, h2⟩ := ents_open g1
      obtain ⟨a3, c3', ks, rfl, r3, n3, h3⟩ := ents_open g2
      obtain ⟨a4, c4, os, rfl, r4, n4, h4, h5⟩ := ops_open g3
      obtain ⟨qt, r5, _⟩ := DataW.trod_int Tryz.underlying3 g4
      obtain rfl : v4 = .int .i64 qt := by injection r5
      exact ⟨⟨ns, es, ks, os, qt⟩, ⟨a1, c1, a2, c2, a3, c3', a4, c4, rfl, r1, r2, r3, r4⟩, n1, n2, n3, n4, h1, h2, h3, h4, h5⟩
end
end Go.Proofs.YtpbpidfjecejcaaGreatDoor
