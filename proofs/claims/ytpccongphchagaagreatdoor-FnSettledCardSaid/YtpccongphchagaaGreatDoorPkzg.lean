import Derived.Test.YtpccongphchagaaGreatDoorPkzf
import Derived.Test.YtpccongphchagaaGreatDoorPkzb
import Derived.Deep.DeepCutAuto
import Derived.Deep.RegionLaw
import Derived.Lib.IfaceEq
namespace Go.Proofs.YtpccongphchagaaGreatDoor
open Go.RowKit
set_option linter.unusedVariables false
set_option maxRecDepth 20000 in
set_option maxHeartbeats 1000000 in
theorem do_none2 (base o b1 b2 m : Nat) (v1 v3 v4 : Value) (vs : List (Value × Value)) (D : MDisk) (nm tt : ByteArray) (ad : Option Addr) (data : List Nat) (cd : Nat) (w : World) (hbase : base ≤ w.heap.size) (hW : Wkd D) (hm : m ≤ 1048570) (hs1 : nm.size ≤ 1048576) (hs2 : tt.size ≤ 1048576) (hdl : data.length ≤ 1048576) (hok : okName nm = true) (hin : nodeIn D.names nm = none) (hrow : RowAt w ad data) (hd : Drv base w o b1 b2 m v1 v3 v4 vs D) :
    Calls Tryz.prog 54 #[.pointer (some ⟨o, 0, none⟩), .agg #[.int .i64 2, .string nm, .string tt, .slice ad data.length cd]] w (DoP base o m w (doOne D (2, nm, tt, data))) := by
  have hA := (Below.refl w.heap.size w).alloc (Nat.le_refl _) (.cells #[.int .i64 2, .string nm, .string tt, .slice ad data.length cd] 39)
  have L0 := Laid.new w #[.int .i64 2, .string nm, .string tt, .slice ad data.length cd] 39
  have HD := hide (hd.below hA)
  have HK := hide (KepI.of_below hA hbase)
  have HRW := hide (hrow.below hA)
  have HW := hide hW
  clear hd hW hrow
  have GN := hide (fun (X : World) => goodName_any nm X (by omega))
  have GT := hide (fun (X : World) => goodName_any tt X (by omega))
  go_enter Tryz.func54, Tryz.ntmps54
  go_upto_region 1 with fail
  generalize w.alloc (.cells #[.int .i64 2, .string nm, .string tt, .slice ad data.length cd] 39) = W at hA L0 HD HK HRW ⊢
  have o0 : W.cell? ⟨w.heap.size, 0, none⟩ = some (.int .i64 2) := L0.cell 0
  have o1 : W.cell? ⟨w.heap.size, 1, none⟩ = some (.string nm) := L0.cell 1
  have o2 : W.cell? ⟨w.heap.size, 2, none⟩ = some (.string tt) := L0.cell 2
  have hbW : base ≤ W.heap.size := Nat.le_trans hbase hA.size
  have HOK := hide hok
  clear hok
  go_wp2_with fail
  refine (GN.out W).mono ?_
  rintro e w2 ⟨rfl, hb2⟩
  rw [HOK.out]
  have L2 := L0.below hb2 L0.lt
  have hbX : base ≤ w2.heap.size := Nat.le_trans hbW hb2.size
  replace HD := hide (HD.out.below hb2)
  replace HK := hide (HK.out.trans (KepI.of_below hb2 hbW))
  replace HRW := hide (HRW.out.below hb2)
  have p0 : w2.cell? ⟨w.heap.size, 0, none⟩ = some (.int .i64 2) := L2.cell 0
  have p1 : w2.cell? ⟨w.heap.size, 1, none⟩ = some (.string nm) := L2.cell 1
  have p2 : w2.cell? ⟨w.heap.size, 2, none⟩ = some (.string tt) := L2.cell 2
  have p3 : w2.cell? ⟨w.heap.size, 3, none⟩ = some (.slice ad data.length cd) := L2.cell 3
  have HL2 := hide L2
  clear hb2 o0 o1 o2 hbW L0 L2 hA
  have HIN := hide hin
  clear hin
  have r1 : w2.cell? ⟨o, 1, none⟩ = some (.map (some b1)) := HD.out.box.cell 1
  have r2 : w2.cell? ⟨o, 2, none⟩ = some (.map (some b2)) := HD.out.box.cell 2
  have HAS := hide (fun (X : World) (hX : Below w2.heap.size w2 X) => has_list b1 b2 m D.names nm X hs1 (HD.out.below hX).l)
  unfold lstV at HAS
  go_upto_region 10 with fail
  go_cut [50] (fun s wx => s = .bool true ∧ Below w2.heap.size w2 wx)
  case first =>
    go_region_with (first
      | (go_at_call 71; refine (HAS.out _ (Below.refl _ _).drew).mono ?_; rintro e w6 ⟨⟨r, rfl, hr⟩, hb6⟩; obtain rfl : r = false := by { cases r with | false => rfl | true => obtain ⟨x, hx⟩ := hr.1 rfl; exact absurd hx (nodeIn_no HIN.out x) }; have HB6 := hide ((Below.refl w2.heap.size w2).drew.trans hb6); clear hb6 hr)
      | fail)
    all_goals
      go_wp2_with fail
      go_meet
      case rel => exact ⟨by first | rfl | simp [*], HB6.out⟩
  case rest =>
    obtain ⟨rfl, hbc⟩ := hcut
    have HDC := hide (HD.out.below hbc)
    have HKC := hide (HK.out.trans (KepI.of_below hbc hbX))
    have HRC := hide (HRW.out.below hbc)
    have L3 := HL2.out.below hbc HL2.out.lt
    have hbC : base ≤ wc.heap.size := Nat.le_trans hbX hbc.size
    have k0 : wc.cell? ⟨w.heap.size, 0, none⟩ = some (.int .i64 2) := L3.cell 0
    have k1 : wc.cell? ⟨w.heap.size, 1, none⟩ = some (.string nm) := L3.cell 1
    have k2 : wc.cell? ⟨w.heap.size, 2, none⟩ = some (.string tt) := L3.cell 2
    have k3 : wc.cell? ⟨w.heap.size, 3, none⟩ = some (.slice ad data.length cd) := L3.cell 3
    clear hbc L3 HD HK HRW HL2 r1 r2 HAS p0 p1 p2 p3
    obtain ⟨wB, eB⟩ : ∃ x, x = wc := ⟨wc, rfl⟩
    subst eB
    go_wp2
    go_ret
    exact dop_same HDC.out HKC.out (one_missing (by simp) (by simp) (by exact ⟨HOK.out, fun h => absurd h (by simp)⟩) HIN.out) rfl
set_option maxRecDepth 20000 in
set_option maxHeartbeats 1000000 in
theorem do_none3 (base o b1 b2 m : Nat) (v1 v3 v4 : Value) (vs : List (Value × Value)) (D : MDisk) (nm tt : ByteArray) (ad : Option Addr) (data : List Nat) (cd : Nat) (w : World) (hbase : base ≤ w.heap.size) (hW : Wkd D) (hm : m ≤ 1048570) (hs1 : nm.size ≤ 1048576) (hs2 : tt.size ≤ 1048576) (hdl : data.length ≤ 1048576) (hok : okName nm = true) (hin : nodeIn D.names nm = none) (hrow : RowAt w ad data) (hd : Drv base w o b1 b2 m v1 v3 v4 vs D) :
    Calls Tryz.prog 54 #[.pointer (some ⟨o, 0, none⟩), .agg #[.int .i64 3, .string nm, .string tt, .slice ad data.length cd]] w (DoP base o m w (doOne D (3, nm, tt, data))) := by
  have hA := (Below.refl w.heap.size w).alloc (Nat.le_refl _) (.cells #[.int .i64 3, .string nm, .string tt, .slice ad data.length cd] 39)
  have L0 := Laid.new w #[.int .i64 3, .string nm, .string tt, .slice ad data.length cd] 39
  have HD := hide (hd.below hA)
  have HK := hide (KepI.of_below hA hbase)
  have HRW := hide (hrow.below hA)
  have HW := hide hW
  clear hd hW hrow
  have GN := hide (fun (X : World) => goodName_any nm X (by omega))
  have GT := hide (fun (X : World) => goodName_any tt X (by omega))
  go_enter Tryz.func54, Tryz.ntmps54
  go_upto_region 1 with fail
  generalize w.alloc (.cells #[.int .i64 3, .string nm, .string tt, .slice ad data.length cd] 39) = W at hA L0 HD HK HRW ⊢
  have o0 : W.cell? ⟨w.heap.size, 0, none⟩ = some (.int .i64 3) := L0.cell 0
  have o1 : W.cell? ⟨w.heap.size, 1, none⟩ = some (.string nm) := L0.cell 1
  have o2 : W.cell? ⟨w.heap.size, 2, none⟩ = some (.string tt) := L0.cell 2
  have hbW : base ≤ W.heap.size := Nat.le_trans hbase hA.size
  have HOK := hide hok
  clear hok
  go_wp2_with fail
  refine (GN.out W).mono ?_
  rintro e w2 ⟨rfl, hb2⟩
  rw [HOK.out]
  have L2 := L0.below hb2 L0.lt
  have hbX : base ≤ w2.heap.size := Nat.le_trans hbW hb2.size
  replace HD := hide (HD.out.below hb2)
  replace HK := hide (HK.out.trans (KepI.of_below hb2 hbW))
  replace HRW := hide (HRW.out.below hb2)
  have p0 : w2.cell? ⟨w.heap.size, 0, none⟩ = some (.int .i64 3) := L2.cell 0
  have p1 : w2.cell? ⟨w.heap.size, 1, none⟩ = some (.string nm) := L2.cell 1
  have p2 : w2.cell? ⟨w.heap.size, 2, none⟩ = some (.string tt) := L2.cell 2
  have p3 : w2.cell? ⟨w.heap.size, 3, none⟩ = some (.slice ad data.length cd) := L2.cell 3
  have HL2 := hide L2
  clear hb2 o0 o1 o2 hbW L0 L2 hA
  have HIN := hide hin
  clear hin
  have r1 : w2.cell? ⟨o, 1, none⟩ = some (.map (some b1)) := HD.out.box.cell 1
  have r2 : w2.cell? ⟨o, 2, none⟩ = some (.map (some b2)) := HD.out.box.cell 2
  have HAS := hide (fun (X : World) (hX : Below w2.heap.size w2 X) => has_list b1 b2 m D.names nm X hs1 (HD.out.below hX).l)
  unfold lstV at HAS
  go_upto_region 10 with fail
  go_cut [50] (fun s wx => s = .bool true ∧ Below w2.heap.size w2 wx)
  case first =>
    go_region_with (first
      | (go_at_call 71; refine (HAS.out _ (Below.refl _ _).drew).mono ?_; rintro e w6 ⟨⟨r, rfl, hr⟩, hb6⟩; obtain rfl : r = false := by { cases r with | false => rfl | true => obtain ⟨x, hx⟩ := hr.1 rfl; exact absurd hx (nodeIn_no HIN.out x) }; have HB6 := hide ((Below.refl w2.heap.size w2).drew.trans hb6); clear hb6 hr)
      | fail)
    all_goals
      go_wp2_with fail
      go_meet
      case rel => exact ⟨by first | rfl | simp [*], HB6.out⟩
  case rest =>
    obtain ⟨rfl, hbc⟩ := hcut
    have HDC := hide (HD.out.below hbc)
    have HKC := hide (HK.out.trans (KepI.of_below hbc hbX))
    have HRC := hide (HRW.out.below hbc)
    have L3 := HL2.out.below hbc HL2.out.lt
    have hbC : base ≤ wc.heap.size := Nat.le_trans hbX hbc.size
    have k0 : wc.cell? ⟨w.heap.size, 0, none⟩ = some (.int .i64 3) := L3.cell 0
    have k1 : wc.cell? ⟨w.heap.size, 1, none⟩ = some (.string nm) := L3.cell 1
    have k2 : wc.cell? ⟨w.heap.size, 2, none⟩ = some (.string tt) := L3.cell 2
    have k3 : wc.cell? ⟨w.heap.size, 3, none⟩ = some (.slice ad data.length cd) := L3.cell 3
    clear hbc L3 HD HK HRW HL2 r1 r2 HAS p0 p1 p2 p3
    obtain ⟨wB, eB⟩ : ∃ x, x = wc := ⟨wc, rfl⟩
    subst eB
    go_wp2
    go_ret
    exact dop_same HDC.out HKC.out (one_missing (by simp) (by simp) (by exact ⟨HOK.out, fun h => absurd h (by simp)⟩) HIN.out) rfl
set_option maxRecDepth 20000 in
set_option maxHeartbeats 1000000 in
theorem do_none4 (base o b1 b2 m : Nat) (v1 v3 v4 : Value) (vs : List (Value × Value)) (D : MDisk) (nm tt : ByteArray) (ad : Option Addr) (data : List Nat) (cd : Nat) (w : World) (hbase : base ≤ w.heap.size) (hW : Wkd D) (hm : m ≤ 1048570) (hs1 : nm.size ≤ 1048576) (hs2 : tt.size ≤ 1048576) (hdl : data.length ≤ 1048576) (hok : okName nm = true) (hot : okName tt = true) (hin : nodeIn D.names nm = none) (hrow : RowAt w ad data) (hd : Drv base w o b1 b2 m v1 v3 v4 vs D) :
    Calls Tryz.prog 54 #[.pointer (some ⟨o, 0, none⟩), .agg #[.int .i64 4, .string nm, .string tt, .slice ad data.length cd]] w (DoP base o m w (doOne D (4, nm, tt, data))) := by
  have hA := (Below.refl w.heap.size w).alloc (Nat.le_refl _) (.cells #[.int .i64 4, .string nm, .string tt, .slice ad data.length cd] 39)
  have L0 := Laid.new w #[.int .i64 4, .string nm, .string tt, .slice ad data.length cd] 39
  have HD := hide (hd.below hA)
  have HK := hide (KepI.of_below hA hbase)
  have HRW := hide (hrow.below hA)
  have HW := hide hW
  clear hd hW hrow
  have GN := hide (fun (X : World) => goodName_any nm X (by omega))
  have GT := hide (fun (X : World) => goodName_any tt X (by omega))
  go_enter Tryz.func54, Tryz.ntmps54
  go_upto_region 1 with fail
  generalize w.alloc (.cells #[.int .i64 4, .string nm, .string tt, .slice ad data.length cd] 39) = W at hA L0 HD HK HRW ⊢
  have o0 : W.cell? ⟨w.heap.size, 0, none⟩ = some (.int .i64 4) := L0.cell 0
  have o1 : W.cell? ⟨w.heap.size, 1, none⟩ = some (.string nm) := L0.cell 1
  have o2 : W.cell? ⟨w.heap.size, 2, none⟩ = some (.string tt) := L0.cell 2
  have hbW : base ≤ W.heap.size := Nat.le_trans hbase hA.size
  have HOK := hide hok
  clear hok
  go_wp2_with fail
  refine (GN.out W).mono ?_
  rintro e w2 ⟨rfl, hb2⟩
  rw [HOK.out]
  have L2 := L0.below hb2 L0.lt
  have hbX : base ≤ w2.heap.size := Nat.le_trans hbW hb2.size
  replace HD := hide (HD.out.below hb2)
  replace HK := hide (HK.out.trans (KepI.of_below hb2 hbW))
  replace HRW := hide (HRW.out.below hb2)
  have p0 : w2.cell? ⟨w.heap.size, 0, none⟩ = some (.int .i64 4) := L2.cell 0
  have p1 : w2.cell? ⟨w.heap.size, 1, none⟩ = some (.string nm) := L2.cell 1
  have p2 : w2.cell? ⟨w.heap.size, 2, none⟩ = some (.string tt) := L2.cell 2
  have p3 : w2.cell? ⟨w.heap.size, 3, none⟩ = some (.slice ad data.length cd) := L2.cell 3
  have HL2 := hide L2
  clear hb2 o0 o1 o2 hbW L0 L2 hA
  have HOT := hide hot
  clear hot
  go_wp2_with fail
  refine (GT.out w2).mono ?_
  rintro e w3 ⟨rfl, hb3⟩
  rw [HOT.out]
  have L3 := HL2.out.below hb3 HL2.out.lt
  have hbY : base ≤ w3.heap.size := Nat.le_trans hbX hb3.size
  replace HD := hide (HD.out.below hb3)
  replace HK := hide (HK.out.trans (KepI.of_below hb3 hbX))
  replace HRW := hide (HRW.out.below hb3)
  clear p0 p1 p2 p3 HL2 hb3 hbX
  have HL2 := hide L3
  have hbX := hbY
  clear hbY L3
  obtain ⟨w2, ew⟩ : ∃ x, x = w3 := ⟨w3, rfl⟩
  subst ew
  have p0 : w2.cell? ⟨w.heap.size, 0, none⟩ = some (.int .i64 4) := HL2.out.cell 0
  have p1 : w2.cell? ⟨w.heap.size, 1, none⟩ = some (.string nm) := HL2.out.cell 1
  have p2 : w2.cell? ⟨w.heap.size, 2, none⟩ = some (.string tt) := HL2.out.cell 2
  have p3 : w2.cell? ⟨w.heap.size, 3, none⟩ = some (.slice ad data.length cd) := HL2.out.cell 3
  have HIN := hide hin
  clear hin
  have r1 : w2.cell? ⟨o, 1, none⟩ = some (.map (some b1)) := HD.out.box.cell 1
  have r2 : w2.cell? ⟨o, 2, none⟩ = some (.map (some b2)) := HD.out.box.cell 2
  have HAS := hide (fun (X : World) (hX : Below w2.heap.size w2 X) => has_list b1 b2 m D.names nm X hs1 (HD.out.below hX).l)
  unfold lstV at HAS
  go_upto_region 10 with fail
  go_cut [50] (fun s wx => s = .bool true ∧ Below w2.heap.size w2 wx)
  case first =>
    go_region_with (first
      | (go_at_call 71; refine (HAS.out _ (Below.refl _ _).drew).mono ?_; rintro e w6 ⟨⟨r, rfl, hr⟩, hb6⟩; obtain rfl : r = false := by { cases r with | false => rfl | true => obtain ⟨x, hx⟩ := hr.1 rfl; exact absurd hx (nodeIn_no HIN.out x) }; have HB6 := hide ((Below.refl w2.heap.size w2).drew.trans hb6); clear hb6 hr)
      | fail)
    all_goals
      go_wp2_with fail
      go_meet
      case rel => exact ⟨by first | rfl | simp [*], HB6.out⟩
  case rest =>
    obtain ⟨rfl, hbc⟩ := hcut
    have HDC := hide (HD.out.below hbc)
    have HKC := hide (HK.out.trans (KepI.of_below hbc hbX))
    have HRC := hide (HRW.out.below hbc)
    have L3 := HL2.out.below hbc HL2.out.lt
    have hbC : base ≤ wc.heap.size := Nat.le_trans hbX hbc.size
    have k0 : wc.cell? ⟨w.heap.size, 0, none⟩ = some (.int .i64 4) := L3.cell 0
    have k1 : wc.cell? ⟨w.heap.size, 1, none⟩ = some (.string nm) := L3.cell 1
    have k2 : wc.cell? ⟨w.heap.size, 2, none⟩ = some (.string tt) := L3.cell 2
    have k3 : wc.cell? ⟨w.heap.size, 3, none⟩ = some (.slice ad data.length cd) := L3.cell 3
    clear hbc L3 HD HK HRW HL2 r1 r2 HAS p0 p1 p2 p3
    obtain ⟨wB, eB⟩ : ∃ x, x = wc := ⟨wc, rfl⟩
    subst eB
    go_wp2
    go_ret
    exact dop_same HDC.out HKC.out (one_missing (by simp) (by simp) (⟨HOK.out, fun _ => HOT.out⟩) HIN.out) rfl
set_option maxRecDepth 20000 in
set_option maxHeartbeats 1000000 in
theorem do_none5 (base o b1 b2 m : Nat) (v1 v3 v4 : Value) (vs : List (Value × Value)) (D : MDisk) (nm tt : ByteArray) (ad : Option Addr) (data : List Nat) (cd : Nat) (w : World) (hbase : base ≤ w.heap.size) (hW : Wkd D) (hm : m ≤ 1048570) (hs1 : nm.size ≤ 1048576) (hs2 : tt.size ≤ 1048576) (hdl : data.length ≤ 1048576) (hok : okName nm = true) (hin : nodeIn D.names nm = none) (hrow : RowAt w ad data) (hd : Drv base w o b1 b2 m v1 v3 v4 vs D) :
    Calls Tryz.prog 54 #[.pointer (some ⟨o, 0, none⟩), .agg #[.int .i64 5, .string nm, .string tt, .slice ad data.length cd]] w (DoP base o m w (doOne D (5, nm, tt, data))) := by
  have hA := (Below.refl w.heap.size w).alloc (Nat.le_refl _) (.cells #[.int .i64 5, .string nm, .string tt, .slice ad data.length cd] 39)
  have L0 := Laid.new w #[.int .i64 5, .string nm, .string tt, .slice ad data.length cd] 39
  have HD := hide (hd.below hA)
  have HK := hide (KepI.of_below hA hbase)
  have HRW := hide (hrow.below hA)
  have HW := hide hW
  clear hd hW hrow
  have GN := hide (fun (X : World) => goodName_any nm X (by omega))
  have GT := hide (fun (X : World) => goodName_any tt X (by omega))
  go_enter Tryz.func54, Tryz.ntmps54
  go_upto_region 1 with fail
  generalize w.alloc (.cells #[.int .i64 5, .string nm, .string tt, .slice ad data.length cd] 39) = W at hA L0 HD HK HRW ⊢
  have o0 : W.cell? ⟨w.heap.size, 0, none⟩ = some (.int .i64 5) := L0.cell 0
  have o1 : W.cell? ⟨w.heap.size, 1, none⟩ = some (.string nm) := L0.cell 1
  have o2 : W.cell? ⟨w.heap.size, 2, none⟩ = some (.string tt) := L0.cell 2
  have hbW : base ≤ W.heap.size := Nat.le_trans hbase hA.size
  have HOK := hide hok
  clear hok
  go_wp2_with fail
  refine (GN.out W).mono ?_
  rintro e w2 ⟨rfl, hb2⟩
  rw [HOK.out]
  have L2 := L0.below hb2 L0.lt
  have hbX : base ≤ w2.heap.size := Nat.le_trans hbW hb2.size
  replace HD := hide (HD.out.below hb2)
  replace HK := hide (HK.out.trans (KepI.of_below hb2 hbW))
  replace HRW := hide (HRW.out.below hb2)
  have p0 : w2.cell? ⟨w.heap.size, 0, none⟩ = some (.int .i64 5) := L2.cell 0
  have p1 : w2.cell? ⟨w.heap.size, 1, none⟩ = some (.string nm) := L2.cell 1
  have p2 : w2.cell? ⟨w.heap.size, 2, none⟩ = some (.string tt) := L2.cell 2
  have p3 : w2.cell? ⟨w.heap.size, 3, none⟩ = some (.slice ad data.length cd) := L2.cell 3
  have HL2 := hide L2
  clear hb2 o0 o1 o2 hbW L0 L2 hA
  have HIN := hide hin
  clear hin
  have r1 : w2.cell? ⟨o, 1, none⟩ = some (.map (some b1)) := HD.out.box.cell 1
  have r2 : w2.cell? ⟨o, 2, none⟩ = some (.map (some b2)) := HD.out.box.cell 2
  have HAS := hide (fun (X : World) (hX : Below w2.heap.size w2 X) => has_list b1 b2 m D.names nm X hs1 (HD.out.below hX).l)
  unfold lstV at HAS
  go_upto_region 10 with fail
  go_cut [50] (fun s wx => s = .bool true ∧ Below w2.heap.size w2 wx)
  case first =>
    go_region_with (first
      | (go_at_call 71; refine (HAS.out _ (Below.refl _ _).drew).mono ?_; rintro e w6 ⟨⟨r, rfl, hr⟩, hb6⟩; obtain rfl : r = false := by { cases r with | false => rfl | true => obtain ⟨x, hx⟩ := hr.1 rfl; exact absurd hx (nodeIn_no HIN.out x) }; have HB6 := hide ((Below.refl w2.heap.size w2).drew.trans hb6); clear hb6 hr)
      | fail)
    all_goals
      go_wp2_with fail
      go_meet
      case rel => exact ⟨by first | rfl | simp [*], HB6.out⟩
  case rest =>
    obtain ⟨rfl, hbc⟩ := hcut
    have HDC := hide (HD.out.below hbc)
    have HKC := hide (HK.out.trans (KepI.of_below hbc hbX))
    have HRC := hide (HRW.out.below hbc)
    have L3 := HL2.out.below hbc HL2.out.lt
    have hbC : base ≤ wc.heap.size := Nat.le_trans hbX hbc.size
    have k0 : wc.cell? ⟨w.heap.size, 0, none⟩ = some (.int .i64 5) := L3.cell 0
    have k1 : wc.cell? ⟨w.heap.size, 1, none⟩ = some (.string nm) := L3.cell 1
    have k2 : wc.cell? ⟨w.heap.size, 2, none⟩ = some (.string tt) := L3.cell 2
    have k3 : wc.cell? ⟨w.heap.size, 3, none⟩ = some (.slice ad data.length cd) := L3.cell 3
    clear hbc L3 HD HK HRW HL2 r1 r2 HAS p0 p1 p2 p3
    obtain ⟨wB, eB⟩ : ∃ x, x = wc := ⟨wc, rfl⟩
    subst eB
    go_wp2
    go_ret
    exact dop_same HDC.out HKC.out (one_missing (by simp) (by simp) (by exact ⟨HOK.out, fun h => absurd h (by simp)⟩) HIN.out) rfl
end Go.Proofs.YtpccongphchagaaGreatDoor
namespace Go.Proofs.YtpccongphchagaaGreatDoor
open Go.RowKit
set_option linter.unusedVariables false
set_option maxRecDepth 20000 in
set_option maxHeartbeats 1000000 in
theorem do_some2 (base o b1 b2 m : Nat) (v1 v3 v4 : Value) (vs : List (Value × Value)) (D : MDisk) (nm tt : ByteArray) (ad : Option Addr) (data : List Nat) (cd : Nat) (w : World) (hbase : base ≤ w.heap.size) (hW : Wkd D) (hm : m ≤ 1048570) (hs1 : nm.size ≤ 1048576) (hs2 : tt.size ≤ 1048576) (hdl : data.length ≤ 1048576) (hok : okName nm = true) (k : Nat) (hk : k < D.nodes.length) (hin : nodeIn D.names nm = some (k : Int)) (hrow : RowAt w ad data) (hd : Drv base w o b1 b2 m v1 v3 v4 vs D) :
    Calls Tryz.prog 54 #[.pointer (some ⟨o, 0, none⟩), .agg #[.int .i64 2, .string nm, .string tt, .slice ad data.length cd]] w (DoP base o m w (doOne D (2, nm, tt, data))) := by
  have hA := (Below.refl w.heap.size w).alloc (Nat.le_refl _) (.cells #[.int .i64 2, .string nm, .string tt, .slice ad data.length cd] 39)
  have L0 := Laid.new w #[.int .i64 2, .string nm, .string tt, .slice ad data.length cd] 39
  have HD := hide (hd.below hA)
  have HK := hide (KepI.of_below hA hbase)
  have HRW := hide (hrow.below hA)
  have HW := hide hW
  clear hd hW hrow
  have GN := hide (fun (X : World) => goodName_any nm X (by omega))
  have GT := hide (fun (X : World) => goodName_any tt X (by omega))
  go_enter Tryz.func54, Tryz.ntmps54
  go_upto_region 1 with fail
  generalize w.alloc (.cells #[.int .i64 2, .string nm, .string tt, .slice ad data.length cd] 39) = W at hA L0 HD HK HRW ⊢
  have o0 : W.cell? ⟨w.heap.size, 0, none⟩ = some (.int .i64 2) := L0.cell 0
  have o1 : W.cell? ⟨w.heap.size, 1, none⟩ = some (.string nm) := L0.cell 1
  have o2 : W.cell? ⟨w.heap.size, 2, none⟩ = some (.string tt) := L0.cell 2
  have hbW : base ≤ W.heap.size := Nat.le_trans hbase hA.size
  have HOK := hide hok
  clear hok
  go_wp2_with fail
  refine (GN.out W).mono ?_
  rintro e w2 ⟨rfl, hb2⟩
  rw [HOK.out]
  have L2 := L0.below hb2 L0.lt
  have hbX : base ≤ w2.heap.size := Nat.le_trans hbW hb2.size
  replace HD := hide (HD.out.below hb2)
  replace HK := hide (HK.out.trans (KepI.of_below hb2 hbW))
  replace HRW := hide (HRW.out.below hb2)
  have p0 : w2.cell? ⟨w.heap.size, 0, none⟩ = some (.int .i64 2) := L2.cell 0
  have p1 : w2.cell? ⟨w.heap.size, 1, none⟩ = some (.string nm) := L2.cell 1
  have p2 : w2.cell? ⟨w.heap.size, 2, none⟩ = some (.string tt) := L2.cell 2
  have p3 : w2.cell? ⟨w.heap.size, 3, none⟩ = some (.slice ad data.length cd) := L2.cell 3
  have HL2 := hide L2
  clear hb2 o0 o1 o2 hbW L0 L2 hA
  have HIN := hide hin
  clear hin
  have r1 : w2.cell? ⟨o, 1, none⟩ = some (.map (some b1)) := HD.out.box.cell 1
  have r2 : w2.cell? ⟨o, 2, none⟩ = some (.map (some b2)) := HD.out.box.cell 2
  have HAS := hide (fun (X : World) (hX : Below w2.heap.size w2 X) => has_list b1 b2 m D.names nm X hs1 (HD.out.below hX).l)
  unfold lstV at HAS
  go_upto_region 10 with fail
  go_cut [50] (fun s wx => s = .bool false ∧ Below w2.heap.size w2 wx)
  case first =>
    go_region_with (first
      | (go_at_call 71; refine (HAS.out _ (Below.refl _ _).drew).mono ?_; rintro e w6 ⟨⟨r, rfl, hr⟩, hb6⟩; obtain rfl : r = true := hr.2 ⟨_, nodeIn_of HIN.out⟩; have HB6 := hide ((Below.refl w2.heap.size w2).drew.trans hb6); clear hb6 hr)
      | fail)
    all_goals
      go_wp2_with fail
      go_meet
      case rel => exact ⟨by first | rfl | simp [*], HB6.out⟩
  case rest =>
    obtain ⟨rfl, hbc⟩ := hcut
    have HDC := hide (HD.out.below hbc)
    have HKC := hide (HK.out.trans (KepI.of_below hbc hbX))
    have HRC := hide (HRW.out.below hbc)
    have L3 := HL2.out.below hbc HL2.out.lt
    have hbC : base ≤ wc.heap.size := Nat.le_trans hbX hbc.size
    have k0 : wc.cell? ⟨w.heap.size, 0, none⟩ = some (.int .i64 2) := L3.cell 0
    have k1 : wc.cell? ⟨w.heap.size, 1, none⟩ = some (.string nm) := L3.cell 1
    have k2 : wc.cell? ⟨w.heap.size, 2, none⟩ = some (.string tt) := L3.cell 2
    have k3 : wc.cell? ⟨w.heap.size, 3, none⟩ = some (.slice ad data.length cd) := L3.cell 3
    clear hbc L3 HD HK HRW HL2 r1 r2 HAS p0 p1 p2 p3
    obtain ⟨wB, eB⟩ : ∃ x, x = wc := ⟨wc, rfl⟩
    subst eB
    have CR := hide (add_any base o b1 b2 m v1 v3 v4 vs D nm ad data cd k wB hbC HW.out hs1 hdl hk HIN.out HRC.out HDC.out)
    have HR := hide (show doOne D (2, nm, tt, data) = addR D (k : Int) data from by
      rw [one_there (by simp) (by simp) ⟨HOK.out, fun h => absurd h (by simp)⟩ HIN.out, if_pos rfl]
      rfl)
    go_wp2_with fail
    refine CR.out.mono ?_
    intro e w3 h3
    have HX := hide (dop_any h3 HKC.out HR.out)
    obtain ⟨b1', b2', m', v1', v3', v4', vs', rfl, -, -, -⟩ := h3
    go_wp2
    go_ret
    exact HX.out
set_option maxRecDepth 20000 in
set_option maxHeartbeats 1000000 in
theorem do_some4 (base o b1 b2 m : Nat) (v1 v3 v4 : Value) (vs : List (Value × Value)) (D : MDisk) (nm tt : ByteArray) (ad : Option Addr) (data : List Nat) (cd : Nat) (w : World) (hbase : base ≤ w.heap.size) (hW : Wkd D) (hm : m ≤ 1048570) (hs1 : nm.size ≤ 1048576) (hs2 : tt.size ≤ 1048576) (hdl : data.length ≤ 1048576) (hok : okName nm = true) (hot : okName tt = true) (k : Nat) (hk : k < D.nodes.length) (hin : nodeIn D.names nm = some (k : Int)) (hrow : RowAt w ad data) (hd : Drv base w o b1 b2 m v1 v3 v4 vs D) :
    Calls Tryz.prog 54 #[.pointer (some ⟨o, 0, none⟩), .agg #[.int .i64 4, .string nm, .string tt, .slice ad data.length cd]] w (DoP base o m w (doOne D (4, nm, tt, data))) := by
  have hA := (Below.refl w.heap.size w).alloc (Nat.le_refl _) (.cells #[.int .i64 4, .string nm, .string tt, .slice ad data.length cd] 39)
  have L0 := Laid.new w #[.int .i64 4, .string nm, .string tt, .slice ad data.length cd] 39
  have HD := hide (hd.below hA)
  have HK := hide (KepI.of_below hA hbase)
  have HRW := hide (hrow.below hA)
  have HW := hide hW
  clear hd hW hrow
  have GN := hide (fun (X : World) => goodName_any nm X (by omega))
  have GT := hide (fun (X : World) => goodName_any tt X (by omega))
  go_enter Tryz.func54, Tryz.ntmps54
  go_upto_region 1 with fail
  generalize w.alloc (.cells #[.int .i64 4, .string nm, .string tt, .slice ad data.length cd] 39) = W at hA L0 HD HK HRW ⊢
  have o0 : W.cell? ⟨w.heap.size, 0, none⟩ = some (.int .i64 4) := L0.cell 0
  have o1 : W.cell? ⟨w.heap.size, 1, none⟩ = some (.string nm) := L0.cell 1
  have o2 : W.cell? ⟨w.heap.size, 2, none⟩ = some (.string tt) := L0.cell 2
  have hbW : base ≤ W.heap.size := Nat.le_trans hbase hA.size
  have HOK := hide hok
  clear hok
  go_wp2_with fail
  refine (GN.out W).mono ?_
  rintro e w2 ⟨rfl, hb2⟩
  rw [HOK.out]
  have L2 := L0.below hb2 L0.lt
  have hbX : base ≤ w2.heap.size := Nat.le_trans hbW hb2.size
  replace HD := hide (HD.out.below hb2)
  replace HK := hide (HK.out.trans (KepI.of_below hb2 hbW))
  replace HRW := hide (HRW.out.below hb2)
  have p0 : w2.cell? ⟨w.heap.size, 0, none⟩ = some (.int .i64 4) := L2.cell 0
  have p1 : w2.cell? ⟨w.heap.size, 1, none⟩ = some (.string nm) := L2.cell 1
  have p2 : w2.cell? ⟨w.heap.size, 2, none⟩ = some (.string tt) := L2.cell 2
  have p3 : w2.cell? ⟨w.heap.size, 3, none⟩ = some (.slice ad data.length cd) := L2.cell 3
  have HL2 := hide L2
  clear hb2 o0 o1 o2 hbW L0 L2 hA
  have HOT := hide hot
  clear hot
  go_wp2_with fail
  refine (GT.out w2).mono ?_
  rintro e w3 ⟨rfl, hb3⟩
  rw [HOT.out]
  have L3 := HL2.out.below hb3 HL2.out.lt
  have hbY : base ≤ w3.heap.size := Nat.le_trans hbX hb3.size
  replace HD := hide (HD.out.below hb3)
  replace HK := hide (HK.out.trans (KepI.of_below hb3 hbX))
  replace HRW := hide (HRW.out.below hb3)
  clear p0 p1 p2 p3 HL2 hb3 hbX
  have HL2 := hide L3
  have hbX := hbY
  clear hbY L3
  obtain ⟨w2, ew⟩ : ∃ x, x = w3 := ⟨w3, rfl⟩
  subst ew
  have p0 : w2.cell? ⟨w.heap.size, 0, none⟩ = some (.int .i64 4) := HL2.out.cell 0
  have p1 : w2.cell? ⟨w.heap.size, 1, none⟩ = some (.string nm) := HL2.out.cell 1
  have p2 : w2.cell? ⟨w.heap.size, 2, none⟩ = some (.string tt) := HL2.out.cell 2
  have p3 : w2.cell? ⟨w.heap.size, 3, none⟩ = some (.slice ad data.length cd) := HL2.out.cell 3
  have HIN := hide hin
  clear hin
  have r1 : w2.cell? ⟨o, 1, none⟩ = some (.map (some b1)) := HD.out.box.cell 1
  have r2 : w2.cell? ⟨o, 2, none⟩ = some (.map (some b2)) := HD.out.box.cell 2
  have HAS := hide (fun (X : World) (hX : Below w2.heap.size w2 X) => has_list b1 b2 m D.names nm X hs1 (HD.out.below hX).l)
  unfold lstV at HAS
  go_upto_region 10 with fail
  go_cut [50] (fun s wx => s = .bool false ∧ Below w2.heap.size w2 wx)
  case first =>
    go_region_with (first
      | (go_at_call 71; refine (HAS.out _ (Below.refl _ _).drew).mono ?_; rintro e w6 ⟨⟨r, rfl, hr⟩, hb6⟩; obtain rfl : r = true := hr.2 ⟨_, nodeIn_of HIN.out⟩; have HB6 := hide ((Below.refl w2.heap.size w2).drew.trans hb6); clear hb6 hr)
      | fail)
    all_goals
      go_wp2_with fail
      go_meet
      case rel => exact ⟨by first | rfl | simp [*], HB6.out⟩
  case rest =>
    obtain ⟨rfl, hbc⟩ := hcut
    have HDC := hide (HD.out.below hbc)
    have HKC := hide (HK.out.trans (KepI.of_below hbc hbX))
    have HRC := hide (HRW.out.below hbc)
    have L3 := HL2.out.below hbc HL2.out.lt
    have hbC : base ≤ wc.heap.size := Nat.le_trans hbX hbc.size
    have k0 : wc.cell? ⟨w.heap.size, 0, none⟩ = some (.int .i64 4) := L3.cell 0
    have k1 : wc.cell? ⟨w.heap.size, 1, none⟩ = some (.string nm) := L3.cell 1
    have k2 : wc.cell? ⟨w.heap.size, 2, none⟩ = some (.string tt) := L3.cell 2
    have k3 : wc.cell? ⟨w.heap.size, 3, none⟩ = some (.slice ad data.length cd) := L3.cell 3
    clear hbc L3 HD HK HRW HL2 r1 r2 HAS p0 p1 p2 p3
    obtain ⟨wB, eB⟩ : ∃ x, x = wc := ⟨wc, rfl⟩
    subst eB
    have CR := hide (rename_any base o b1 b2 m v1 v3 v4 vs D nm tt (k : Int) wB hbC HW.out hm hs1 hs2 HOT.out HIN.out HDC.out)
    have HR := hide (show doOne D (4, nm, tt, data) = renR D nm tt from by
      rw [one_there (by simp) (by simp) ⟨HOK.out, fun _ => HOT.out⟩ HIN.out, if_neg (by simp), if_neg (by simp)]
      unfold renR
      by_cases he : tt = nm
      · rw [if_pos ⟨rfl, he⟩, if_pos he]
      · rw [if_neg (fun h => he h.2), if_neg he]
        rfl)
    go_wp2_with fail
    refine CR.out.mono ?_
    intro e w3 h3
    have HX := hide (dop_any h3.some HKC.out HR.out)
    obtain ⟨b1', b2', m', v1', v3', v4', vs', rfl, -, -, -⟩ := h3.some
    go_wp2
    go_ret
    exact HX.out
set_option maxRecDepth 20000 in
set_option maxHeartbeats 1000000 in
theorem do_some5 (base o b1 b2 m : Nat) (v1 v3 v4 : Value) (vs : List (Value × Value)) (D : MDisk) (nm tt : ByteArray) (ad : Option Addr) (data : List Nat) (cd : Nat) (w : World) (hbase : base ≤ w.heap.size) (hW : Wkd D) (hm : m ≤ 1048570) (hs1 : nm.size ≤ 1048576) (hs2 : tt.size ≤ 1048576) (hdl : data.length ≤ 1048576) (hok : okName nm = true) (k : Nat) (hk : k < D.nodes.length) (hin : nodeIn D.names nm = some (k : Int)) (hrow : RowAt w ad data) (hd : Drv base w o b1 b2 m v1 v3 v4 vs D) :
    Calls Tryz.prog 54 #[.pointer (some ⟨o, 0, none⟩), .agg #[.int .i64 5, .string nm, .string tt, .slice ad data.length cd]] w (DoP base o m w (doOne D (5, nm, tt, data))) := by
  have hA := (Below.refl w.heap.size w).alloc (Nat.le_refl _) (.cells #[.int .i64 5, .string nm, .string tt, .slice ad data.length cd] 39)
  have L0 := Laid.new w #[.int .i64 5, .string nm, .string tt, .slice ad data.length cd] 39
  have HD := hide (hd.below hA)
  have HK := hide (KepI.of_below hA hbase)
  have HRW := hide (hrow.below hA)
  have HW := hide hW
  clear hd hW hrow
  have GN := hide (fun (X : World) => goodName_any nm X (by omega))
  have GT := hide (fun (X : World) => goodName_any tt X (by omega))
  go_enter Tryz.func54, Tryz.ntmps54
  go_upto_region 1 with fail
  generalize w.alloc (.cells #[.int .i64 5, .string nm, .string tt, .slice ad data.length cd] 39) = W at hA L0 HD HK HRW ⊢
  have o0 : W.cell? ⟨w.heap.size, 0, none⟩ = some (.int .i64 5) := L0.cell 0
  have o1 : W.cell? ⟨w.heap.size, 1, none⟩ = some (.string nm) := L0.cell 1
  have o2 : W.cell? ⟨w.heap.size, 2, none⟩ = some (.string tt) := L0.cell 2
  have hbW : base ≤ W.heap.size := Nat.le_trans hbase hA.size
  have HOK := hide hok
  clear hok
  go_wp2_with fail
  refine (GN.out W).mono ?_
  rintro e w2 ⟨rfl, hb2⟩
  rw [HOK.out]
  have L2 := L0.below hb2 L0.lt
  have hbX : base ≤ w2.heap.size := Nat.le_trans hbW hb2.size
  replace HD := hide (HD.out.below hb2)
  replace HK := hide (HK.out.trans (KepI.of_below hb2 hbW))
  replace HRW := hide (HRW.out.below hb2)
  have p0 : w2.cell? ⟨w.heap.size, 0, none⟩ = some (.int .i64 5) := L2.cell 0
  have p1 : w2.cell? ⟨w.heap.size, 1, none⟩ = some (.string nm) := L2.cell 1
  have p2 : w2.cell? ⟨w.heap.size, 2, none⟩ = some (.string tt) := L2.cell 2
  have p3 : w2.cell? ⟨w.heap.size, 3, none⟩ = some (.slice ad data.length cd) := L2.cell 3
  have HL2 := hide L2
  clear hb2 o0 o1 o2 hbW L0 L2 hA
  have HIN := hide hin
  clear hin
  have r1 : w2.cell? ⟨o, 1, none⟩ = some (.map (some b1)) := HD.out.box.cell 1
  have r2 : w2.cell? ⟨o, 2, none⟩ = some (.map (some b2)) := HD.out.box.cell 2
  have HAS := hide (fun (X : World) (hX : Below w2.heap.size w2 X) => has_list b1 b2 m D.names nm X hs1 (HD.out.below hX).l)
  unfold lstV at HAS
  go_upto_region 10 with fail
  go_cut [50] (fun s wx => s = .bool false ∧ Below w2.heap.size w2 wx)
  case first =>
    go_region_with (first
      | (go_at_call 71; refine (HAS.out _ (Below.refl _ _).drew).mono ?_; rintro e w6 ⟨⟨r, rfl, hr⟩, hb6⟩; obtain rfl : r = true := hr.2 ⟨_, nodeIn_of HIN.out⟩; have HB6 := hide ((Below.refl w2.heap.size w2).drew.trans hb6); clear hb6 hr)
      | fail)
    all_goals
      go_wp2_with fail
      go_meet
      case rel => exact ⟨by first | rfl | simp [*], HB6.out⟩
  case rest =>
    obtain ⟨rfl, hbc⟩ := hcut
    have HDC := hide (HD.out.below hbc)
    have HKC := hide (HK.out.trans (KepI.of_below hbc hbX))
    have HRC := hide (HRW.out.below hbc)
    have L3 := HL2.out.below hbc HL2.out.lt
    have hbC : base ≤ wc.heap.size := Nat.le_trans hbX hbc.size
    have k0 : wc.cell? ⟨w.heap.size, 0, none⟩ = some (.int .i64 5) := L3.cell 0
    have k1 : wc.cell? ⟨w.heap.size, 1, none⟩ = some (.string nm) := L3.cell 1
    have k2 : wc.cell? ⟨w.heap.size, 2, none⟩ = some (.string tt) := L3.cell 2
    have k3 : wc.cell? ⟨w.heap.size, 3, none⟩ = some (.slice ad data.length cd) := L3.cell 3
    clear hbc L3 HD HK HRW HL2 r1 r2 HAS p0 p1 p2 p3
    obtain ⟨wB, eB⟩ : ∃ x, x = wc := ⟨wc, rfl⟩
    subst eB
    have CR := hide (remove_any base o b1 b2 m v1 v3 v4 vs D nm (k : Int) wB hbC HW.out hm hs1 HIN.out HDC.out)
    have HR := hide (show doOne D (5, nm, tt, data) = remR D nm from by
      rw [one_there (by simp) (by simp) ⟨HOK.out, fun h => absurd h (by simp)⟩ HIN.out, if_neg (by simp), if_neg (by simp), if_neg (fun h => absurd h.1 (by simp))]
      rfl)
    go_wp2_with fail
    refine CR.out.mono ?_
    intro e w3 h3
    have HX := hide (dop_any h3.some HKC.out HR.out)
    obtain ⟨b1', b2', m', v1', v3', v4', vs', rfl, -, -, -⟩ := h3.some
    go_wp2
    go_ret
    exact HX.out
end Go.Proofs.YtpccongphchagaaGreatDoor
namespace Go.Proofs.YtpccongphchagaaGreatDoor
open Go.RowKit
set_option linter.unusedVariables false
set_option maxRecDepth 20000 in
set_option maxHeartbeats 1000000 in
theorem do_some3 (base o b1 b2 m : Nat) (v1 v3 v4 : Value) (vs : List (Value × Value)) (D : MDisk) (nm tt : ByteArray) (ad : Option Addr) (data : List Nat) (cd : Nat) (w : World) (hbase : base ≤ w.heap.size) (hW : Wkd D) (hm : m ≤ 1048570) (hs1 : nm.size ≤ 1048576) (hs2 : tt.size ≤ 1048576) (hdl : data.length ≤ 1048576) (hok : okName nm = true) (k : Nat) (hk : k < D.nodes.length) (hin : nodeIn D.names nm = some (k : Int)) (hrow : RowAt w ad data) (hd : Drv base w o b1 b2 m v1 v3 v4 vs D) :
    Calls Tryz.prog 54 #[.pointer (some ⟨o, 0, none⟩), .agg #[.int .i64 3, .string nm, .string tt, .slice ad data.length cd]] w (DoP base o m w (doOne D (3, nm, tt, data))) := by
  have hA := (Below.refl w.heap.size w).alloc (Nat.le_refl _) (.cells #[.int .i64 3, .string nm, .string tt, .slice ad data.length cd] 39)
  have L0 := Laid.new w #[.int .i64 3, .string nm, .string tt, .slice ad data.length cd] 39
  have HD := hide (hd.below hA)
  have HK := hide (KepI.of_below hA hbase)
  have HRW := hide (hrow.below hA)
  have HW := hide hW
  clear hd hW hrow
  have GN := hide (fun (X : World) => goodName_any nm X (by omega))
  have GT := hide (fun (X : World) => goodName_any tt X (by omega))
  go_enter Tryz.func54, Tryz.ntmps54
  go_upto_region 1 with fail
  generalize w.alloc (.cells #[.int .i64 3, .string nm, .string tt, .slice ad data.length cd] 39) = W at hA L0 HD HK HRW ⊢
  have o0 : W.cell? ⟨w.heap.size, 0, none⟩ = some (.int .i64 3) := L0.cell 0
  have o1 : W.cell? ⟨w.heap.size, 1, none⟩ = some (.string nm) := L0.cell 1
  have o2 : W.cell? ⟨w.heap.size, 2, none⟩ = some (.string tt) := L0.cell 2
  have hbW : base ≤ W.heap.size := Nat.le_trans hbase hA.size
  have HOK := hide hok
  clear hok
  go_wp2_with fail
  refine (GN.out W).mono ?_
  rintro e w2 ⟨rfl, hb2⟩
  rw [HOK.out]
  have L2 := L0.below hb2 L0.lt
  have hbX : base ≤ w2.heap.size := Nat.le_trans hbW hb2.size
  replace HD := hide (HD.out.below hb2)
  replace HK := hide (HK.out.trans (KepI.of_below hb2 hbW))
  replace HRW := hide (HRW.out.below hb2)
  have p0 : w2.cell? ⟨w.heap.size, 0, none⟩ = some (.int .i64 3) := L2.cell 0
  have p1 : w2.cell? ⟨w.heap.size, 1, none⟩ = some (.string nm) := L2.cell 1
  have p2 : w2.cell? ⟨w.heap.size, 2, none⟩ = some (.string tt) := L2.cell 2
  have p3 : w2.cell? ⟨w.heap.size, 3, none⟩ = some (.slice ad data.length cd) := L2.cell 3
  have HL2 := hide L2
  clear hb2 o0 o1 o2 hbW L0 L2 hA
  have HIN := hide hin
  clear hin
  have r1 : w2.cell? ⟨o, 1, none⟩ = some (.map (some b1)) := HD.out.box.cell 1
  have r2 : w2.cell? ⟨o, 2, none⟩ = some (.map (some b2)) := HD.out.box.cell 2
  have HAS := hide (fun (X : World) (hX : Below w2.heap.size w2 X) => has_list b1 b2 m D.names nm X hs1 (HD.out.below hX).l)
  unfold lstV at HAS
  go_upto_region 10 with fail
  go_cut [50] (fun s wx => s = .bool false ∧ Below w2.heap.size w2 wx)
  case first =>
    go_region_with (first
      | (go_at_call 71; refine (HAS.out _ (Below.refl _ _).drew).mono ?_; rintro e w6 ⟨⟨r, rfl, hr⟩, hb6⟩; obtain rfl : r = true := hr.2 ⟨_, nodeIn_of HIN.out⟩; have HB6 := hide ((Below.refl w2.heap.size w2).drew.trans hb6); clear hb6 hr)
      | fail)
    all_goals
      go_wp2_with fail
      go_meet
      case rel => exact ⟨by first | rfl | simp [*], HB6.out⟩
  case rest =>
    obtain ⟨rfl, hbc⟩ := hcut
    have HDC := hide (HD.out.below hbc)
    have HKC := hide (HK.out.trans (KepI.of_below hbc hbX))
    have HRC := hide (HRW.out.below hbc)
    have L3 := HL2.out.below hbc HL2.out.lt
    have hbC : base ≤ wc.heap.size := Nat.le_trans hbX hbc.size
    have k0 : wc.cell? ⟨w.heap.size, 0, none⟩ = some (.int .i64 3) := L3.cell 0
    have k1 : wc.cell? ⟨w.heap.size, 1, none⟩ = some (.string nm) := L3.cell 1
    have k2 : wc.cell? ⟨w.heap.size, 2, none⟩ = some (.string tt) := L3.cell 2
    have k3 : wc.cell? ⟨w.heap.size, 3, none⟩ = some (.slice ad data.length cd) := L3.cell 3
    clear hbc L3 HD HK HRW HL2 r1 r2 HAS p0 p1 p2 p3
    obtain ⟨wB, eB⟩ : ∃ x, x = wc := ⟨wc, rfl⟩
    subst eB
    obtain ⟨a1, c1, rfl⟩ := HDC.out.n.slice
    obtain ⟨g, rfl, -, -, -⟩ := HDC.out.n.cells (by omega)
    have hnn := HW.out.nn
    have NODE := hide (node_any base o b1 b2 m _ v3 v4 vs D nm k g c1 wB hs1 hnn hk HIN.out rfl HDC.out)
    go_wp2_with fail
    refine NODE.out.mono ?_
    rintro e w3 ⟨rfl, hb3⟩
    have d3 := HDC.out.below hb3
    obtain ⟨g', eg, -, hfz, hcs⟩ := d3.n.cells (by omega)
    simp only [Option.some.injEq, Addr.mk.injEq, and_true] at eg
    subst eg
    obtain ⟨ai, ci, hvi, x2, x3, -⟩ := hcs k hk
    have f3 := hfz (k * 2 + 1)
    have hndl := HW.out.data _ (List.getElem_mem hk)
    obtain ⟨vs', hd4, hk4⟩ := drv_safe (z := (D.nodes[k].1.length : Int)) d3 hk (Nat.le_trans hbC hb3.size)
    have HD4 := hide hd4
    have HK4 := hide ((HKC.out.trans (KepI.of_below hb3 hbC)).trans hk4)
    have HR := hide (show doOne D (3, nm, tt, data) = (⟨D.nodes.set k (D.nodes[k].1, (D.nodes[k].1.length : Int)), D.names, D.kept, D.pend, D.quota⟩, 0) from by
      rw [one_there (by simp) (by simp) ⟨HOK.out, fun h => absurd h (by simp)⟩ HIN.out, if_neg (by simp), if_pos rfl]
      have hnda : ndAt D (k : Int) = D.nodes[k] := by
        unfold ndAt
        simp [List.getD_eq_getElem?_getD, List.getElem?_eq_getElem hk]
      rw [hnda]
      rfl)
    clear hd4 hk4 hb3 d3 hfz hcs hvi NODE
    generalize hdd : D.nodes[k].1.length = dl at x2 hndl HD4 HK4 HR
    clear hdd
    go_wp2
    go_ret
    rw [HR.out]
    exact ⟨b1, b2, m, _, v3, v4, vs', rfl, HD4.out, HK4.out, by omega⟩
end Go.Proofs.YtpccongphchagaaGreatDoor
namespace Go.Proofs.YtpccongphchagaaGreatDoor
open Go.RowKit
set_option linter.unusedVariables false
theorem do_any (base o b1 b2 m : Nat) (v1 v3 v4 : Value) (vs : List (Value × Value)) (D : MDisk) (kd : Int) (nm tt : ByteArray) (ad : Option Addr) (data : List Nat) (cd : Nat) (w : World) (hbase : base ≤ w.heap.size) (hW : Wkd D) (hm : m ≤ 1048570) (hs1 : nm.size ≤ 1048576) (hs2 : tt.size ≤ 1048576) (hdl : data.length ≤ 1048576) (hrow : RowAt w ad data) (hd : Drv base w o b1 b2 m v1 v3 v4 vs D) :
    Calls Tryz.prog 54 #[.pointer (some ⟨o, 0, none⟩), .agg #[.int .i64 kd, .string nm, .string tt, .slice ad data.length cd]] w (DoP base o m w (doOne D (kd, nm, tt, data))) := by
  by_cases hb : 1 ≤ kd ∧ kd ≤ 5 ∧ nmOk (kd, nm, tt, data)
  · obtain ⟨h1, h5, hok, hot⟩ := hb
    simp only at hok hot
    by_cases h : kd = 1
    · subst h
      exact do_new base o b1 b2 m v1 v3 v4 vs D nm tt ad data cd w hbase hW hm hs1 hs2 hdl hok hrow hd
    have hk : kd = 2 ∨ kd = 3 ∨ kd = 4 ∨ kd = 5 := by omega
    cases hin : nodeIn D.names nm with
    | none =>
      rcases hk with rfl | rfl | rfl | rfl
      · exact do_none2 base o b1 b2 m v1 v3 v4 vs D nm tt ad data cd w hbase hW hm hs1 hs2 hdl hok hin hrow hd
      · exact do_none3 base o b1 b2 m v1 v3 v4 vs D nm tt ad data cd w hbase hW hm hs1 hs2 hdl hok hin hrow hd
      · exact do_none4 base o b1 b2 m v1 v3 v4 vs D nm tt ad data cd w hbase hW hm hs1 hs2 hdl hok (hot rfl) hin hrow hd
      · exact do_none5 base o b1 b2 m v1 v3 v4 vs D nm tt ad data cd w hbase hW hm hs1 hs2 hdl hok hin hrow hd
    | some n =>
      obtain ⟨k, rfl, hkl, _⟩ := nd_at hW hin
      rcases hk with rfl | rfl | rfl | rfl
      · exact do_some2 base o b1 b2 m v1 v3 v4 vs D nm tt ad data cd w hbase hW hm hs1 hs2 hdl hok k hkl hin hrow hd
      · exact do_some3 base o b1 b2 m v1 v3 v4 vs D nm tt ad data cd w hbase hW hm hs1 hs2 hdl hok k hkl hin hrow hd
      · exact do_some4 base o b1 b2 m v1 v3 v4 vs D nm tt ad data cd w hbase hW hm hs1 hs2 hdl hok (hot rfl) k hkl hin hrow hd
      · exact do_some5 base o b1 b2 m v1 v3 v4 vs D nm tt ad data cd w hbase hW hm hs1 hs2 hdl hok k hkl hin hrow hd
  · exact do_bad base o b1 b2 m v1 v3 v4 vs D kd nm tt ad data cd w hbase hW hm hs1 hs2 hb hd
/-- The error that stands for a run's end. -/
def allV (n : Nat) (c : Int) : Value := if c = 0 then .nilIface else .iface 102 (.agg #[.int .i64 (n : Int), errV c])
set_option maxRecDepth 20000 in
set_option maxHeartbeats 1000000 in
theorem doAll_any (base o b1 b2 m : Nat) (v1 v3 v4 : Value) (vs : List (Value × Value)) (D : MDisk) (a : Option Addr) (cap : Nat) (ops : List OpV) (w : World) (hbase : base ≤ w.heap.size) (hW : Wkd D) (hm : m ≤ 300) (hl : ops.length ≤ 2000) (hos : ∀ e ∈ ops, e.2.1.size ≤ 1048576 ∧ e.2.2.1.size ≤ 1048576 ∧ e.2.2.2.length ≤ 1048576) (hop : ∀ X, Below base w X → OpsAt X a ops) (hd : Drv base w o b1 b2 m v1 v3 v4 vs D) :
    Calls Tryz.prog 20 #[.pointer (some ⟨o, 0, none⟩), .slice a ops.length cap] w fun e w' => ∃ b1 b2 m' v1 v3 v4 vs, e = .returned (allV (doRun D ops).2.1 (doRun D ops).2.2) ∧ Drv base w' o b1 b2 m' v1 v3 v4 vs (doRun D ops).1 ∧ KepI base w w' ∧ m' ≤ 2400 := by
  have HOP := hide hop
  have HOS := hide hos
  have HD := hide hd
  have HW := hide hW
  clear hop hos hd hW
  go_enter Tryz.func20, Tryz.ntmps20
  go_wp2
  go_loopw [5, 6, 7, 10] (fun _ _ _ i wv => ∃ (k b1 b2 m : Nat) (v1 v3 v4 : Value) (vs : List (Value × Value)) (C : MDisk), k ≤ ops.length ∧ i = .int .i64 (k : Int) ∧ m ≤ 300 + k ∧ Drv base wv o b1 b2 m v1 v3 v4 vs C ∧ KepI base w wv ∧ Wkd C ∧ RunAt D ops k C) (fun _ _ _ i _ => ops.length - (intOf i).toNat)
  case atStart => exact ⟨0, b1, b2, m, v1, v3, v4, vs, D, Nat.zero_le _, rfl, by omega, HD.out, KepI.of_below (Below.refl _ _) hbase, HW.out, run_start D ops⟩
  case round =>
    obtain ⟨k, c1, c2, m2, y1, y3, y4, ys, C, hk, rfl, hm2, hdr, hkp, hwk, hrun⟩ := hrel
    by_cases hlt : k < ops.length
    · obtain ⟨bo, oo, rfl, hco⟩ := (HOP.out wr hkp.bel) (by omega)
      obtain ⟨ai, ci, s0, s1, s2, s3, hrow⟩ := hco k hlt
      obtain ⟨hz1, hz2, hz3⟩ := HOS.out _ (List.getElem_mem hlt)
      have HN := hide (fun h => run_next hrun hlt h)
      have HT := hide (fun h => run_stop hrun hlt h)
      have HB := hide (fun (h : (doOne C ops[k]).2 ≠ 0) => one_bad h)
      have HWN := hide (doOne_wkd ops[k] hwk)
      generalize ops[k] = op at s0 s1 s2 s3 hrow hz1 hz2 hz3 HN HT HB HWN
      obtain ⟨kd, nm, tt, data⟩ := op
      simp only at s0 s1 s2 s3 hrow hz1 hz2 hz3
      have hal := (Below.refl wr.heap.size wr).alloc (Nat.le_refl _) (.cells #[.int .i64 kd, .string nm, .string tt, .slice ai data.length ci] 39)
      have hbr : base ≤ wr.heap.size := Nat.le_trans hbase hkp.bel.size
      have hbw : base ≤ (wr.alloc (.cells #[.int .i64 kd, .string nm, .string tt, .slice ai data.length ci] 39)).heap.size := Nat.le_trans hbr hal.size
      have CALL := hide (do_any base o c1 c2 m2 y1 y3 y4 ys C kd nm tt ai data ci _ hbw hwk (by omega) hz1 hz2 hz3 (hrow.below hal) (hdr.below hal))
      have HKA := hide (hkp.trans (KepI.of_below hal hbr))
      have HM2 := hide hm2
      clear hco hrow hal hbw hbr hdr hkp hwk hrun hm2
      generalize hOne : doOne C (kd, nm, tt, data) = R at CALL HN HT HB HWN
      obtain ⟨C', code⟩ := R
      clear hOne
      go_wp2_with fail
      generalize wr.alloc (.cells #[.int .i64 kd, .string nm, .string tt, .slice ai data.length ci] 39) = W4 at CALL HKA ⊢
      refine CALL.out.mono ?_
      rintro e w5 ⟨d1, d2, m3, z1, z3, z4, zs, rfl, hd5, hk5, hm3⟩
      simp only at hd5 HN HT HB HWN ⊢
      have HD5 := hide hd5
      have HK5 := hide (HKA.out.trans hk5)
      have HM3 := hide hm3
      clear hd5 hk5 hm3 CALL s0 s1 s2 s3
      by_cases hc : code = 0
      · subst hc
        have e0 : errV 0 = .nilIface := rfl
        rw [e0]
        have HN' := hide (HN.out rfl)
        clear e0 HN HT HB
        go_wp2
        go_roundw
        case rel => exact ⟨k + 1, d1, d2, m3, z1, z3, z4, zs, C', by omega, by go_num, by have := HM3.out; have := HM2.out; omega, HD5.out, HK5.out, HWN.out, HN'.out⟩
        case measure => simp [intOf]; omega
      · have ec : errV code = .iface 106 (.int .i64 (code - 1)) := if_neg hc
        have HR := hide (HT.out hc)
        have HC := hide (HB.out hc)
        have HEC := hide ec
        have HCC := hide hc
        rw [ec]
        clear ec hc HN HT HB
        go_wp2
        go_ret
        rw [HR.out]
        refine ⟨d1, d2, m3, z1, z3, z4, zs, ?_, ?_, HK5.out, by have := HM3.out; have := HM2.out; omega⟩
        · have e1 : allV k code = .iface 102 (.agg #[.int .i64 (k : Int), .iface 106 (.int .i64 (code - 1))]) := by simp only [allV, if_neg HCC.out, HEC.out]
          show _ = Ending.returned (allV k code)
          rw [e1]
          rfl
        · have h := HD5.out
          rw [show C' = C from HC.out] at h
          exact h
    · obtain rfl : k = ops.length := by omega
      have HR := hide (run_all hrun)
      have HDX := hide hdr
      have HKX := hide hkp
      have HM2 := hide hm2
      clear hrun hdr hkp hm2 hwk
      go_wp2
      go_ret
      rw [HR.out]
      exact ⟨c1, c2, m2, y1, y3, y4, ys, rfl, HDX.out, HKX.out, by have := HM2.out; omega⟩
end Go.Proofs.YtpccongphchagaaGreatDoor
namespace Go.Proofs.YtpccongphchagaaGreatDoor
open Go.RowKit Go.Extern.Stop Go.Stop Go.Extern
set_option linter.unusedVariables false
set_option linter.unusedSimpArgs false
/-- countOf. -/
theorem countOf_nil (al : Int) (w : World) :
    Calls Tryz.prog 22 #[.nilIface, .int .i64 al] w fun e w' => e = .returned (.int .i64 al) ∧ Below w.heap.size w w' := by
  have hA := (Below.refl w.heap.size w).alloc (Nat.le_refl _) (.cells #[.int .i64 0, .nilIface] 102)
  have HA := hide hA
  clear hA
  go_enter Tryz.func22, Tryz.ntmps22
  go_wp2_with fail
  refine (as_nil _ _).mono ?_
  rintro e w' ⟨rfl, rfl⟩
  go_wp2
  go_ret
  exact ⟨rfl, HA.out⟩
theorem countOf_op (n al : Int) (tc : TypeId) (vc : Value) (w : World) (hg : ErrG w) :
    Calls Tryz.prog 22 #[.iface 102 (.agg #[.int .i64 n, .iface tc vc]), .int .i64 al] w fun e w' => e = .returned (.int .i64 n) ∧ Below w.heap.size w w' := by
  have hA := (Below.refl w.heap.size w).alloc (Nat.le_refl _) (.cells #[.int .i64 0, .nilIface] 102)
  have L0 := Laid.new w #[.int .i64 0, .nilIface] 102
  have hg1 : ErrG (w.alloc (.cells #[.int .i64 0, .nilIface] 102)) := (hA.cell (p := ⟨0, 0, none⟩) (lt_cell hg)).trans hg
  have AS := hide (as_hit w.heap.size n tc vc _ _ _ hg1 (L0.cell 0) (L0.cell 1) (fun j => frozen_of_row _ _ j _ _ L0))
  have HA := hide hA
  have HL := hide L0
  clear hA L0 hg1 hg
  go_enter Tryz.func22, Tryz.ntmps22
  go_wp2_with fail
  refine AS.out.mono ?_
  rintro e w' ⟨rfl, X, hX, rfl⟩
  have LX := HL.out.below hX HL.out.lt
  have L1 := (LX.set 0 (.int .i64 n)).set 1 (.iface tc vc)
  have c0 : ((X.setCell ⟨w.heap.size, 0, none⟩ (.int .i64 n)).setCell ⟨w.heap.size, 1, none⟩ (.iface tc vc)).cell? ⟨w.heap.size, 0, none⟩ = some (.int .i64 n) := L1.cell 0
  have HB := hide (show Below w.heap.size w ((X.setCell ⟨w.heap.size, 0, none⟩ (.int .i64 n)).setCell ⟨w.heap.size, 1, none⟩ (.iface tc vc)) from ((HA.out.trans (hX.mono HA.out.size)).setCell (p := ⟨w.heap.size, 0, none⟩) (Nat.le_refl _) _).setCell (p := ⟨w.heap.size, 1, none⟩) (Nat.le_refl _) _)
  generalize (X.setCell ⟨w.heap.size, 0, none⟩ (.int .i64 n)).setCell ⟨w.heap.size, 1, none⟩ (.iface tc vc) = Y at c0 HB ⊢
  clear LX L1 hX HA HL AS
  go_wp2
  go_ret
  exact ⟨rfl, HB.out⟩
theorem countOf_any (n : Nat) (c al : Int) (w : World) (hg : ErrG w) :
    Calls Tryz.prog 22 #[allV n c, .int .i64 al] w fun e w' => e = .returned (.int .i64 (if c = 0 then al else (n : Int))) ∧ Below w.heap.size w w' := by
  by_cases hc : c = 0
  · subst hc
    simpa [allV] using countOf_nil al w
  · have h := countOf_op (n : Int) al 106 (.int .i64 (c - 1)) w hg
    simpa [allV, hc, errV] using h
theorem ei_typeOf (v : Value) (w : World) : (Extern.ReflectliteType.typeOf #[.iface 106 v]).run Tryz.prog w = .ok (.iface 144 (.agg #[.pointer (some ⟨1, 106, none⟩)])) w := by kernel_rfl
theorem ei_comparable (w : World) : (callFunc 120 #[.agg #[.pointer (some ⟨1, 106, none⟩)]]).run Tryz.prog w = .ok (.value (.bool true)) w := by kernel_rfl
theorem ei_methodComparable (v : Value) (w : World) : (Go.method 292 144 v "Comparable").run Tryz.prog w = .ok (120, v) w := by kernel_rfl
theorem ei_noIsF (v : Value) (xT : TypeId) (w : World) : (Instr.typeAssert (.iface 106 v) xT 156 true).run Tryz.prog w = .ok (.tuple #[.nilIface, .bool false]) w := run_typeAssert_lacksB Tryz.underlying156 (by kernel_rfl) (by kernel_rfl) v xT w
theorem ei_noUnF (v : Value) (xT : TypeId) (w : World) : (Instr.typeAssert (.iface 106 v) xT 151 true).run Tryz.prog w = .ok (.tuple #[.nilIface, .bool false]) w := run_typeAssert_lacksB Tryz.underlying151 (by kernel_rfl) (by kernel_rfl) v xT w
theorem ei_noUsF (v : Value) (xT : TypeId) (w : World) : (Instr.typeAssert (.iface 106 v) xT 153 true).run Tryz.prog w = .ok (.tuple #[.nilIface, .bool false]) w := run_typeAssert_lacksB Tryz.underlying153 (by kernel_rfl) (by kernel_rfl) v xT w
theorem ei_noIsO (v : Value) (xT : TypeId) (w : World) : (Instr.typeAssert (.iface 102 v) xT 156 true).run Tryz.prog w = .ok (.tuple #[.nilIface, .bool false]) w := run_typeAssert_lacksB Tryz.underlying156 (by kernel_rfl) (by kernel_rfl) v xT w
theorem ei_hasUnO (v : Value) (xT : TypeId) (w : World) : (Instr.typeAssert (.iface 102 v) xT 151 true).run Tryz.prog w = .ok (.tuple #[.iface 102 v, .bool true]) w := run_typeAssert_hasB Tryz.underlying151 (by kernel_rfl) v xT w
theorem ei_methodUn (v : Value) (w : World) : (Go.method 292 102 v "Unwrap").run Tryz.prog w = .ok (113, v) w := by kernel_rfl
theorem ei_comp : (Tryz.prog.info? 106).map (·.comparable) = some true := by kernel_rfl
theorem unwrap_any (x y : Value) (w : World) :
    Calls Tryz.prog 113 #[.agg #[x, y]] w fun e w' => e = .returned y ∧ Below w.heap.size w w' := by
  have hA := (Below.refl w.heap.size w).alloc (Nat.le_refl _) (.cells #[x, y] 102)
  have L0 := Laid.new w #[x, y] 102
  have c1 : (w.alloc (.cells #[x, y] 102)).cell? ⟨w.heap.size, 1, none⟩ = some y := L0.cell 1
  have HA := hide hA
  clear hA L0
  go_enter Tryz.func113, Tryz.ntmps113
  go_wp2
  go_ret
  exact ⟨rfl, HA.out⟩
theorem is_nil (k : Int) (w : World) :
    Calls Tryz.prog 56 #[.nilIface, .iface 106 (.int .i64 k)] w fun e w' => e = .returned (.bool false) ∧ w' = w := by
  have hn := run_eql_iface_nil_left (P := Tryz.prog) w 106 (.int .i64 k) Tryz.underlying62
  go_enter Tryz.func56, Tryz.ntmps56
  go_wp2
  go_ret
  exact ⟨rfl, rfl⟩
set_option maxRecDepth 20000 in
set_option maxHeartbeats 2000000 in
theorem is_op (n a k : Int) (w : World) :
    Calls Tryz.prog 56 #[.iface 102 (.agg #[.int .i64 n, .iface 106 (.int .i64 a)]), .iface 106 (.int .i64 k)] w fun e w' => e = .returned (.bool (a == k)) ∧ Below w.heap.size w w' := by
  have h8 := @run_callFunc_extern Tryz.prog 80 _ Extern.ReflectliteType.typeOf Tryz.func80 (by kernel_rfl) (by kernel_rfl) (by kernel_rfl) (by kernel_rfl)
  have tT := ei_typeOf
  have cT := ei_comparable
  have mR := ei_methodComparable
  have nF := ei_noIsF
  have uF := ei_noUnF
  have vF := ei_noUsF
  have nO := ei_noIsO
  have uO := ei_hasUnO
  have mU := ei_methodUn
  have e1 := run_eql_iface_types (P := Tryz.prog) 102 106 (.agg #[.int .i64 n, .iface 106 (.int .i64 a)]) (.int .i64 k) Tryz.underlying62 (by decide)
  have e2 := fun W => Lib.run_eql_iface_int (P := Tryz.prog) W (k := .i64) a k Tryz.underlying62 ei_comp Tryz.underlying106
  have hA := (Below.refl w.heap.size w).alloc (Nat.le_refl _) (.cells #[.int .i64 n, .iface 106 (.int .i64 a)] 102)
  have HA := hide hA
  clear hA
  cases hb : a == k with
  | true =>
    rw [hb] at e2
    clear hb
    go_enter Tryz.func56, Tryz.ntmps56
    go_wp2
    refine wp_loop_rounds 2 ?_
    rw [rounds_succ]
    go_wp2
    rw [rounds_succ]
    go_wp2
    go_ret
    exact ⟨rfl, HA.out⟩
  | false =>
    rw [hb] at e2
    clear hb
    go_enter Tryz.func56, Tryz.ntmps56
    go_wp2
    refine wp_loop_rounds 2 ?_
    rw [rounds_succ]
    go_wp2
    rw [rounds_succ]
    go_wp2
    go_ret
    exact ⟨rfl, HA.out⟩
end Go.Proofs.YtpccongphchagaaGreatDoor
