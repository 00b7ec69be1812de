import Derived.Test.YtpbpidfjecejcaaGreatDoorPkzb
import Derived.Test.YtpbpidfjecejcaaGreatDoorPkv
import Derived.Test.YtpbpidfjecejcaaGreatDoorPky
import Derived.Test.YtpbpidfjecejcaaGreatDoorPku
import Derived.Deep.DeepCutAuto
import Derived.Deep.RegionLaw
import Derived.Lib.IfaceEq
namespace Go.Proofs.YtpbpidfjecejcaaGreatDoor
open Go.RowKit
set_option linter.unusedVariables false
set_option maxRecDepth 20000 in
set_option maxHeartbeats 1000000 in
theorem do_some2 (base o b1 b2 m : Nat) (v1 v3 v4 : Value) (vs : List (Value × Value)) (D : MDisk) (nm tt : ByteArray) (ad : Option Addr) (data : List Nat) (cd : Nat) (w : World) (hbase : base ≤ w.heap.size) (hW : Wkd D) (hm : m ≤ 1048570) (hs1 : nm.size ≤ 1048576) (hs2 : tt.size ≤ 1048576) (hdl : data.length ≤ 1048576) (hok : okName nm = true) (k : Nat) (hk : k < D.nodes.length) (hin : nodeIn D.names nm = some (k : Int)) (hrow : RowAt w ad data) (hd : Drv base w o b1 b2 m v1 v3 v4 vs D) :
    Calls Tryz.prog 92 #[.pointer (some ⟨o, 0, none⟩), .agg #[.int .i64 2, .string nm, .string tt, .slice ad data.length cd]] w (DoP base o m w (doOne D (2, nm, tt, data))) := by
  have hA := (Below.refl w.heap.size w).alloc (Nat.le_refl _) (.cells #[.int .i64 2, .string nm, .string tt, .slice ad data.length cd] 56)
  have L0 := Laid.new w #[.int .i64 2, .string nm, .string tt, .slice ad data.length cd] 56
  have HD := hide (hd.below hA)
  have HK := hide (KepI.of_below hA hbase)
  have HRW := hide (hrow.below hA)
  have HW := hide hW
  clear hd hW hrow
  have GN := hide (fun (X : World) => goodName_any nm X (by omega))
  have GT := hide (fun (X : World) => goodName_any tt X (by omega))
  go_enter Tryz.func92, Tryz.ntmps92
  go_upto_region 1 with fail
  generalize w.alloc (.cells #[.int .i64 2, .string nm, .string tt, .slice ad data.length cd] 56) = W at hA L0 HD HK HRW ⊢
  have o0 : W.cell? ⟨w.heap.size, 0, none⟩ = some (.int .i64 2) := L0.cell 0
  have o1 : W.cell? ⟨w.heap.size, 1, none⟩ = some (.string nm) := L0.cell 1
  have o2 : W.cell? ⟨w.heap.size, 2, none⟩ = some (.string tt) := L0.cell 2
  have hbW : base ≤ W.heap.size := Nat.le_trans hbase hA.size
  have HOK := hide hok
  clear hok
  go_wp2_with fail
  refine (GN.out W).mono ?_
  rintro e w2 ⟨rfl, hb2⟩
  rw [HOK.out]
  have L2 := L0.below hb2 L0.lt
  have hbX : base ≤ w2.heap.size := Nat.le_trans hbW hb2.size
  replace HD := hide (HD.out.below hb2)
  replace HK := hide (HK.out.trans (KepI.of_below hb2 hbW))
  replace HRW := hide (HRW.out.below hb2)
  have p0 : w2.cell? ⟨w.heap.size, 0, none⟩ = some (.int .i64 2) := L2.cell 0
  have p1 : w2.cell? ⟨w.heap.size, 1, none⟩ = some (.string nm) := L2.cell 1
  have p2 : w2.cell? ⟨w.heap.size, 2, none⟩ = some (.string tt) := L2.cell 2
  have p3 : w2.cell? ⟨w.heap.size, 3, none⟩ = some (.slice ad data.length cd) := L2.cell 3
  have HL2 := hide L2
  clear hb2 o0 o1 o2 hbW L0 L2 hA
  have HIN := hide hin
  clear hin
  have r1 : w2.cell? ⟨o, 1, none⟩ = some (.map (some b1)) := HD.out.box.cell 1
  have r2 : w2.cell? ⟨o, 2, none⟩ = some (.map (some b2)) := HD.out.box.cell 2
  have HAS := hide (fun (X : World) (hX : Below w2.heap.size w2 X) => has_list b1 b2 m D.names nm X hs1 (HD.out.below hX).l)
  unfold lstV at HAS
  go_upto_region 10 with fail
  go_cut [50] (fun s wx => s = .bool false ∧ Below w2.heap.size w2 wx)
  case first =>
    go_region_with (first
      | (go_at_call 110; refine (HAS.out _ (Below.refl _ _).drew).mono ?_; rintro e w6 ⟨⟨r, rfl, hr⟩, hb6⟩; obtain rfl : r = true := hr.2 ⟨_, nodeIn_of HIN.out⟩; have HB6 := hide ((Below.refl w2.heap.size w2).drew.trans hb6); clear hb6 hr)
      | fail)
    all_goals
      go_wp2_with fail
      go_meet
      case rel => exact ⟨by first | rfl | simp [*], HB6.out⟩
  case rest =>
    obtain ⟨rfl, hbc⟩ := hcut
    have HDC := hide (HD.out.below hbc)
    have HKC := hide (HK.out.trans (KepI.of_below hbc hbX))
    have HRC := hide (HRW.out.below hbc)
    have L3 := HL2.out.below hbc HL2.out.lt
    have hbC : base ≤ wc.heap.size := Nat.le_trans hbX hbc.size
    have k0 : wc.cell? ⟨w.heap.size, 0, none⟩ = some (.int .i64 2) := L3.cell 0
    have k1 : wc.cell? ⟨w.heap.size, 1, none⟩ = some (.string nm) := L3.cell 1
    have k2 : wc.cell? ⟨w.heap.size, 2, none⟩ = some (.string tt) := L3.cell 2
    have k3 : wc.cell? ⟨w.heap.size, 3, none⟩ = some (.slice ad data.length cd) := L3.cell 3
    clear hbc L3 HD HK HRW HL2 r1 r2 HAS p0 p1 p2 p3
    obtain ⟨wB, eB⟩ : ∃ x, x = wc := ⟨wc, rfl⟩
    subst eB
    have CR := hide (add_any base o b1 b2 m v1 v3 v4 vs D nm ad data cd k wB hbC HW.out hs1 hdl hk HIN.out HRC.out HDC.out)
    have HR := hide (show doOne D (2, nm, tt, data) = addR D (k : Int) data from by
      rw [one_there (by simp) (by simp) ⟨HOK.out, fun h => absurd h (by simp)⟩ HIN.out, if_pos rfl]
      rfl)
    go_wp2_with fail
    refine CR.out.mono ?_
    intro e w3 h3
    have HX := hide (dop_any h3 HKC.out HR.out)
    obtain ⟨b1', b2', m', v1', v3', v4', vs', rfl, -, -, -⟩ := h3
    go_wp2
    go_ret
    exact HX.out
set_option maxRecDepth 20000 in
set_option maxHeartbeats 1000000 in
theorem do_some4 (base o b1 b2 m : Nat) (v1 v3 v4 : Value) (vs : List (Value × Value)) (D : MDisk) (nm tt : ByteArray) (ad : Option Addr) (data : List Nat) (cd : Nat) (w : World) (hbase : base ≤ w.heap.size) (hW : Wkd D) (hm : m ≤ 1048570) (hs1 : nm.size ≤ 1048576) (hs2 : tt.size ≤ 1048576) (hdl : data.length ≤ 1048576) (hok : okName nm = true) (hot : okName tt = true) (k : Nat) (hk : k < D.nodes.length) (hin : nodeIn D.names nm = some (k : Int)) (hrow : RowAt w ad data) (hd : Drv base w o b1 b2 m v1 v3 v4 vs D) :
    Calls Tryz.prog 92 #[.pointer (some ⟨o, 0, none⟩), .agg #[.int .i64 4, .string nm, .string tt, .slice ad data.length cd]] w (DoP base o m w (doOne D (4, nm, tt, data))) := by
  have hA := (Below.refl w.heap.size w).alloc (Nat.le_refl _) (.cells #[.int .i64 4, .string nm, .string tt, .slice ad data.length cd] 56)
  have L0 := Laid.new w #[.int .i64 4, .string nm, .string tt, .slice ad data.length cd] 56
  have HD := hide (hd.below hA)
  have HK := hide (KepI.of_below hA hbase)
  have HRW := hide (hrow.below hA)
  have HW := hide hW
  clear hd hW hrow
  have GN := hide (fun (X : World) => goodName_any nm X (by omega))
  have GT := hide (fun (X : World) => goodName_any tt X (by omega))
  go_enter Tryz.func92, Tryz.ntmps92
  go_upto_region 1 with fail
  generalize w.alloc (.cells #[.int .i64 4, .string nm, .string tt, .slice ad data.length cd] 56) = W at hA L0 HD HK HRW ⊢
  have o0 : W.cell? ⟨w.heap.size, 0, none⟩ = some (.int .i64 4) := L0.cell 0
  have o1 : W.cell? ⟨w.heap.size, 1, none⟩ = some (.string nm) := L0.cell 1
  have o2 : W.cell? ⟨w.heap.size, 2, none⟩ = some (.string tt) := L0.cell 2
  have hbW : base ≤ W.heap.size := Nat.le_trans hbase hA.size
  have HOK := hide hok
  clear hok
  go_wp2_with fail
  refine (GN.out W).mono ?_
  rintro e w2 ⟨rfl, hb2⟩
  rw [HOK.out]
  have L2 := L0.below hb2 L0.lt
  have hbX : base ≤ w2.heap.size := Nat.le_trans hbW hb2.size
  replace HD := hide (HD.out.below hb2)
  replace HK := hide (HK.out.trans (KepI.of_below hb2 hbW))
  replace HRW := hide (HRW.out.below hb2)
  have p0 : w2.cell? ⟨w.heap.size, 0, none⟩ = some (.int .i64 4) := L2.cell 0
  have p1 : w2.cell? ⟨w.heap.size, 1, none⟩ = some (.string nm) := L2.cell 1
  have p2 : w2.cell? ⟨w.heap.size, 2, none⟩ = some (.string tt) := L2.cell 2
  have p3 : w2.cell? ⟨w.heap.size, 3, none⟩ = some (.slice ad data.length cd) := L2.cell 3
  have HL2 := hide L2
  clear hb2 o0 o1 o2 hbW L0 L2 hA
  have HOT := hide hot
  clear hot
  go_wp2_with fail
  refine (GT.out w2).mono ?_
  rintro e w3 ⟨rfl, hb3⟩
  rw [HOT.out]
  have L3 := HL2.out.below hb3 HL2.out.lt
  have hbY : base ≤ w3.heap.size := Nat.le_trans hbX hb3.size
  replace HD := hide (HD.out.below hb3)
  replace HK := hide (HK.out.trans (KepI.of_below hb3 hbX))
  replace HRW := hide (HRW.out.below hb3)
  clear p0 p1 p2 p3 HL2 hb3 hbX
  have HL2 := hide L3
  have hbX := hbY
  clear hbY L3
  obtain ⟨w2, ew⟩ : ∃ x, x = w3 := ⟨w3, rfl⟩
  subst ew
  have p0 : w2.cell? ⟨w.heap.size, 0, none⟩ = some (.int .i64 4) := HL2.out.cell 0
  have p1 : w2.cell? ⟨w.heap.size, 1, none⟩ = some (.string nm) := HL2.out.cell 1
  have p2 : w2.cell? ⟨w.heap.size, 2, none⟩ = some (.string tt) := HL2.out.cell 2
  have p3 : w2.cell? ⟨w.heap.size, 3, none⟩ = some (.slice ad data.length cd) := HL2.out.cell 3
  have HIN := hide hin
  clear hin
  have r1 : w2.cell? ⟨o, 1, none⟩ = some (.map (some b1)) := HD.out.box.cell 1
  have r2 : w2.cell? ⟨o, 2, none⟩ = some (.map (some b2)) := HD.out.box.cell 2
  have HAS := hide (fun (X : World) (hX : Below w2.heap.size w2 X) => has_list b1 b2 m D.names nm X hs1 (HD.out.below hX).l)
  unfold lstV at HAS
  go_upto_region 10 with fail
  go_cut [50] (fun s wx => s = .bool false ∧ Below w2.heap.size w2 wx)
  case first =>
    go_region_with (first
      | (go_at_call 110; refine (HAS.out _ (Below.refl _ _).drew).mono ?_; rintro e w6 ⟨⟨r, rfl, hr⟩, hb6⟩; obtain rfl : r = true := hr.2 ⟨_, nodeIn_of HIN.out⟩; have HB6 := hide ((Below.refl w2.heap.size w2).drew.trans hb6); clear hb6 hr)
      | fail)
    all_goals
      go_wp2_with fail
      go_meet
      case rel => exact ⟨by first | rfl | simp [*], HB6.out⟩
  case rest =>
    obtain ⟨rfl, hbc⟩ := hcut
    have HDC := hide (HD.out.below hbc)
    have HKC := hide (HK.out.trans (KepI.of_below hbc hbX))
    have HRC := hide (HRW.out.below hbc)
    have L3 := HL2.out.below hbc HL2.out.lt
    have hbC : base ≤ wc.heap.size := Nat.le_trans hbX hbc.size
    have k0 : wc.cell? ⟨w.heap.size, 0, none⟩ = some (.int .i64 4) := L3.cell 0
    have k1 : wc.cell? ⟨w.heap.size, 1, none⟩ = some (.string nm) := L3.cell 1
    have k2 : wc.cell? ⟨w.heap.size, 2, none⟩ = some (.string tt) := L3.cell 2
    have k3 : wc.cell? ⟨w.heap.size, 3, none⟩ = some (.slice ad data.length cd) := L3.cell 3
    clear hbc L3 HD HK HRW HL2 r1 r2 HAS p0 p1 p2 p3
    obtain ⟨wB, eB⟩ : ∃ x, x = wc := ⟨wc, rfl⟩
    subst eB
    have CR := hide (rename_any base o b1 b2 m v1 v3 v4 vs D nm tt (k : Int) wB hbC HW.out hm hs1 hs2 HOT.out HIN.out HDC.out)
    have HR := hide (show doOne D (4, nm, tt, data) = renR D nm tt from by
      rw [one_there (by simp) (by simp) ⟨HOK.out, fun _ => HOT.out⟩ HIN.out, if_neg (by simp), if_neg (by simp)]
      unfold renR
      by_cases he : tt = nm
      · rw [if_pos ⟨rfl, he⟩, if_pos he]
      · rw [if_neg (fun h => he h.2), if_neg he]
        rfl)
    go_wp2_with fail
    refine CR.out.mono ?_
    intro e w3 h3
    have HX := hide (dop_any h3.some HKC.out HR.out)
    obtain ⟨b1', b2', m', v1', v3', v4', vs', rfl, -, -, -⟩ := h3.some
    go_wp2
    go_ret
    exact HX.out
set_option maxRecDepth 20000 in
set_option maxHeartbeats 1000000 in
theorem do_some5 (base o b1 b2 m : Nat) (v1 v3 v4 : Value) (vs : List (Value × Value)) (D : MDisk) (nm tt : ByteArray) (ad : Option Addr) (data : List Nat) (cd : Nat) (w : World) (hbase : base ≤ w.heap.size) (hW : Wkd D) (hm : m ≤ 1048570) (hs1 : nm.size ≤ 1048576) (hs2 : tt.size ≤ 1048576) (hdl : data.length ≤ 1048576) (hok : okName nm = true) (k : Nat) (hk : k < D.nodes.length) (hin : nodeIn D.names nm = some (k : Int)) (hrow : RowAt w ad data) (hd : Drv base w o b1 b2 m v1 v3 v4 vs D) :
    Calls Tryz.prog 92 #[.pointer (some ⟨o, 0, none⟩), .agg #[.int .i64 5, .string nm, .string tt, .slice ad data.length cd]] w (DoP base o m w (doOne D (5, nm, tt, data))) := by
  have hA := (Below.refl w.heap.size w).alloc (Nat.le_refl _) (.cells #[.int .i64 5, .string nm, .string tt, .slice ad data.length cd] 56)
  have L0 := Laid.new w #[.int .i64 5, .string nm, .string tt, .slice ad data.length cd] 56
  have HD := hide (hd.below hA)
  have HK := hide (KepI.of_below hA hbase)
  have HRW := hide (hrow.below hA)
  have HW := hide hW
  clear hd hW hrow
  have GN := hide (fun (X : World) => goodName_any nm X (by omega))
  have GT := hide (fun (X : World) => goodName_any tt X (by omega))
  go_enter Tryz.func92, Tryz.ntmps92
  go_upto_region 1 with fail
  generalize w.alloc (.cells #[.int .i64 5, .string nm, .string tt, .slice ad data.length cd] 56) = W at hA L0 HD HK HRW ⊢
  have o0 : W.cell? ⟨w.heap.size, 0, none⟩ = some (.int .i64 5) := L0.cell 0
  have o1 : W.cell? ⟨w.heap.size, 1, none⟩ = some (.string nm) := L0.cell 1
  have o2 : W.cell? ⟨w.heap.size, 2, none⟩ = some (.string tt) := L0.cell 2
  have hbW : base ≤ W.heap.size := Nat.le_trans hbase hA.size
  have HOK := hide hok
  clear hok
  go_wp2_with fail
  refine (GN.out W).mono ?_
  rintro e w2 ⟨rfl, hb2⟩
  rw [HOK.out]
  have L2 := L0.below hb2 L0.lt
  have hbX : base ≤ w2.heap.size := Nat.le_trans hbW hb2.size
  replace HD := hide (HD.out.below hb2)
  replace HK := hide (HK.out.trans (KepI.of_below hb2 hbW))
  replace HRW := hide (HRW.out.below hb2)
  have p0 : w2.cell? ⟨w.heap.size, 0, none⟩ = some (.int .i64 5) := L2.cell 0
  have p1 : w2.cell? ⟨w.heap.size, 1, none⟩ = some (.string nm) := L2.cell 1
  have p2 : w2.cell? ⟨w.heap.size, 2, none⟩ = some (.string tt) := L2.cell 2
  have p3 : w2.cell? ⟨w.heap.size, 3, none⟩ = some (.slice ad data.length cd) := L2.cell 3
  have HL2 := hide L2
  clear hb2 o0 o1 o2 hbW L0 L2 hA
  have HIN := hide hin
  clear hin
  have r1 : w2.cell? ⟨o, 1, none⟩ = some (.map (some b1)) := HD.out.box.cell 1
  have r2 : w2.cell? ⟨o, 2, none⟩ = some (.map (some b2)) := HD.out.box.cell 2
  have HAS := hide (fun (X : World) (hX : Below w2.heap.size w2 X) => has_list b1 b2 m D.names nm X hs1 (HD.out.below hX).l)
  unfold lstV at HAS
  go_upto_region 10 with fail
  go_cut [50] (fun s wx => s = .bool false ∧ Below w2.heap.size w2 wx)
  case first =>
    go_region_with (first
      | (go_at_call 110; refine (HAS.out _ (Below.refl _ _).drew).mono ?_; rintro e w6 ⟨⟨r, rfl, hr⟩, hb6⟩; obtain rfl : r = true := hr.2 ⟨_, nodeIn_of HIN.out⟩; have HB6 := hide ((Below.refl w2.heap.size w2).drew.trans hb6); clear hb6 hr)
      | fail)
    all_goals
      go_wp2_with fail
      go_meet
      case rel => exact ⟨by first | rfl | simp [*], HB6.out⟩
  case rest =>
    obtain ⟨rfl, hbc⟩ := hcut
    have HDC := hide (HD.out.below hbc)
    have HKC := hide (HK.out.trans (KepI.of_below hbc hbX))
    have HRC := hide (HRW.out.below hbc)
    have L3 := HL2.out.below hbc HL2.out.lt
    have hbC : base ≤ wc.heap.size := Nat.le_trans hbX hbc.size
    have k0 : wc.cell? ⟨w.heap.size, 0, none⟩ = some (.int .i64 5) := L3.cell 0
    have k1 : wc.cell? ⟨w.heap.size, 1, none⟩ = some (.string nm) := L3.cell 1
    have k2 : wc.cell? ⟨w.heap.size, 2, none⟩ = some (.string tt) := L3.cell 2
    have k3 : wc.cell? ⟨w.heap.size, 3, none⟩ = some (.slice ad data.length cd) := L3.cell 3
    clear hbc L3 HD HK HRW HL2 r1 r2 HAS p0 p1 p2 p3
    obtain ⟨wB, eB⟩ : ∃ x, x = wc := ⟨wc, rfl⟩
    subst eB
    have CR := hide (remove_any base o b1 b2 m v1 v3 v4 vs D nm (k : Int) wB hbC HW.out hm hs1 HIN.out HDC.out)
    have HR := hide (show doOne D (5, nm, tt, data) = remR D nm from by
      rw [one_there (by simp) (by simp) ⟨HOK.out, fun h => absurd h (by simp)⟩ HIN.out, if_neg (by simp), if_neg (by simp), if_neg (fun h => absurd h.1 (by simp))]
      rfl)
    go_wp2_with fail
    refine CR.out.mono ?_
    intro e w3 h3
    have HX := hide (dop_any h3.some HKC.out HR.out)
    obtain ⟨b1', b2', m', v1', v3', v4', vs', rfl, -, -, -⟩ := h3.some
    go_wp2
    go_ret
    exact HX.out
end Go.Proofs.YtpbpidfjecejcaaGreatDoor
namespace Go.Proofs.YtpbpidfjecejcaaGreatDoor
open Go.RowKit
set_option linter.unusedVariables false
set_option maxRecDepth 20000 in
set_option maxHeartbeats 1000000 in
theorem do_some3 (base o b1 b2 m : Nat) (v1 v3 v4 : Value) (vs : List (Value × Value)) (D : MDisk) (nm tt : ByteArray) (ad : Option Addr) (data : List Nat) (cd : Nat) (w : World) (hbase : base ≤ w.heap.size) (hW : Wkd D) (hm : m ≤ 1048570) (hs1 : nm.size ≤ 1048576) (hs2 : tt.size ≤ 1048576) (hdl : data.length ≤ 1048576) (hok : okName nm = true) (k : Nat) (hk : k < D.nodes.length) (hin : nodeIn D.names nm = some (k : Int)) (hrow : RowAt w ad data) (hd : Drv base w o b1 b2 m v1 v3 v4 vs D) :
    Calls Tryz.prog 92 #[.pointer (some ⟨o, 0, none⟩), .agg #[.int .i64 3, .string nm, .string tt, .slice ad data.length cd]] w (DoP base o m w (doOne D (3, nm, tt, data))) := by
  have hA := (Below.refl w.heap.size w).alloc (Nat.le_refl _) (.cells #[.int .i64 3, .string nm, .string tt, .slice ad data.length cd] 56)
  have L0 := Laid.new w #[.int .i64 3, .string nm, .string tt, .slice ad data.length cd] 56
  have HD := hide (hd.below hA)
  have HK := hide (KepI.of_below hA hbase)
  have HRW := hide (hrow.below hA)
  have HW := hide hW
  clear hd hW hrow
  have GN := hide (fun (X : World) => goodName_any nm X (by omega))
  have GT := hide (fun (X : World) => goodName_any tt X (by omega))
  go_enter Tryz.func92, Tryz.ntmps92
  go_upto_region 1 with fail
  generalize w.alloc (.cells #[.int .i64 3, .string nm, .string tt, .slice ad data.length cd] 56) = W at hA L0 HD HK HRW ⊢
  have o0 : W.cell? ⟨w.heap.size, 0, none⟩ = some (.int .i64 3) := L0.cell 0
  have o1 : W.cell? ⟨w.heap.size, 1, none⟩ = some (.string nm) := L0.cell 1
  have o2 : W.cell? ⟨w.heap.size, 2, none⟩ = some (.string tt) := L0.cell 2
  have hbW : base ≤ W.heap.size := Nat.le_trans hbase hA.size
  have HOK := hide hok
  clear hok
  go_wp2_with fail
  refine (GN.out W).mono ?_
  rintro e w2 ⟨rfl, hb2⟩
  rw [HOK.out]
  have L2 := L0.below hb2 L0.lt
  have hbX : base ≤ w2.heap.size := Nat.le_trans hbW hb2.size
  replace HD := hide (HD.out.below hb2)
  replace HK := hide (HK.out.trans (KepI.of_below hb2 hbW))
  replace HRW := hide (HRW.out.below hb2)
  have p0 : w2.cell? ⟨w.heap.size, 0, none⟩ = some (.int .i64 3) := L2.cell 0
  have p1 : w2.cell? ⟨w.heap.size, 1, none⟩ = some (.string nm) := L2.cell 1
  have p2 : w2.cell? ⟨w.heap.size, 2, none⟩ = some (.string tt) := L2.cell 2
  have p3 : w2.cell? ⟨w.heap.size, 3, none⟩ = some (.slice ad data.length cd) := L2.cell 3
  have HL2 := hide L2
  clear hb2 o0 o1 o2 hbW L0 L2 hA
  have HIN := hide hin
  clear hin
  have r1 : w2.cell? ⟨o, 1, none⟩ = some (.map (some b1)) := HD.out.box.cell 1
  have r2 : w2.cell? ⟨o, 2, none⟩ = some (.map (some b2)) := HD.out.box.cell 2
  have HAS := hide (fun (X : World) (hX : Below w2.heap.size w2 X) => has_list b1 b2 m D.names nm X hs1 (HD.out.below hX).l)
  unfold lstV at HAS
  go_upto_region 10 with fail
  go_cut [50] (fun s wx => s = .bool false ∧ Below w2.heap.size w2 wx)
  case first =>
    go_region_with (first
      | (go_at_call 110; refine (HAS.out _ (Below.refl _ _).drew).mono ?_; rintro e w6 ⟨⟨r, rfl, hr⟩, hb6⟩; obtain rfl : r = true := hr.2 ⟨_, nodeIn_of HIN.out⟩; have HB6 := hide ((Below.refl w2.heap.size w2).drew.trans hb6); clear hb6 hr)
      | fail)
    all_goals
      go_wp2_with fail
      go_meet
      case rel => exact ⟨by first | rfl | simp [*], HB6.out⟩
  case rest =>
    obtain ⟨rfl, hbc⟩ := hcut
    have HDC := hide (HD.out.below hbc)
    have HKC := hide (HK.out.trans (KepI.of_below hbc hbX))
    have HRC := hide (HRW.out.below hbc)
    have L3 := HL2.out.below hbc HL2.out.lt
    have hbC : base ≤ wc.heap.size := Nat.le_trans hbX hbc.size
    have k0 : wc.cell? ⟨w.heap.size, 0, none⟩ = some (.int .i64 3) := L3.cell 0
    have k1 : wc.cell? ⟨w.heap.size, 1, none⟩ = some (.string nm) := L3.cell 1
    have k2 : wc.cell? ⟨w.heap.size, 2, none⟩ = some (.string tt) := L3.cell 2
    have k3 : wc.cell? ⟨w.heap.size, 3, none⟩ = some (.slice ad data.length cd) := L3.cell 3
    clear hbc L3 HD HK HRW HL2 r1 r2 HAS p0 p1 p2 p3
    obtain ⟨wB, eB⟩ : ∃ x, x = wc := ⟨wc, rfl⟩
    subst eB
    obtain ⟨a1, c1, rfl⟩ := HDC.out.n.slice
    obtain ⟨g, rfl, -, -, -⟩ := HDC.out.n.cells (by omega)
    have hnn := HW.out.nn
    have NODE := hide (node_any base o b1 b2 m _ v3 v4 vs D nm k g c1 wB hs1 hnn hk HIN.out rfl HDC.out)
    go_wp2_with fail
    refine NODE.out.mono ?_
    rintro e w3 ⟨rfl, hb3⟩
    have d3 := HDC.out.below hb3
    obtain ⟨g', eg, -, hfz, hcs⟩ := d3.n.cells (by omega)
    simp only [Option.some.injEq, Addr.mk.injEq, and_true] at eg
    subst eg
    obtain ⟨ai, ci, hvi, x2, x3, -⟩ := hcs k hk
    have f3 := hfz (k * 2 + 1)
    have hndl := HW.out.data _ (List.getElem_mem hk)
    obtain ⟨vs', hd4, hk4⟩ := drv_safe (z := (D.nodes[k].1.length : Int)) d3 hk (Nat.le_trans hbC hb3.size)
    have HD4 := hide hd4
    have HK4 := hide ((HKC.out.trans (KepI.of_below hb3 hbC)).trans hk4)
    have HR := hide (show doOne D (3, nm, tt, data) = (⟨D.nodes.set k (D.nodes[k].1, (D.nodes[k].1.length : Int)), D.names, D.kept, D.pend, D.quota⟩, 0) from by
      rw [one_there (by simp) (by simp) ⟨HOK.out, fun h => absurd h (by simp)⟩ HIN.out, if_neg (by simp), if_pos rfl]
      have hnda : ndAt D (k : Int) = D.nodes[k] := by
        unfold ndAt
        simp [List.getD_eq_getElem?_getD, List.getElem?_eq_getElem hk]
      rw [hnda]
      rfl)
    clear hd4 hk4 hb3 d3 hfz hcs hvi NODE
    generalize hdd : D.nodes[k].1.length = dl at x2 hndl HD4 HK4 HR
    clear hdd
    go_wp2
    go_ret
    rw [HR.out]
    exact ⟨b1, b2, m, _, v3, v4, vs', rfl, HD4.out, HK4.out, by omega⟩
end Go.Proofs.YtpbpidfjecejcaaGreatDoor
namespace Go.Proofs.YtpbpidfjecejcaaGreatDoor
open Go.RowKit
set_option linter.unusedVariables false
theorem do_any (base o b1 b2 m : Nat) (v1 v3 v4 : Value) (vs : List (Value × Value)) (D : MDisk) (kd : Int) (nm tt : ByteArray) (ad : Option Addr) (data : List Nat) (cd : Nat) (w : World) (hbase : base ≤ w.heap.size) (hW : Wkd D) (hm : m ≤ 1048570) (hs1 : nm.size ≤ 1048576) (hs2 : tt.size ≤ 1048576) (hdl : data.length ≤ 1048576) (hrow : RowAt w ad data) (hd : Drv base w o b1 b2 m v1 v3 v4 vs D) :
    Calls Tryz.prog 92 #[.pointer (some ⟨o, 0, none⟩), .agg #[.int .i64 kd, .string nm, .string tt, .slice ad data.length cd]] w (DoP base o m w (doOne D (kd, nm, tt, data))) := by
  by_cases hb : 1 ≤ kd ∧ kd ≤ 5 ∧ nmOk (kd, nm, tt, data)
  · obtain ⟨h1, h5, hok, hot⟩ := hb
    simp only at hok hot
    by_cases h : kd = 1
    · subst h
      exact do_new base o b1 b2 m v1 v3 v4 vs D nm tt ad data cd w hbase hW hm hs1 hs2 hdl hok hrow hd
    have hk : kd = 2 ∨ kd = 3 ∨ kd = 4 ∨ kd = 5 := by omega
    cases hin : nodeIn D.names nm with
    | none =>
      rcases hk with rfl | rfl | rfl | rfl
      · exact do_none2 base o b1 b2 m v1 v3 v4 vs D nm tt ad data cd w hbase hW hm hs1 hs2 hdl hok hin hrow hd
      · exact do_none3 base o b1 b2 m v1 v3 v4 vs D nm tt ad data cd w hbase hW hm hs1 hs2 hdl hok hin hrow hd
      · exact do_none4 base o b1 b2 m v1 v3 v4 vs D nm tt ad data cd w hbase hW hm hs1 hs2 hdl hok (hot rfl) hin hrow hd
      · exact do_none5 base o b1 b2 m v1 v3 v4 vs D nm tt ad data cd w hbase hW hm hs1 hs2 hdl hok hin hrow hd
    | some n =>
      obtain ⟨k, rfl, hkl, _⟩ := nd_at hW hin
      rcases hk with rfl | rfl | rfl | rfl
      · exact do_some2 base o b1 b2 m v1 v3 v4 vs D nm tt ad data cd w hbase hW hm hs1 hs2 hdl hok k hkl hin hrow hd
      · exact do_some3 base o b1 b2 m v1 v3 v4 vs D nm tt ad data cd w hbase hW hm hs1 hs2 hdl hok k hkl hin hrow hd
      · exact do_some4 base o b1 b2 m v1 v3 v4 vs D nm tt ad data cd w hbase hW hm hs1 hs2 hdl hok (hot rfl) k hkl hin hrow hd
      · exact do_some5 base o b1 b2 m v1 v3 v4 vs D nm tt ad data cd w hbase hW hm hs1 hs2 hdl hok k hkl hin hrow hd
  · exact do_bad base o b1 b2 m v1 v3 v4 vs D kd nm tt ad data cd w hbase hW hm hs1 hs2 hb hd
/-- The error that stands for a run's end. -/
def allV (n : Nat) (c : Int) : Value := if c = 0 then .nilIface else .iface 134 (.agg #[.int .i64 (n : Int), errV c])
set_option maxRecDepth 20000 in
set_option maxHeartbeats 1000000 in
theorem doAll_any (base o b1 b2 m : Nat) (v1 v3 v4 : Value) (vs : List (Value × Value)) (D : MDisk) (a : Option Addr) (cap : Nat) (ops : List OpV) (w : World) (hbase : base ≤ w.heap.size) (hW : Wkd D) (hm : m ≤ 300) (hl : ops.length ≤ 2000) (hos : ∀ e ∈ ops, e.2.1.size ≤ 1048576 ∧ e.2.2.1.size ≤ 1048576 ∧ e.2.2.2.length ≤ 1048576) (hop : ∀ X, Below base w X → OpsAt X a ops) (hd : Drv base w o b1 b2 m v1 v3 v4 vs D) :
    Calls Tryz.prog 50 #[.pointer (some ⟨o, 0, none⟩), .slice a ops.length cap] w fun e w' => ∃ b1 b2 m' v1 v3 v4 vs, e = .returned (allV (doRun D ops).2.1 (doRun D ops).2.2) ∧ Drv base w' o b1 b2 m' v1 v3 v4 vs (doRun D ops).1 ∧ KepI base w w' ∧ m' ≤ 2400 := by
  have HOP := hide hop
  have HOS := hide hos
  have HD := hide hd
  have HW := hide hW
  clear hop hos hd hW
  go_enter Tryz.func50, Tryz.ntmps50
  go_wp2
  go_loopw [5, 6, 7, 10] (fun _ _ _ i wv => ∃ (k b1 b2 m : Nat) (v1 v3 v4 : Value) (vs : List (Value × Value)) (C : MDisk), k ≤ ops.length ∧ i = .int .i64 (k : Int) ∧ m ≤ 300 + k ∧ Drv base wv o b1 b2 m v1 v3 v4 vs C ∧ KepI base w wv ∧ Wkd C ∧ RunAt D ops k C) (fun _ _ _ i _ => ops.length - (intOf i).toNat)
  case atStart => exact ⟨0, b1, b2, m, v1, v3, v4, vs, D, Nat.zero_le _, rfl, by omega, HD.out, KepI.of_below (Below.refl _ _) hbase, HW.out, run_start D ops⟩
  case round =>
    obtain ⟨k, c1, c2, m2, y1, y3, y4, ys, C, hk, rfl, hm2, hdr, hkp, hwk, hrun⟩ := hrel
    by_cases hlt : k < ops.length
    · obtain ⟨bo, oo, rfl, hco⟩ := (HOP.out wr hkp.bel) (by omega)
      obtain ⟨ai, ci, s0, s1, s2, s3, hrow⟩ := hco k hlt
      obtain ⟨hz1, hz2, hz3⟩ := HOS.out _ (List.getElem_mem hlt)
      have HN := hide (fun h => run_next hrun hlt h)
      have HT := hide (fun h => run_stop hrun hlt h)
      have HB := hide (fun (h : (doOne C ops[k]).2 ≠ 0) => one_bad h)
      have HWN := hide (doOne_wkd ops[k] hwk)
      generalize ops[k] = op at s0 s1 s2 s3 hrow hz1 hz2 hz3 HN HT HB HWN
      obtain ⟨kd, nm, tt, data⟩ := op
      simp only at s0 s1 s2 s3 hrow hz1 hz2 hz3
      have hal := (Below.refl wr.heap.size wr).alloc (Nat.le_refl _) (.cells #[.int .i64 kd, .string nm, .string tt, .slice ai data.length ci] 56)
      have hbr : base ≤ wr.heap.size := Nat.le_trans hbase hkp.bel.size
      have hbw : base ≤ (wr.alloc (.cells #[.int .i64 kd, .string nm, .string tt, .slice ai data.length ci] 56)).heap.size := Nat.le_trans hbr hal.size
      have CALL := hide (do_any base o c1 c2 m2 y1 y3 y4 ys C kd nm tt ai data ci _ hbw hwk (by omega) hz1 hz2 hz3 (hrow.below hal) (hdr.below hal))
      have HKA := hide (hkp.trans (KepI.of_below hal hbr))
      have HM2 := hide hm2
      clear hco hrow hal hbw hbr hdr hkp hwk hrun hm2
      generalize hOne : doOne C (kd, nm, tt, data) = R at CALL HN HT HB HWN
      obtain ⟨C', code⟩ := R
      clear hOne
      go_wp2_with fail
      generalize wr.alloc (.cells #[.int .i64 kd, .string nm, .string tt, .slice ai data.length ci] 56) = W4 at CALL HKA ⊢
      refine CALL.out.mono ?_
      rintro e w5 ⟨d1, d2, m3, z1, z3, z4, zs, rfl, hd5, hk5, hm3⟩
      simp only at hd5 HN HT HB HWN ⊢
      have HD5 := hide hd5
      have HK5 := hide (HKA.out.trans hk5)
      have HM3 := hide hm3
      clear hd5 hk5 hm3 CALL s0 s1 s2 s3
      by_cases hc : code = 0
      · subst hc
        have e0 : errV 0 = .nilIface := rfl
        rw [e0]
        have HN' := hide (HN.out rfl)
        clear e0 HN HT HB
        go_wp2
        go_roundw
        case rel => exact ⟨k + 1, d1, d2, m3, z1, z3, z4, zs, C', by omega, by go_num, by have := HM3.out; have := HM2.out; omega, HD5.out, HK5.out, HWN.out, HN'.out⟩
        case measure => simp [intOf]; omega
      · have ec : errV code = .iface 139 (.int .i64 (code - 1)) := if_neg hc
        have HR := hide (HT.out hc)
        have HC := hide (HB.out hc)
        have HEC := hide ec
        have HCC := hide hc
        rw [ec]
        clear ec hc HN HT HB
        go_wp2
        go_ret
        rw [HR.out]
        refine ⟨d1, d2, m3, z1, z3, z4, zs, ?_, ?_, HK5.out, by have := HM3.out; have := HM2.out; omega⟩
        · have e1 : allV k code = .iface 134 (.agg #[.int .i64 (k : Int), .iface 139 (.int .i64 (code - 1))]) := by simp only [allV, if_neg HCC.out, HEC.out]
          show _ = Ending.returned (allV k code)
          rw [e1]
          rfl
        · have h := HD5.out
          rw [show C' = C from HC.out] at h
          exact h
    · obtain rfl : k = ops.length := by omega
      have HR := hide (run_all hrun)
      have HDX := hide hdr
      have HKX := hide hkp
      have HM2 := hide hm2
      clear hrun hdr hkp hm2 hwk
      go_wp2
      go_ret
      rw [HR.out]
      exact ⟨c1, c2, m2, y1, y3, y4, ys, rfl, HDX.out, HKX.out, by have := HM2.out; omega⟩
end Go.Proofs.YtpbpidfjecejcaaGreatDoor
namespace Go.Proofs.YtpbpidfjecejcaaGreatDoor
open Go.RowKit Go.Extern.Stop Go.Stop Go.Extern
set_option linter.unusedVariables false
set_option linter.unusedSimpArgs false
/-- countOf. -/
theorem countOf_nil (al : Int) (w : World) :
    Calls Tryz.prog 52 #[.nilIface, .int .i64 al] w fun e w' => e = .returned (.int .i64 al) ∧ Below w.heap.size w w' := by
  have hA := (Below.refl w.heap.size w).alloc (Nat.le_refl _) (.cells #[.int .i64 0, .nilIface] 134)
  have HA := hide hA
  clear hA
  go_enter Tryz.func52, Tryz.ntmps52
  go_wp2_with fail
  refine (as_nil _ _).mono ?_
  rintro e w' ⟨rfl, rfl⟩
  go_wp2
  go_ret
  exact ⟨rfl, HA.out⟩
theorem countOf_op (n al : Int) (tc : TypeId) (vc : Value) (w : World) (hg : ErrG w) :
    Calls Tryz.prog 52 #[.iface 134 (.agg #[.int .i64 n, .iface tc vc]), .int .i64 al] w fun e w' => e = .returned (.int .i64 n) ∧ Below w.heap.size w w' := by
  have hA := (Below.refl w.heap.size w).alloc (Nat.le_refl _) (.cells #[.int .i64 0, .nilIface] 134)
  have L0 := Laid.new w #[.int .i64 0, .nilIface] 134
  have hg1 : ErrG (w.alloc (.cells #[.int .i64 0, .nilIface] 134)) := (hA.cell (p := ⟨0, 0, none⟩) (lt_cell hg)).trans hg
  have AS := hide (as_hit w.heap.size n tc vc _ _ _ hg1 (L0.cell 0) (L0.cell 1) (fun j => frozen_of_row _ _ j _ _ L0))
  have HA := hide hA
  have HL := hide L0
  clear hA L0 hg1 hg
  go_enter Tryz.func52, Tryz.ntmps52
  go_wp2_with fail
  refine AS.out.mono ?_
  rintro e w' ⟨rfl, X, hX, rfl⟩
  have LX := HL.out.below hX HL.out.lt
  have L1 := (LX.set 0 (.int .i64 n)).set 1 (.iface tc vc)
  have c0 : ((X.setCell ⟨w.heap.size, 0, none⟩ (.int .i64 n)).setCell ⟨w.heap.size, 1, none⟩ (.iface tc vc)).cell? ⟨w.heap.size, 0, none⟩ = some (.int .i64 n) := L1.cell 0
  have HB := hide (show Below w.heap.size w ((X.setCell ⟨w.heap.size, 0, none⟩ (.int .i64 n)).setCell ⟨w.heap.size, 1, none⟩ (.iface tc vc)) from ((HA.out.trans (hX.mono HA.out.size)).setCell (p := ⟨w.heap.size, 0, none⟩) (Nat.le_refl _) _).setCell (p := ⟨w.heap.size, 1, none⟩) (Nat.le_refl _) _)
  generalize (X.setCell ⟨w.heap.size, 0, none⟩ (.int .i64 n)).setCell ⟨w.heap.size, 1, none⟩ (.iface tc vc) = Y at c0 HB ⊢
  clear LX L1 hX HA HL AS
  go_wp2
  go_ret
  exact ⟨rfl, HB.out⟩
theorem countOf_any (n : Nat) (c al : Int) (w : World) (hg : ErrG w) :
    Calls Tryz.prog 52 #[allV n c, .int .i64 al] w fun e w' => e = .returned (.int .i64 (if c = 0 then al else (n : Int))) ∧ Below w.heap.size w w' := by
  by_cases hc : c = 0
  · subst hc
    simpa [allV] using countOf_nil al w
  · have h := countOf_op (n : Int) al 139 (.int .i64 (c - 1)) w hg
    simpa [allV, hc, errV] using h
theorem ei_typeOf (v : Value) (w : World) : (Extern.ReflectliteType.typeOf #[.iface 139 v]).run Tryz.prog w = .ok (.iface 187 (.agg #[.pointer (some ⟨4, 139, none⟩)])) w := by kernel_rfl
theorem ei_comparable (w : World) : (callFunc 175 #[.agg #[.pointer (some ⟨4, 139, none⟩)]]).run Tryz.prog w = .ok (.value (.bool true)) w := by kernel_rfl
theorem ei_methodComparable (v : Value) (w : World) : (Go.method 342 187 v "Comparable").run Tryz.prog w = .ok (175, v) w := by kernel_rfl
theorem ei_noIsF (v : Value) (xT : TypeId) (w : World) : (Instr.typeAssert (.iface 139 v) xT 199 true).run Tryz.prog w = .ok (.tuple #[.nilIface, .bool false]) w := run_typeAssert_lacksB Tryz.underlying199 (by kernel_rfl) (by kernel_rfl) v xT w
theorem ei_noUnF (v : Value) (xT : TypeId) (w : World) : (Instr.typeAssert (.iface 139 v) xT 194 true).run Tryz.prog w = .ok (.tuple #[.nilIface, .bool false]) w := run_typeAssert_lacksB Tryz.underlying194 (by kernel_rfl) (by kernel_rfl) v xT w
theorem ei_noUsF (v : Value) (xT : TypeId) (w : World) : (Instr.typeAssert (.iface 139 v) xT 196 true).run Tryz.prog w = .ok (.tuple #[.nilIface, .bool false]) w := run_typeAssert_lacksB Tryz.underlying196 (by kernel_rfl) (by kernel_rfl) v xT w
theorem ei_noIsO (v : Value) (xT : TypeId) (w : World) : (Instr.typeAssert (.iface 134 v) xT 199 true).run Tryz.prog w = .ok (.tuple #[.nilIface, .bool false]) w := run_typeAssert_lacksB Tryz.underlying199 (by kernel_rfl) (by kernel_rfl) v xT w
theorem ei_hasUnO (v : Value) (xT : TypeId) (w : World) : (Instr.typeAssert (.iface 134 v) xT 194 true).run Tryz.prog w = .ok (.tuple #[.iface 134 v, .bool true]) w := run_typeAssert_hasB Tryz.underlying194 (by kernel_rfl) v xT w
theorem ei_methodUn (v : Value) (w : World) : (Go.method 342 134 v "Unwrap").run Tryz.prog w = .ok (168, v) w := by kernel_rfl
theorem ei_comp : (Tryz.prog.info? 139).map (·.comparable) = some true := by kernel_rfl
theorem unwrap_any (x y : Value) (w : World) :
    Calls Tryz.prog 168 #[.agg #[x, y]] w fun e w' => e = .returned y ∧ Below w.heap.size w w' := by
  have hA := (Below.refl w.heap.size w).alloc (Nat.le_refl _) (.cells #[x, y] 134)
  have L0 := Laid.new w #[x, y] 134
  have c1 : (w.alloc (.cells #[x, y] 134)).cell? ⟨w.heap.size, 1, none⟩ = some y := L0.cell 1
  have HA := hide hA
  clear hA L0
  go_enter Tryz.func168, Tryz.ntmps168
  go_wp2
  go_ret
  exact ⟨rfl, HA.out⟩
theorem is_nil (k : Int) (w : World) :
    Calls Tryz.prog 95 #[.nilIface, .iface 139 (.int .i64 k)] w fun e w' => e = .returned (.bool false) ∧ w' = w := by
  have hn := run_eql_iface_nil_left (P := Tryz.prog) w 139 (.int .i64 k) Tryz.underlying84
  go_enter Tryz.func95, Tryz.ntmps95
  go_wp2
  go_ret
  exact ⟨rfl, rfl⟩
set_option maxRecDepth 20000 in
set_option maxHeartbeats 2000000 in
theorem is_op (n a k : Int) (w : World) :
    Calls Tryz.prog 95 #[.iface 134 (.agg #[.int .i64 n, .iface 139 (.int .i64 a)]), .iface 139 (.int .i64 k)] w fun e w' => e = .returned (.bool (a == k)) ∧ Below w.heap.size w w' := by
  have h8 := @run_callFunc_extern Tryz.prog 120 _ Extern.ReflectliteType.typeOf Tryz.func120 (by kernel_rfl) (by kernel_rfl) (by kernel_rfl) (by kernel_rfl)
  have tT := ei_typeOf
  have cT := ei_comparable
  have mR := ei_methodComparable
  have nF := ei_noIsF
  have uF := ei_noUnF
  have vF := ei_noUsF
  have nO := ei_noIsO
  have uO := ei_hasUnO
  have mU := ei_methodUn
  have e1 := run_eql_iface_types (P := Tryz.prog) 134 139 (.agg #[.int .i64 n, .iface 139 (.int .i64 a)]) (.int .i64 k) Tryz.underlying84 (by decide)
  have e2 := fun W => Lib.run_eql_iface_int (P := Tryz.prog) W (k := .i64) a k Tryz.underlying84 ei_comp Tryz.underlying139
  have hA := (Below.refl w.heap.size w).alloc (Nat.le_refl _) (.cells #[.int .i64 n, .iface 139 (.int .i64 a)] 134)
  have HA := hide hA
  clear hA
  cases hb : a == k with
  | true =>
    rw [hb] at e2
    clear hb
    go_enter Tryz.func95, Tryz.ntmps95
    go_wp2
    refine wp_loop_rounds 2 ?_
    rw [rounds_succ]
    go_wp2
    rw [rounds_succ]
    go_wp2
    go_ret
    exact ⟨rfl, HA.out⟩
  | false =>
    rw [hb] at e2
    clear hb
    go_enter Tryz.func95, Tryz.ntmps95
    go_wp2
    refine wp_loop_rounds 2 ?_
    rw [rounds_succ]
    go_wp2
    rw [rounds_succ]
    go_wp2
    go_ret
    exact ⟨rfl, HA.out⟩
end Go.Proofs.YtpbpidfjecejcaaGreatDoor
namespace Go.Proofs.YtpbpidfjecejcaaGreatDoor
open Go.RowKit
set_option linter.unusedVariables false
theorem one_code (D : MDisk) (o : OpV) : (doOne D o).2 = 0 ∨ (2 ≤ (doOne D o).2 ∧ (doOne D o).2 ≤ 6) := by
  unfold doOne
  repeat' split
  all_goals simp
theorem run_code : ∀ (ops : List OpV) (D : MDisk), (doRun D ops).2.2 = 0 ∨ (2 ≤ (doRun D ops).2.2 ∧ (doRun D ops).2.2 ≤ 6)
  | [], D => .inl rfl
  | o :: r, D => by
    unfold doRun
    split
    · exact run_code r _
    · exact one_code D o
theorem run_count : ∀ (ops : List OpV) (D : MDisk), (doRun D ops).2.2 = 0 → (doRun D ops).2.1 = ops.length
  | [], D, _ => rfl
  | o :: r, D, h => by
    unfold doRun at h ⊢
    split at h
    · next h0 =>
      rw [if_pos h0]
      have := run_count r _ h
      simp only [List.length_cons]
      omega
    · next h0 => exact absurd h h0
theorem run_wkd : ∀ (ops : List OpV) (D : MDisk), Wkd D → Wkd (doRun D ops).1
  | [], D, h => h
  | o :: r, D, h => by
    unfold doRun
    split
    · exact run_wkd r _ (doOne_wkd o h)
    · exact h
set_option maxRecDepth 20000 in
theorem codeOf_nil (w : World) : Calls Tryz.prog 53 #[.nilIface] w fun e w' => e = .returned (.int .i64 0) ∧ Below w.heap.size w w' := by
  go_enter Tryz.func53, Tryz.ntmps53
  go_wp2_with fail
  refine (is_nil _ _).mono ?_
  rintro e w1 ⟨rfl, rfl⟩
  go_wp2_with fail
  refine (is_nil _ _).mono ?_
  rintro e w1 ⟨rfl, rfl⟩
  go_wp2_with fail
  refine (is_nil _ _).mono ?_
  rintro e w1 ⟨rfl, rfl⟩
  go_wp2_with fail
  refine (is_nil _ _).mono ?_
  rintro e w1 ⟨rfl, rfl⟩
  go_wp2_with fail
  refine (is_nil _ _).mono ?_
  rintro e w1 ⟨rfl, rfl⟩
  go_wp2
  go_ret
  exact ⟨rfl, Below.refl _ _⟩
set_option maxRecDepth 20000 in
theorem codeOf_2 (n : Nat) (w : World) : Calls Tryz.prog 53 #[allV n 2] w fun e w' => e = .returned (.int .i64 2) ∧ Below w.heap.size w w' := by
  have e0 : allV n 2 = .iface 134 (.agg #[.int .i64 (n : Int), .iface 139 (.int .i64 1)]) := rfl
  rw [e0]
  clear e0
  go_enter Tryz.func53, Tryz.ntmps53
  go_wp2_with fail
  refine (is_op _ _ _ _).mono ?_
  rintro e w1 ⟨rfl, hb1⟩
  rw [show ((1 : Int) == 1) = true from by decide]
  have HB1 := hide hb1
  clear hb1
  go_wp2
  go_ret
  exact ⟨rfl, HB1.out⟩
set_option maxRecDepth 20000 in
theorem codeOf_3 (n : Nat) (w : World) : Calls Tryz.prog 53 #[allV n 3] w fun e w' => e = .returned (.int .i64 3) ∧ Below w.heap.size w w' := by
  have e0 : allV n 3 = .iface 134 (.agg #[.int .i64 (n : Int), .iface 139 (.int .i64 2)]) := rfl
  rw [e0]
  clear e0
  go_enter Tryz.func53, Tryz.ntmps53
  go_wp2_with fail
  refine (is_op _ _ _ _).mono ?_
  rintro e w1 ⟨rfl, hb1⟩
  rw [show ((2 : Int) == 1) = false from by decide]
  have HB1 := hide hb1
  clear hb1
  go_wp2_with fail
  refine (is_op _ _ _ _).mono ?_
  rintro e w2 ⟨rfl, hb2⟩
  rw [show ((2 : Int) == 2) = true from by decide]
  have HB2 := hide (HB1.out.trans (hb2.mono HB1.out.size))
  clear hb2
  go_wp2
  go_ret
  exact ⟨rfl, HB2.out⟩
set_option maxRecDepth 20000 in
theorem codeOf_4 (n : Nat) (w : World) : Calls Tryz.prog 53 #[allV n 4] w fun e w' => e = .returned (.int .i64 4) ∧ Below w.heap.size w w' := by
  have e0 : allV n 4 = .iface 134 (.agg #[.int .i64 (n : Int), .iface 139 (.int .i64 3)]) := rfl
  rw [e0]
  clear e0
  go_enter Tryz.func53, Tryz.ntmps53
  go_wp2_with fail
  refine (is_op _ _ _ _).mono ?_
  rintro e w1 ⟨rfl, hb1⟩
  rw [show ((3 : Int) == 1) = false from by decide]
  have HB1 := hide hb1
  clear hb1
  go_wp2_with fail
  refine (is_op _ _ _ _).mono ?_
  rintro e w2 ⟨rfl, hb2⟩
  rw [show ((3 : Int) == 2) = false from by decide]
  have HB2 := hide (HB1.out.trans (hb2.mono HB1.out.size))
  clear hb2
  go_wp2_with fail
  refine (is_op _ _ _ _).mono ?_
  rintro e w3 ⟨rfl, hb3⟩
  rw [show ((3 : Int) == 3) = true from by decide]
  have HB3 := hide (HB2.out.trans (hb3.mono HB2.out.size))
  clear hb3
  go_wp2
  go_ret
  exact ⟨rfl, HB3.out⟩
set_option maxRecDepth 20000 in
theorem codeOf_5 (n : Nat) (w : World) : Calls Tryz.prog 53 #[allV n 5] w fun e w' => e = .returned (.int .i64 5) ∧ Below w.heap.size w w' := by
  have e0 : allV n 5 = .iface 134 (.agg #[.int .i64 (n : Int), .iface 139 (.int .i64 4)]) := rfl
  rw [e0]
  clear e0
  go_enter Tryz.func53, Tryz.ntmps53
  go_wp2_with fail
  refine (is_op _ _ _ _).mono ?_
  rintro e w1 ⟨rfl, hb1⟩
  rw [show ((4 : Int) == 1) = false from by decide]
  have HB1 := hide hb1
  clear hb1
  go_wp2_with fail
  refine (is_op _ _ _ _).mono ?_
  rintro e w2 ⟨rfl, hb2⟩
  rw [show ((4 : Int) == 2) = false from by decide]
  have HB2 := hide (HB1.out.trans (hb2.mono HB1.out.size))
  clear hb2
  go_wp2_with fail
  refine (is_op _ _ _ _).mono ?_
  rintro e w3 ⟨rfl, hb3⟩
  rw [show ((4 : Int) == 3) = false from by decide]
  have HB3 := hide (HB2.out.trans (hb3.mono HB2.out.size))
  clear hb3
  go_wp2_with fail
  refine (is_op _ _ _ _).mono ?_
  rintro e w4 ⟨rfl, hb4⟩
  rw [show ((4 : Int) == 4) = true from by decide]
  have HB4 := hide (HB3.out.trans (hb4.mono HB3.out.size))
  clear hb4
  go_wp2
  go_ret
  exact ⟨rfl, HB4.out⟩
set_option maxRecDepth 20000 in
theorem codeOf_6 (n : Nat) (w : World) : Calls Tryz.prog 53 #[allV n 6] w fun e w' => e = .returned (.int .i64 6) ∧ Below w.heap.size w w' := by
  have e0 : allV n 6 = .iface 134 (.agg #[.int .i64 (n : Int), .iface 139 (.int .i64 5)]) := rfl
  rw [e0]
  clear e0
  go_enter Tryz.func53, Tryz.ntmps53
  go_wp2_with fail
  refine (is_op _ _ _ _).mono ?_
  rintro e w1 ⟨rfl, hb1⟩
  rw [show ((5 : Int) == 1) = false from by decide]
  have HB1 := hide hb1
  clear hb1
  go_wp2_with fail
  refine (is_op _ _ _ _).mono ?_
  rintro e w2 ⟨rfl, hb2⟩
  rw [show ((5 : Int) == 2) = false from by decide]
  have HB2 := hide (HB1.out.trans (hb2.mono HB1.out.size))
  clear hb2
  go_wp2_with fail
  refine (is_op _ _ _ _).mono ?_
  rintro e w3 ⟨rfl, hb3⟩
  rw [show ((5 : Int) == 3) = false from by decide]
  have HB3 := hide (HB2.out.trans (hb3.mono HB2.out.size))
  clear hb3
  go_wp2_with fail
  refine (is_op _ _ _ _).mono ?_
  rintro e w4 ⟨rfl, hb4⟩
  rw [show ((5 : Int) == 4) = false from by decide]
  have HB4 := hide (HB3.out.trans (hb4.mono HB3.out.size))
  clear hb4
  go_wp2_with fail
  refine (is_op _ _ _ _).mono ?_
  rintro e w5 ⟨rfl, hb5⟩
  rw [show ((5 : Int) == 5) = true from by decide]
  have HB5 := hide (HB4.out.trans (hb5.mono HB4.out.size))
  clear hb5
  go_wp2
  go_ret
  exact ⟨rfl, HB5.out⟩
theorem codeOf_any (n : Nat) (c : Int) (w : World) (hc : c = 0 ∨ (2 ≤ c ∧ c ≤ 6)) : Calls Tryz.prog 53 #[allV n c] w fun e w' => e = .returned (.int .i64 c) ∧ Below w.heap.size w w' := by
  have h : c = 0 ∨ c = 2 ∨ c = 3 ∨ c = 4 ∨ c = 5 ∨ c = 6 := by omega
  rcases h with rfl | rfl | rfl | rfl | rfl | rfl
  · exact codeOf_nil w
  · exact codeOf_2 n w
  · exact codeOf_3 n w
  · exact codeOf_4 n w
  · exact codeOf_5 n w
  · exact codeOf_6 n w
/-- What impl.DiskDo hands back. -/
def DaPost (w : World) (R : MDisk × Nat × Int) (e : Ending) (w' : World) : Prop := ∃ v1 v2 v3 v4 vs, e = .returned (.agg #[v1, v2, v3, v4, .int .i64 R.1.quota, .int .i64 (R.2.1 : Int), .int .i64 R.2.2]) ∧ OwnDA w' w.heap.size w'.heap.size v1 v2 v3 v4 vs R.1 ∧ Below w.heap.size w w'
theorem OwnDA.wide {w : World} {base base' hi hi' : Nat} {v1 v2 v3 v4 : Value} {vs : List (Value × Value)} {D : MDisk} (h : OwnDA w base hi v1 v2 v3 v4 vs D) (hb : base' ≤ base) (hh : hi ≤ hi') : OwnDA w base' hi' v1 v2 v3 v4 vs D :=
  ⟨h.nodes.mono hb, h.names.mono hb, h.kept.mono hb, h.pend.mono hb, h.away, fun g e => Nat.lt_of_lt_of_le (h.b1 g e) hh, fun g e => Nat.lt_of_lt_of_le (h.b2 g e) hh, fun g e => Nat.lt_of_lt_of_le (h.b3 g e) hh, fun g e => Nat.lt_of_lt_of_le (h.b4 g e) hh⟩
theorem da_no {w : World} (base hi : Nat) : OwnDA w base hi (.slice none 0 0) (.slice none 0 0) (.slice none 0 0) (.slice none 0 0) [] noDisk :=
  ⟨OwnNA.nil _ _, World.ownsRow_nil _ _ _ 2, World.ownsRow_nil _ _ _ 2, World.ownsRow_nil _ _ _ 4, .inl rfl, (fun g e => by
    rcases e with e | ⟨x, hx, _⟩
    · cases e
    · cases hx), (fun g e => by cases e), (fun g e => by cases e), (fun g e => by cases e)⟩
set_option maxRecDepth 20000 in
set_option maxHeartbeats 4000000 in
theorem implDo_any (v : Value) (D : MDisk) (ao : Option Addr) (co : Nat) (ops : List OpV) (w : World) (hg : ErrG w) (hM : Modest D) (hw : ∀ o ∈ D.pend, (Lit.int .i64 o.2.2.2).wf = true) (hd : DiskAt w v D) (hol : ops.length ≤ 1048576) (hos : ∀ o ∈ ops, o.2.1.size ≤ 1048576 ∧ o.2.2.1.size ≤ 1048576 ∧ o.2.2.2.length ≤ 1048576) (ho : OpsAt w ao ops) :
    Calls Tryz.prog 15 #[v, .slice ao ops.length co] w (DaPost w (doOf D ops)) := by
  have HAT := hide (fun w' (hb : Below w.heap.size w w') => hd.below hb)
  have HOP := hide (fun w' (hb : Below w.heap.size w w') => ho.below hb)
  have HEG := hide (fun w' (hb : Below w.heap.size w w') => show ErrG w' from (hb.cell (p := ⟨0, 0, none⟩) (lt_cell hg)).trans hg)
  obtain ⟨a1, m1, c1, a2, m2, c2, a3, m3, c3, a4, m4, c4, q, hv⟩ := hd.shape
  clear hd ho hg
  subst hv
  obtain ⟨L1, L2, hA, hz⟩ := boxes2 w #[.slice a1 m1 c1, .slice a2 m2 c2, .slice a3 m3 c3, .slice a4 m4 c4, .int .i64 q] #[.slice none 0 0, .slice none 0 0, .slice none 0 0, .slice none 0 0, .int .i64 0, .int .i64 0, .int .i64 0] 27 41
  have HM := hide hM
  have HW := hide hw
  have HOS := hide hos
  clear hM hos hw
  go_enter Tryz.func15, Tryz.ntmps15
  go_upto_region 1 with fail
  generalize (w.alloc (.cells #[.slice a1 m1 c1, .slice a2 m2 c2, .slice a3 m3 c3, .slice a4 m4 c4, .int .i64 q] 27)).alloc (.cells #[.slice none 0 0, .slice none 0 0, .slice none 0 0, .slice none 0 0, .int .i64 0, .int .i64 0, .int .i64 0] 41) = w0 at L1 L2 hA hz ⊢
  have HZ := hide hz
  clear hz
  have HR0 := hide (fun (W : World) (hb : Below w.heap.size w W) (h : ¬ (ops.length ≤ 2000 ∧ ValidD D)) => show DaPost w (doOf D ops) (.returned (.agg #[.slice none 0 0, .slice none 0 0, .slice none 0 0, .slice none 0 0, .int .i64 0, .int .i64 0, .int .i64 1])) (set7 W (w.heap.size + 1) (.slice none 0 0) (.slice none 0 0) (.slice none 0 0) (.slice none 0 0) (.int .i64 0) (.int .i64 0) (.int .i64 1)) from by
    rw [doOf_no h]
    exact ⟨_, _, _, _, [], rfl, da_no _ _, hb.trans ((set7_fr _ _ _ _ _ _ _ _ _).below (fun g e => by omega) hb.size)⟩)
  have z0 : w0.cell? ⟨w.heap.size + 1, 0, none⟩ = some (.slice none 0 0) := L2.cell 0
  have f0 := frozen_of_row w0 (w.heap.size + 1) 0 _ _ L2
  have z1 : w0.cell? ⟨w.heap.size + 1, 1, none⟩ = some (.slice none 0 0) := L2.cell 1
  have f1 := frozen_of_row w0 (w.heap.size + 1) 1 _ _ L2
  have z2 : w0.cell? ⟨w.heap.size + 1, 2, none⟩ = some (.slice none 0 0) := L2.cell 2
  have f2 := frozen_of_row w0 (w.heap.size + 1) 2 _ _ L2
  have z3 : w0.cell? ⟨w.heap.size + 1, 3, none⟩ = some (.slice none 0 0) := L2.cell 3
  have f3 := frozen_of_row w0 (w.heap.size + 1) 3 _ _ L2
  have z4 : w0.cell? ⟨w.heap.size + 1, 4, none⟩ = some (.int .i64 0) := L2.cell 4
  have f4 := frozen_of_row w0 (w.heap.size + 1) 4 _ _ L2
  have z5 : w0.cell? ⟨w.heap.size + 1, 5, none⟩ = some (.int .i64 0) := L2.cell 5
  have f5 := frozen_of_row w0 (w.heap.size + 1) 5 _ _ L2
  have z6 : w0.cell? ⟨w.heap.size + 1, 6, none⟩ = some (.int .i64 0) := L2.cell 6
  have f6 := frozen_of_row w0 (w.heap.size + 1) 6 _ _ L2
  have r0 : w0.cell? ⟨w.heap.size, 0, none⟩ = some (.slice a1 m1 c1) := L1.cell 0
  have r1 : w0.cell? ⟨w.heap.size, 1, none⟩ = some (.slice a2 m2 c2) := L1.cell 1
  have r2 : w0.cell? ⟨w.heap.size, 2, none⟩ = some (.slice a3 m3 c3) := L1.cell 2
  have r3 : w0.cell? ⟨w.heap.size, 3, none⟩ = some (.slice a4 m4 c4) := L1.cell 3
  have r4 : w0.cell? ⟨w.heap.size, 4, none⟩ = some (.int .i64 q) := L1.cell 4
  have HL2 := hide L2
  have HA := hide hA
  by_cases h2 : 2000 < ops.length
  · go_wp2
    exact bodyPost_ret (ret_done (w.heap.size + 1) _ _ rfl rfl rfl (set_done _ _ _ _ _ _ _ HL2.out)) rfl (HR0.out w0 HA.out (fun h => by omega))
  go_wp2_with fail
  refine (implValid_v (HAT.out w0 hA) HM.out HW.out).mono ?_
  rintro e w1 ⟨r, rfl, hrr, hb1⟩
  have hA1 := hA.trans (hb1.mono hA.size)
  have L1' := L1.below hb1 L1.lt
  have L2' := L2.below hb1 L2.lt
  have hz1 : w.heap.size + 2 ≤ w1.heap.size := by have := hb1.size; have := HZ.out; omega
  clear r0 r1 r2 r3 r4 z0 f0 z1 f1 z2 f2 z3 f3 z4 f4 z5 f5 z6 f6
  have z0a : w1.cell? ⟨w.heap.size + 1, 0, none⟩ = some (.slice none 0 0) := L2'.cell 0
  have f0a := frozen_of_row w1 (w.heap.size + 1) 0 _ _ L2'
  have z1a : w1.cell? ⟨w.heap.size + 1, 1, none⟩ = some (.slice none 0 0) := L2'.cell 1
  have f1a := frozen_of_row w1 (w.heap.size + 1) 1 _ _ L2'
  have z2a : w1.cell? ⟨w.heap.size + 1, 2, none⟩ = some (.slice none 0 0) := L2'.cell 2
  have f2a := frozen_of_row w1 (w.heap.size + 1) 2 _ _ L2'
  have z3a : w1.cell? ⟨w.heap.size + 1, 3, none⟩ = some (.slice none 0 0) := L2'.cell 3
  have f3a := frozen_of_row w1 (w.heap.size + 1) 3 _ _ L2'
  have z4a : w1.cell? ⟨w.heap.size + 1, 4, none⟩ = some (.int .i64 0) := L2'.cell 4
  have f4a := frozen_of_row w1 (w.heap.size + 1) 4 _ _ L2'
  have z5a : w1.cell? ⟨w.heap.size + 1, 5, none⟩ = some (.int .i64 0) := L2'.cell 5
  have f5a := frozen_of_row w1 (w.heap.size + 1) 5 _ _ L2'
  have z6a : w1.cell? ⟨w.heap.size + 1, 6, none⟩ = some (.int .i64 0) := L2'.cell 6
  have f6a := frozen_of_row w1 (w.heap.size + 1) 6 _ _ L2'
  have HL2a := hide L2'
  have HA1 := hide hA1
  have HV := hide hrr
  have t0 : w1.cell? ⟨w.heap.size, 0, none⟩ = some (.slice a1 m1 c1) := L1'.cell 0
  have t1 : w1.cell? ⟨w.heap.size, 1, none⟩ = some (.slice a2 m2 c2) := L1'.cell 1
  have t2 : w1.cell? ⟨w.heap.size, 2, none⟩ = some (.slice a3 m3 c3) := L1'.cell 2
  have t3 : w1.cell? ⟨w.heap.size, 3, none⟩ = some (.slice a4 m4 c4) := L1'.cell 3
  have t4 : w1.cell? ⟨w.heap.size, 4, none⟩ = some (.int .i64 q) := L1'.cell 4
  clear hA hb1 L1 L2 L1' L2' hrr hA1
  cases r with
  | false =>
    go_wp2
    exact bodyPost_ret (ret_done (w.heap.size + 1) _ _ rfl rfl rfl (set_done _ _ _ _ _ _ _ HL2a.out)) rfl (HR0.out w1 HA1.out (fun h => by have := HV.out.2 h.2; cases this))
  | true =>
    have HVD := hide (HV.out.1 rfl)
    have HWK := hide (wkd_of HVD.out HM.out)
    have HDR := hide (driveOf_any _ D w1 HWK.out (HAT.out w1 HA1.out))
    go_wp2_with fail
    refine HDR.out.mono ?_
    rintro e w2 ⟨o, b1, b2, v1, v3, v4, vs, rfl, hd2, hb2⟩
    have hbb2 : w1.heap.size ≤ w2.heap.size := hb2.size
    have HAL := hide (doAll_any w1.heap.size o b1 b2 D.names.length v1 v3 v4 vs D ao co ops w2 hbb2 HWK.out HWK.out.fine.ln (by omega) HOS.out (fun X hX => HOP.out X (HA1.out.trans ((hb2.trans hX).mono (by omega)))) hd2)
    have HB2 := hide hb2
    clear hd2 hb2 HDR t0 t1 t2 t3 t4 z0a f0a z1a f1a z2a f2a z3a f3a z4a f4a z5a f5a z6a f6a
    have HDO := hide (doOf_yes (D := D) (ops := ops) ⟨by omega, HVD.out⟩)
    have HCO := hide (run_code ops D)
    have HCN := hide (run_count ops D)
    have HWR := hide (run_wkd ops D HWK.out)
    generalize doRun D ops = R at HAL HDO HCO HCN HWR
    obtain ⟨C, n, code⟩ := R
    simp only at HAL HCO HCN HWR
    go_wp2_with fail
    refine HAL.out.mono ?_
    rintro e w3 ⟨b1', b2', m', v1', v3', v4', vs', rfl, hd3, hk3, hm3⟩
    have hbb3 : w1.heap.size ≤ w3.heap.size := Nat.le_trans hbb2 hk3.bel.size
    have HDK := hide (disk_any w1.heap.size o b1' b2' m' v1' v3' v4' vs' C w3 hbb3 HWR.out (by omega) hd3)
    have HB3 := hide (HB2.out.trans hk3.bel)
    clear hd3 hk3 HAL
    go_wp2_with fail
    refine HDK.out.mono ?_
    rintro e w4 ⟨v2', rfl, ho4, hb4⟩
    obtain ⟨x1, y1, rfl⟩ := ho4.nodes.slice
    obtain ⟨x2, y2, rfl⟩ := ho4.names.slice
    obtain ⟨x3, y3, rfl⟩ := ho4.kept.slice
    obtain ⟨x4, y4, rfl⟩ := ho4.pend.slice
    have HO4 := hide ho4
    have HB4 := hide (HB3.out.trans (hb4.mono hbb3))
    have hb04 : Below w.heap.size w w4 := HA1.out.trans (HB4.out.mono (by omega))
    have HCT := hide (countOf_any n code (ops.length : Int) w4 (HEG.out w4 hb04))
    clear ho4 hb4 HDK hb04
    go_wp2_with fail
    refine HCT.out.mono ?_
    rintro e w5 ⟨rfl, hb5⟩
    have hcn : (if code = 0 then (ops.length : Int) else (n : Int)) = (n : Int) := by
      by_cases h : code = 0
      · rw [if_pos h, HCN.out h]
      · rw [if_neg h]
    rw [hcn]
    have HCD := hide (codeOf_any n code w5 HCO.out)
    have HB5 := hide hb5
    clear hb5 hcn HCT
    go_wp2_with fail
    refine HCD.out.mono ?_
    rintro e w6 ⟨rfl, hb6⟩
    have hs4 := HB4.out.size
    have hb46 : Below w4.heap.size w4 w6 := HB5.out.trans (hb6.mono HB5.out.size)
    have hb16 : Below w1.heap.size w1 w6 := HB4.out.trans (hb46.mono hs4)
    have L6 := HL2a.out.below hb16 HL2a.out.lt
    have z0b : w6.cell? ⟨w.heap.size + 1, 0, none⟩ = some (.slice none 0 0) := L6.cell 0
    have f0b := frozen_of_row w6 (w.heap.size + 1) 0 _ _ L6
    have z1b : w6.cell? ⟨w.heap.size + 1, 1, none⟩ = some (.slice none 0 0) := L6.cell 1
    have f1b := frozen_of_row w6 (w.heap.size + 1) 1 _ _ L6
    have z2b : w6.cell? ⟨w.heap.size + 1, 2, none⟩ = some (.slice none 0 0) := L6.cell 2
    have f2b := frozen_of_row w6 (w.heap.size + 1) 2 _ _ L6
    have z3b : w6.cell? ⟨w.heap.size + 1, 3, none⟩ = some (.slice none 0 0) := L6.cell 3
    have f3b := frozen_of_row w6 (w.heap.size + 1) 3 _ _ L6
    have z4b : w6.cell? ⟨w.heap.size + 1, 4, none⟩ = some (.int .i64 0) := L6.cell 4
    have f4b := frozen_of_row w6 (w.heap.size + 1) 4 _ _ L6
    have z5b : w6.cell? ⟨w.heap.size + 1, 5, none⟩ = some (.int .i64 0) := L6.cell 5
    have f5b := frozen_of_row w6 (w.heap.size + 1) 5 _ _ L6
    have z6b : w6.cell? ⟨w.heap.size + 1, 6, none⟩ = some (.int .i64 0) := L6.cell 6
    have f6b := frozen_of_row w6 (w.heap.size + 1) 6 _ _ L6
    have HO6 := hide (HO4.out.below hb46)
    have HL6 := hide L6
    have HB06 := hide (show Below w.heap.size w w6 from HA1.out.trans (hb16.mono (by omega)))
    have HS6 := hide hb46.size
    clear hb6 hb46 hb16 L6 HCD HB5
    go_wp2
    refine bodyPost_ret (ret_done (w.heap.size + 1) _ _ rfl rfl rfl (set_done _ _ _ _ _ _ _ HL6.out)) rfl ?_
    rw [HDO.out]
    refine ⟨_, _, _, _, vs', rfl, ?_, HB06.out.trans ((set7_fr _ _ _ _ _ _ _ _ _).below (fun g e => by omega) HB06.out.size)⟩
    have h7 := HO6.out.fr (set7_fr w6 (w.heap.size + 1) (.slice x1 C.nodes.length y1) (.slice x2 C.names.length y2) (.slice x3 C.kept.length y3) (.slice x4 C.pend.length y4) (.int .i64 C.quota) (.int .i64 (n : Int)) (.int .i64 code)) (fun g a b e => by omega)
    exact h7.wide (by omega) (Nat.le_trans HS6.out (set7_fr _ _ _ _ _ _ _ _ _).size)
end Go.Proofs.YtpbpidfjecejcaaGreatDoor
