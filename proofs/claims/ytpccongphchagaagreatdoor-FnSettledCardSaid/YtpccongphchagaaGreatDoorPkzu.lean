import Derived.Test.YtpccongphchagaaGreatDoorPkzt
import Derived.Test.YtpccongphchagaaGreatDoorPkv
import Derived.Test.YtpccongphchagaaGreatDoorPkzq
namespace Go.Proofs.YtpccongphchagaaGreatDoor
open Go.RowKit
set_option linter.unusedVariables false
set_option maxRecDepth 20000 in
set_option maxHeartbeats 8000000 in
theorem settled_small (a am : Option Addr) (cap cm : Nat) (code more : List Nat) (w : World) (hg : ErrG w) (hl : code.length ≤ 1048576) (hlm : more.length ≤ 1048576) (hr : RowAt w a code) (hrm : RowAt w am more) (hb : ∀ x ∈ code, x < 256) (hbm : ∀ x ∈ more, x < 256) :
    Calls Tryz.prog 3 #[.slice a code.length cap, .slice am more.length cm] w fun e w' => e = .returned (.bool true) ∧ Below w.heap.size w w' := by
  have hi1 : ¬ (1048576 : Int) < (code.length : Int) := by omega
  have hi2 : ¬ (1048576 : Int) < (more.length : Int) := by omega
  obtain ⟨L1, L2, hA, hz⟩ := boxes2 w #[.slice none 0 0, .slice none 0 0, .slice none 0 0, .slice none 0 0, .int .i64 4000] #[.slice none 0 0, .slice none 0 0, .slice none 0 0, .slice none 0 0, .int .i64 4000] 27 27
  have HEG := hide (fun w' (hb : Below w.heap.size w w') => show ErrG w' from (hb.cell (p := ⟨0, 0, none⟩) (lt_cell hg)).trans hg)
  have HRW := hide (fun w' (hb : Below w.heap.size w w') => hr.below hb)
  have HRM := hide (fun w' (hb : Below w.heap.size w w') => hrm.below hb)
  have HBY := hide hb
  have HBM := hide hbm
  clear hg hr hrm hb hbm
  go_enter Tryz.func3, Tryz.ntmps3
  go_upto_region 5 with fail
  generalize (w.alloc (.cells #[.slice none 0 0, .slice none 0 0, .slice none 0 0, .slice none 0 0, .int .i64 4000] 27)).alloc (.cells #[.slice none 0 0, .slice none 0 0, .slice none 0 0, .slice none 0 0, .int .i64 4000] 27) = W1 at L1 L2 hA hz ⊢
  have HA := hide hA
  have HL1 := hide L1
  have HL2 := hide L2
  have HZ := hide hz
  clear L1 L2 hA hz
  go_wp2_with (first
    | (at_make; (refine wpList_make_bytes _ rfl _ _ rfl code.length rfl rfl (by omega) ?_; intro w2 ho2 hb2; have HO2 := hide ho2; have HB2 := hide hb2; clear ho2 hb2))
    | (at_builtin; (refine wpList_append_two _ rfl (.tmp 36) (.tmp 37) rfl W1.heap.size ⟨W1.heap.size, 0, none⟩ a code cap rfl rfl ?_ ?_ ?_ ?_ ?_; (exact HO2.out); (exact HRW.out w2 (HA.out.trans (HB2.out.mono HA.out.size))); (exact hl); (exact HB2.out.size); intro v3 w3 ho3 hb3; have HO3 := hide ho3; have HB3 := hide hb3; clear ho3 hb3)))
  obtain ⟨a3, c3, rfl⟩ := OwnB.slice HO3.out
  have hle1 : w.heap.size ≤ W1.heap.size := HA.out.size
  have HA3 := hide ((HA.out.trans (HB2.out.mono HA.out.size)).trans (HB3.out.mono hle1))
  have DR := hide (drawDo_in (w := w3) (a := a3) (cap := c3) ⟨by rw [twice_len]; omega, HO3.out.row, twice_byte HBY.out⟩ (twice_nx code))
  have hB13 := HB2.out.trans HB3.out
  have HS3 := hide (show Laid w3 w.heap.size #[.slice none 0 0, .slice none 0 0, .slice none 0 0, .slice none 0 0, .int .i64 4000] 27 ∧ Laid w3 (w.heap.size + 1) #[.slice none 0 0, .slice none 0 0, .slice none 0 0, .slice none 0 0, .int .i64 4000] 27 from ⟨HL1.out.below hB13 HL1.out.lt, HL2.out.below hB13 HL2.out.lt⟩)
  clear HO3 HO2 HB2 HB3 HL1 HL2 HRW hB13
  go_wp2_with fail
  refine DR.out.mono ?_
  rintro e w4 ⟨n1, m1, k1, n2, m2, k2, n3, m3, k3, n4, m4, k4, q, v, b, vs, l, rfl, hbb, hV, hl60, hob, hb4⟩
  obtain ⟨av, cv, rfl⟩ := hV.slice
  have hal := (Below.refl w4.heap.size w4).alloc (Nat.le_refl _) (.cells #[.slice n1 m1 k1, .slice n2 m2 k2, .slice n3 m3 k3, .slice n4 m4 k4, .int .i64 q] 27)
  have hb45 := hb4.trans (hal.mono hb4.size)
  have HS5 := hide (show SetL w (w4.alloc (.cells #[.slice n1 m1 k1, .slice n2 m2 k2, .slice n3 m3 k3, .slice n4 m4 k4, .int .i64 q] 27)) w.heap.size (w.heap.size + 1) b (.slice none 0 0) (.slice none 0 0) (.slice none 0 0) (.slice none 0 0) (.slice none 0 0) (.slice none 0 0) (.slice none 0 0) (.slice none 0 0) (.slice av l.length cv) vs l ⟨[], [], [], [], 4000⟩ from
    ⟨HS3.out.1.below hb45 HS3.out.1.lt, HS3.out.2.below hb45 HS3.out.2.lt, ⟨(OwnNA.nil _ _).own, World.ownsRow_nil _ _ _ 2, World.ownsRow_nil _ _ _ 2, World.ownsRow_nil _ _ _ 4⟩, ⟨(OwnNA.nil _ _).own, World.ownsRow_nil _ _ _ 2, World.ownsRow_nil _ _ _ 2, World.ownsRow_nil _ _ _ 4⟩, bare_valid 4000 (by omega) (by omega), rfl, hV.below' hal, HA3.out.trans (hb45.mono HA3.out.size), Nat.le_refl _, Nat.lt_succ_self _⟩)
  have HOB := hide hob
  have hcv := own_cap hV.row
  clear hal hb45 hV hb4 DR HS3 HA3 hob
  go_upto_region 6 with fail
  generalize w4.alloc (.cells #[.slice n1 m1 k1, .slice n2 m2 k2, .slice n3 m3 k3, .slice n4 m4 k4, .int .i64 q] 27) = W5 at HS5 ⊢
  go_wp2
  go_loopw [9, 10, 11, 12, 44] (fun _ _ _ _ i wv => ∃ (k : Nat) (x1 x2 x3 x4 y1 y2 y3 y4 : Value) (C : MDisk), k ≤ l.length ∧ i = .int .i64 (k : Int) ∧ SetL w wv w.heap.size (w.heap.size + 1) b x1 x2 x3 x4 y1 y2 y3 y4 (.slice av l.length cv) vs l C) (fun _ _ _ _ i _ => l.length - (intOf i).toNat)
  case atStart => exact ⟨0, _, _, _, _, _, _, _, _, _, Nat.zero_le _, rfl, HS5.out⟩
  case round =>
    obtain ⟨k, x1, x2, x3, x4, y1, y2, y3, y4, C, hk, rfl, hS⟩ := hrel
    clear HS5
    obtain ⟨i1, j1, rfl⟩ := hS.d5.n.slice
    obtain ⟨i2, j2, rfl⟩ := hS.d5.e.slice
    obtain ⟨i3, j3, rfl⟩ := hS.d5.k.slice
    obtain ⟨i4, j4, rfl⟩ := hS.d5.p.slice
    obtain ⟨r1, s1, rfl⟩ := hS.d6.n.slice
    obtain ⟨r2, s2, rfl⟩ := hS.d6.e.slice
    obtain ⟨r3, s3, rfl⟩ := hS.d6.k.slice
    obtain ⟨r4, s4, rfl⟩ := hS.d6.p.slice
    have HS := hide hS
    have p0 : wr.cell? ⟨w.heap.size, 0, none⟩ = some (.slice i1 C.nodes.length j1) := hS.b5.cell 0
    have p1 : wr.cell? ⟨w.heap.size, 1, none⟩ = some (.slice i2 C.names.length j2) := hS.b5.cell 1
    have p2 : wr.cell? ⟨w.heap.size, 2, none⟩ = some (.slice i3 C.kept.length j3) := hS.b5.cell 2
    have p3 : wr.cell? ⟨w.heap.size, 3, none⟩ = some (.slice i4 C.pend.length j4) := hS.b5.cell 3
    have p4 : wr.cell? ⟨w.heap.size, 4, none⟩ = some (.int .i64 4000) := hS.b5.cell 4
    have q0 : wr.cell? ⟨w.heap.size + 1, 0, none⟩ = some (.slice r1 C.nodes.length s1) := hS.b6.cell 0
    have q1 : wr.cell? ⟨w.heap.size + 1, 1, none⟩ = some (.slice r2 C.names.length s2) := hS.b6.cell 1
    have q2 : wr.cell? ⟨w.heap.size + 1, 2, none⟩ = some (.slice r3 C.kept.length s3) := hS.b6.cell 2
    have q3 : wr.cell? ⟨w.heap.size + 1, 3, none⟩ = some (.slice r4 C.pend.length s4) := hS.b6.cell 3
    have q4 : wr.cell? ⟨w.heap.size + 1, 4, none⟩ = some (.int .i64 4000) := hS.b6.cell 4
    by_cases hlt : k < l.length
    · have hki : (k : Int) < (l.length : Int) := by omega
      obtain ⟨bo, oo, rfl, hone⟩ := ops_one hS.ops.at k hlt
      have hos : ∀ o ∈ [l[k]], o.2.1.size ≤ 1048576 ∧ o.2.2.1.size ≤ 1048576 ∧ o.2.2.2.length ≤ 1048576 := fun o ho => by
        obtain rfl : o = l[k] := by simpa using ho
        have := HOB.out _ (List.getElem_mem hlt)
        omega
      have hat6 : DiskAt wr (.agg #[.slice r1 C.nodes.length s1, .slice r2 C.names.length s2, .slice r3 C.kept.length s3, .slice r4 C.pend.length s4, .int .i64 4000]) C := by have h := hS.d6.own.at; rw [hS.q] at h; exact h
      have hat5 : DiskAt wr (.agg #[.slice i1 C.nodes.length j1, .slice i2 C.names.length j2, .slice i3 C.kept.length j3, .slice i4 C.pend.length j4, .int .i64 4000]) C := by have h := hS.d5.own.at; rw [hS.q] at h; exact h
      have SPD := hide (fun (co : Nat) => show Calls Tryz.prog 5 #[.agg #[.slice r1 C.nodes.length s1, .slice r2 C.names.length s2, .slice r3 C.kept.length s3, .slice r4 C.pend.length s4, .int .i64 4000], .slice (some ⟨bo, oo + k * 4, none⟩) 1 co] wr (DnPost wr (doOf C [l[k]])) from specDo_any one_law l1Copy_any _ C _ co [l[k]] wr (valid_modest hS.val) hat6 (by simp) hos hone)
      have IMD := hide (fun (X : World) (hb : Below wr.heap.size wr X) (co : Nat) => show Calls Tryz.prog 6 #[.agg #[.slice i1 C.nodes.length j1, .slice i2 C.names.length j2, .slice i3 C.kept.length j3, .slice i4 C.pend.length j4, .int .i64 4000], .slice (some ⟨bo, oo + k * 4, none⟩) 1 co] X (DaPost X (doOf C [l[k]])) from implDo_any _ C _ co [l[k]] X (HEG.out X (hS.bel.trans (hb.mono hS.bel.size))) (valid_modest hS.val) (valid_wf hS.val) (hat5.below hb) (by simp) hos (hone.below hb))
      have H1 := hide (doOf_one hS.val l[k])
      generalize doOf C [l[k]] = R at SPD IMD H1
      obtain ⟨C', nn, cde⟩ := R
      clear hS hone hos hat5 hat6
      have hq' : C'.quota = 4000 := H1.out.2.trans HS.out.q
      have hV' : ValidD C' := H1.out.1
      have HVQ := hide (And.intro hV' hq')
      go_wp2_with fail
      refine (SPD.out _).mono ?_
      rintro e w6 ⟨z1, z2, z3, z4, rfl, hz6, hb6⟩
      obtain ⟨g1, t1, rfl⟩ := hz6.n.slice
      obtain ⟨g2, t2, rfl⟩ := hz6.e.slice
      obtain ⟨g3, t3, rfl⟩ := hz6.k.slice
      obtain ⟨g4, t4, rfl⟩ := hz6.p.slice
      simp only [hq']
      clear hq' hV' H1
      have hn6 : w.heap.size + 1 < w6.heap.size := Nat.lt_of_lt_of_le HS.out.b6.lt hb6.size
      have hal7 := (Below.refl w6.heap.size w6).alloc (Nat.le_refl _) (.cells #[.slice g1 C'.nodes.length t1, .slice g2 C'.names.length t2, .slice g3 C'.kept.length t3, .slice g4 C'.pend.length t4, .int .i64 4000, .int .i64 (nn : Int), .int .i64 cde] 32)
      have L7 := Laid.new w6 #[.slice g1 C'.nodes.length t1, .slice g2 C'.names.length t2, .slice g3 C'.kept.length t3, .slice g4 C'.pend.length t4, .int .i64 4000, .int .i64 (nn : Int), .int .i64 cde] 32
      have hb7 := hb6.trans (hal7.mono hb6.size)
      have HS7 := hide (HS.out.below hb7)
      have HZ7 := hide ((hz6.below hal7).low (base' := w.heap.size) HS.out.bel.size)
      have IM7 := hide (IMD.out _ hb7)
      clear hal7 hb7 hz6 hb6 IMD SPD HS p0 p1 p2 p3 p4 q0 q1 q2 q3 q4
      go_upto_region 11 with fail
      generalize w6.alloc (.cells #[.slice g1 C'.nodes.length t1, .slice g2 C'.names.length t2, .slice g3 C'.kept.length t3, .slice g4 C'.pend.length t4, .int .i64 4000, .int .i64 (nn : Int), .int .i64 cde] 32) = W7 at L7 HS7 HZ7 IM7 ⊢
      have p0 : W7.cell? ⟨w.heap.size, 0, none⟩ = some (.slice i1 C.nodes.length j1) := HS7.out.b5.cell 0
      have p1 : W7.cell? ⟨w.heap.size, 1, none⟩ = some (.slice i2 C.names.length j2) := HS7.out.b5.cell 1
      have p2 : W7.cell? ⟨w.heap.size, 2, none⟩ = some (.slice i3 C.kept.length j3) := HS7.out.b5.cell 2
      have p3 : W7.cell? ⟨w.heap.size, 3, none⟩ = some (.slice i4 C.pend.length j4) := HS7.out.b5.cell 3
      have p4 : W7.cell? ⟨w.heap.size, 4, none⟩ = some (.int .i64 4000) := HS7.out.b5.cell 4
      have HL7 := hide L7
      clear L7
      go_wp2_with fail
      refine (IM7.out _).mono ?_
      rintro e w8 ⟨u1, u2, u3, u4, us, rfl, hu8, hb8⟩
      have hk8 := hu8.dk
      obtain ⟨f1, o1, rfl⟩ := hk8.n.slice
      obtain ⟨f2, o2, rfl⟩ := hk8.e.slice
      obtain ⟨f3, o3, rfl⟩ := hk8.k.slice
      obtain ⟨f4, o4, rfl⟩ := hk8.p.slice
      have hq' : C'.quota = 4000 := HVQ.out.2
      simp only [hq']
      clear hq' hu8
      have hn8 : w6.heap.size < w8.heap.size := Nat.lt_of_lt_of_le HL7.out.lt hb8.size
      have hal9 := (Below.refl w8.heap.size w8).alloc (Nat.le_refl _) (.cells #[.slice f1 C'.nodes.length o1, .slice f2 C'.names.length o2, .slice f3 C'.kept.length o3, .slice f4 C'.pend.length o4, .int .i64 4000, .int .i64 (nn : Int), .int .i64 cde] 32)
      have L9 := Laid.new w8 #[.slice f1 C'.nodes.length o1, .slice f2 C'.names.length o2, .slice f3 C'.kept.length o3, .slice f4 C'.pend.length o4, .int .i64 4000, .int .i64 (nn : Int), .int .i64 cde] 32
      have hb9 := hb8.trans (hal9.mono hb8.size)
      have HS9 := hide (HS7.out.below hb9)
      have HZ9 := hide (HZ7.out.below hb9)
      have HU9 := hide ((hk8.below hal9).low (base' := w.heap.size) HS7.out.bel.size)
      have L7' := HL7.out.below hb9 HL7.out.lt
      clear hal9 hb9 hk8 hb8 IM7 p0 p1 p2 p3 p4 HL7 HS7 HZ7
      go_upto_region 12 with fail
      generalize w8.alloc (.cells #[.slice f1 C'.nodes.length o1, .slice f2 C'.names.length o2, .slice f3 C'.kept.length o3, .slice f4 C'.pend.length o4, .int .i64 4000, .int .i64 (nn : Int), .int .i64 cde] 32) = W9 at L9 L7' HS9 HZ9 HU9 ⊢
      have hatz : DiskAt W9 (.agg #[.slice g1 C'.nodes.length t1, .slice g2 C'.names.length t2, .slice g3 C'.kept.length t3, .slice g4 C'.pend.length t4, .int .i64 4000]) C' := by have h := HZ9.out.own.at; rw [HVQ.out.2] at h; exact h
      have hatu : DiskAt W9 (.agg #[.slice f1 C'.nodes.length o1, .slice f2 C'.names.length o2, .slice f3 C'.kept.length o3, .slice f4 C'.pend.length o4, .int .i64 4000]) C' := by have h := HU9.out.own.at; rw [HVQ.out.2] at h; exact h
      have hMd := valid_modest HVQ.out.1
      have SD := hide (sameDisk_same _ _ C' W9 hMd.n1 hMd.n2 hMd.n3 hMd.n4 hatz hatu)
      have IV := hide (fun (X : World) (hb : Below W9.heap.size W9 X) => implValid_v (hatu.below hb) (valid_modest HVQ.out.1) (valid_wf HVQ.out.1))
      have HLL := hide (And.intro L7' L9)
      clear hatz hatu hMd L7' L9
      have a0 : W9.cell? ⟨w6.heap.size, 0, none⟩ = some (.slice g1 C'.nodes.length t1) := Laid.cell HLL.out.1 0
      have b0 : W9.cell? ⟨w8.heap.size, 0, none⟩ = some (.slice f1 C'.nodes.length o1) := Laid.cell HLL.out.2 0
      have a1 : W9.cell? ⟨w6.heap.size, 1, none⟩ = some (.slice g2 C'.names.length t2) := Laid.cell HLL.out.1 1
      have b1 : W9.cell? ⟨w8.heap.size, 1, none⟩ = some (.slice f2 C'.names.length o2) := Laid.cell HLL.out.2 1
      have a2 : W9.cell? ⟨w6.heap.size, 2, none⟩ = some (.slice g3 C'.kept.length t3) := Laid.cell HLL.out.1 2
      have b2 : W9.cell? ⟨w8.heap.size, 2, none⟩ = some (.slice f3 C'.kept.length o3) := Laid.cell HLL.out.2 2
      have a3 : W9.cell? ⟨w6.heap.size, 3, none⟩ = some (.slice g4 C'.pend.length t4) := Laid.cell HLL.out.1 3
      have b3 : W9.cell? ⟨w8.heap.size, 3, none⟩ = some (.slice f4 C'.pend.length o4) := Laid.cell HLL.out.2 3
      have a4 : W9.cell? ⟨w6.heap.size, 4, none⟩ = some (.int .i64 4000) := Laid.cell HLL.out.1 4
      have b4 : W9.cell? ⟨w8.heap.size, 4, none⟩ = some (.int .i64 4000) := Laid.cell HLL.out.2 4
      have a6 : W9.cell? ⟨w6.heap.size, 6, none⟩ = some (.int .i64 cde) := Laid.cell HLL.out.1 6
      have b6 : W9.cell? ⟨w8.heap.size, 6, none⟩ = some (.int .i64 cde) := Laid.cell HLL.out.2 6
      go_wp2_with fail
      refine SD.out.mono ?_
      rintro e w10 ⟨rfl, hb10⟩
      clear a0 b0 a1 b1 a2 b2 a3 b3 a4 b4 a6 b6
      have a0 : w10.cell? ⟨w6.heap.size, 0, none⟩ = some (.slice g1 C'.nodes.length t1) := Laid.cell (HLL.out.1.below hb10 HLL.out.1.lt) 0
      have b0 : w10.cell? ⟨w8.heap.size, 0, none⟩ = some (.slice f1 C'.nodes.length o1) := Laid.cell (HLL.out.2.below hb10 HLL.out.2.lt) 0
      have a1 : w10.cell? ⟨w6.heap.size, 1, none⟩ = some (.slice g2 C'.names.length t2) := Laid.cell (HLL.out.1.below hb10 HLL.out.1.lt) 1
      have b1 : w10.cell? ⟨w8.heap.size, 1, none⟩ = some (.slice f2 C'.names.length o2) := Laid.cell (HLL.out.2.below hb10 HLL.out.2.lt) 1
      have a2 : w10.cell? ⟨w6.heap.size, 2, none⟩ = some (.slice g3 C'.kept.length t3) := Laid.cell (HLL.out.1.below hb10 HLL.out.1.lt) 2
      have b2 : w10.cell? ⟨w8.heap.size, 2, none⟩ = some (.slice f3 C'.kept.length o3) := Laid.cell (HLL.out.2.below hb10 HLL.out.2.lt) 2
      have a3 : w10.cell? ⟨w6.heap.size, 3, none⟩ = some (.slice g4 C'.pend.length t4) := Laid.cell (HLL.out.1.below hb10 HLL.out.1.lt) 3
      have b3 : w10.cell? ⟨w8.heap.size, 3, none⟩ = some (.slice f4 C'.pend.length o4) := Laid.cell (HLL.out.2.below hb10 HLL.out.2.lt) 3
      have a4 : w10.cell? ⟨w6.heap.size, 4, none⟩ = some (.int .i64 4000) := Laid.cell (HLL.out.1.below hb10 HLL.out.1.lt) 4
      have b4 : w10.cell? ⟨w8.heap.size, 4, none⟩ = some (.int .i64 4000) := Laid.cell (HLL.out.2.below hb10 HLL.out.2.lt) 4
      have a6 : w10.cell? ⟨w6.heap.size, 6, none⟩ = some (.int .i64 cde) := Laid.cell (HLL.out.1.below hb10 HLL.out.1.lt) 6
      have b6 : w10.cell? ⟨w8.heap.size, 6, none⟩ = some (.int .i64 cde) := Laid.cell (HLL.out.2.below hb10 HLL.out.2.lt) 6
      have HB10 := hide hb10
      have IV10 := hide (IV.out w10 hb10)
      clear hb10 SD IV
      go_wp2_with fail
      refine IV10.out.mono ?_
      rintro e w11 ⟨r, rfl, hrv, hb11⟩
      obtain rfl : r = true := hrv.2 HVQ.out.1
      have hb911 := HB10.out.trans (hb11.mono HB10.out.size)
      have HS11 := hide (HS9.out.below hb911)
      have HZ11 := hide (HZ9.out.below hb911)
      have HU11 := hide (HU9.out.below hb911)
      clear a0 b0 a1 b1 a2 b2 a3 b3 a4 b4 a6 b6
      have a0 : w11.cell? ⟨w6.heap.size, 0, none⟩ = some (.slice g1 C'.nodes.length t1) := Laid.cell (HLL.out.1.below hb911 HLL.out.1.lt) 0
      have b0 : w11.cell? ⟨w8.heap.size, 0, none⟩ = some (.slice f1 C'.nodes.length o1) := Laid.cell (HLL.out.2.below hb911 HLL.out.2.lt) 0
      have a1 : w11.cell? ⟨w6.heap.size, 1, none⟩ = some (.slice g2 C'.names.length t2) := Laid.cell (HLL.out.1.below hb911 HLL.out.1.lt) 1
      have b1 : w11.cell? ⟨w8.heap.size, 1, none⟩ = some (.slice f2 C'.names.length o2) := Laid.cell (HLL.out.2.below hb911 HLL.out.2.lt) 1
      have a2 : w11.cell? ⟨w6.heap.size, 2, none⟩ = some (.slice g3 C'.kept.length t3) := Laid.cell (HLL.out.1.below hb911 HLL.out.1.lt) 2
      have b2 : w11.cell? ⟨w8.heap.size, 2, none⟩ = some (.slice f3 C'.kept.length o3) := Laid.cell (HLL.out.2.below hb911 HLL.out.2.lt) 2
      have a3 : w11.cell? ⟨w6.heap.size, 3, none⟩ = some (.slice g4 C'.pend.length t4) := Laid.cell (HLL.out.1.below hb911 HLL.out.1.lt) 3
      have b3 : w11.cell? ⟨w8.heap.size, 3, none⟩ = some (.slice f4 C'.pend.length o4) := Laid.cell (HLL.out.2.below hb911 HLL.out.2.lt) 3
      have a4 : w11.cell? ⟨w6.heap.size, 4, none⟩ = some (.int .i64 4000) := Laid.cell (HLL.out.1.below hb911 HLL.out.1.lt) 4
      have b4 : w11.cell? ⟨w8.heap.size, 4, none⟩ = some (.int .i64 4000) := Laid.cell (HLL.out.2.below hb911 HLL.out.2.lt) 4
      have a6 : w11.cell? ⟨w6.heap.size, 6, none⟩ = some (.int .i64 cde) := Laid.cell (HLL.out.1.below hb911 HLL.out.1.lt) 6
      have b6 : w11.cell? ⟨w8.heap.size, 6, none⟩ = some (.int .i64 cde) := Laid.cell (HLL.out.2.below hb911 HLL.out.2.lt) 6
      clear hb911 hb11 hrv IV10 HB10 HS9 HZ9 HU9
      have HN := hide (HS11.out.put HZ11.out HU11.out HVQ.out.1 HVQ.out.2)
      have d1 : ¬ w6.heap.size = w.heap.size := by omega
      have d2 : ¬ w.heap.size = w6.heap.size := by omega
      have d3 : ¬ w6.heap.size = w.heap.size + 1 := by omega
      have d4 : ¬ w.heap.size + 1 = w6.heap.size := by omega
      have d5 : ¬ w8.heap.size = w.heap.size := by omega
      have d6 : ¬ w.heap.size = w8.heap.size := by omega
      have d7 : ¬ w8.heap.size = w.heap.size + 1 := by omega
      have d8 : ¬ w.heap.size + 1 = w8.heap.size := by omega
      have e00 : w11.cell? ⟨w.heap.size, 0, none⟩ = some (.slice i1 C.nodes.length j1) := HS11.out.b5.cell 0
      have z00 := frozen_of_row w11 (w.heap.size) 0 _ _ HS11.out.b5
      have e01 : w11.cell? ⟨w.heap.size, 1, none⟩ = some (.slice i2 C.names.length j2) := HS11.out.b5.cell 1
      have z01 := frozen_of_row w11 (w.heap.size) 1 _ _ HS11.out.b5
      have e02 : w11.cell? ⟨w.heap.size, 2, none⟩ = some (.slice i3 C.kept.length j3) := HS11.out.b5.cell 2
      have z02 := frozen_of_row w11 (w.heap.size) 2 _ _ HS11.out.b5
      have e03 : w11.cell? ⟨w.heap.size, 3, none⟩ = some (.slice i4 C.pend.length j4) := HS11.out.b5.cell 3
      have z03 := frozen_of_row w11 (w.heap.size) 3 _ _ HS11.out.b5
      have e04 : w11.cell? ⟨w.heap.size, 4, none⟩ = some (.int .i64 4000) := HS11.out.b5.cell 4
      have z04 := frozen_of_row w11 (w.heap.size) 4 _ _ HS11.out.b5
      have e10 : w11.cell? ⟨w.heap.size + 1, 0, none⟩ = some (.slice r1 C.nodes.length s1) := HS11.out.b6.cell 0
      have z10 := frozen_of_row w11 (w.heap.size + 1) 0 _ _ HS11.out.b6
      have e11 : w11.cell? ⟨w.heap.size + 1, 1, none⟩ = some (.slice r2 C.names.length s2) := HS11.out.b6.cell 1
      have z11 := frozen_of_row w11 (w.heap.size + 1) 1 _ _ HS11.out.b6
      have e12 : w11.cell? ⟨w.heap.size + 1, 2, none⟩ = some (.slice r3 C.kept.length s3) := HS11.out.b6.cell 2
      have z12 := frozen_of_row w11 (w.heap.size + 1) 2 _ _ HS11.out.b6
      have e13 : w11.cell? ⟨w.heap.size + 1, 3, none⟩ = some (.slice r4 C.pend.length s4) := HS11.out.b6.cell 3
      have z13 := frozen_of_row w11 (w.heap.size + 1) 3 _ _ HS11.out.b6
      have e14 : w11.cell? ⟨w.heap.size + 1, 4, none⟩ = some (.int .i64 4000) := HS11.out.b6.cell 4
      have z14 := frozen_of_row w11 (w.heap.size + 1) 4 _ _ HS11.out.b6
      clear HS11 HZ11 HU11 HLL
      go_wp2
      go_roundw
      case rel => exact ⟨k + 1, _, _, _, _, _, _, _, _, C', by omega, by go_num, HN.out⟩
      case measure => simp [intOf]; omega
    · have hki : ¬ (k : Int) < (l.length : Int) := by omega
      obtain ⟨W0, hW0⟩ : ∃ W, W = wr := ⟨_, rfl⟩
      subst hW0
      have HNM := hide (fun w' (hb : Below W0.heap.size W0 w') => (OwnE.at hS.d6.e).below hb)
      have hnl : C.names.length ≤ 1048576 := (valid_modest hS.val).n2
      clear hS
      go_wp2
      go_loopw [13, 15, 85] (fun v _ i wv => ∃ (m : Nat) (vs2 : List V4), m ≤ C.names.length ∧ i = .int .i64 (m : Int) ∧ OwnV wv W0.heap.size v vs2 (syncOps (C.names.take m)) ∧ Below W0.heap.size W0 wv) (fun _ _ i _ => C.names.length - (intOf i).toNat)
      case atStart => exact ⟨0, [], Nat.zero_le _, rfl, ⟨rfl, World.ownsRow_nil _ _ _ 4, (fun i hi => by cases hi)⟩, Below.refl _ _⟩
      case round =>
        obtain ⟨m, vs2, hm, rfl, hV2, hbv⟩ := hrel
        obtain ⟨av2, cv2, rfl⟩ := hV2.slice
        by_cases hmt : m < C.names.length
        · have hmi : (m : Int) < (C.names.length : Int) := by omega
          obtain ⟨bn, on, rfl, hcn⟩ := HNM.out wr hbv (by omega)
          obtain ⟨c0, c1⟩ := hcn m hmt
          have HSN := hide (syncOps_snoc C.names m hmt)
          generalize C.names[m].1 = nm at c0 HSN
          generalize C.names[m].2 = nd at c1
          have hal := (Below.refl wr.heap.size wr).alloc (Nat.le_refl _) (.cells #[.string nm, .int .i64 nd] 37)
          have L0 := Laid.new wr #[.string nm, .int .i64 nd] 37
          have HV3 := hide (hV2.below' hal)
          have HBX := hide (hbv.trans (hal.mono hbv.size))
          clear hcn hV2 hbv hal
          go_upto_region 21 with fail
          generalize wr.alloc (.cells #[.string nm, .int .i64 nd] 37) = X at HV3 HBX L0 ⊢
          have t0 : X.cell? ⟨wr.heap.size, 0, none⟩ = some (.string nm) := L0.cell 0
          have hal2 := (Below.refl X.heap.size X).alloc (Nat.le_refl _) (.cells (four [(.int .i64 3, .string nm, .string noStr, .slice none 0 0)]).toArray 39)
          have HE1 := hide (HV3.out.below' hal2)
          have HE2 := hide (op_new X W0.heap.size 3 nm HBX.out.size)
          have HE3 := hide (HBX.out.trans (hal2.mono HBX.out.size))
          have HLN := hide (show (syncOps (C.names.take m)).length + 1 ≤ 1048576 from by simp [syncOps]; omega)
          clear hal2 L0
          go_wp2_with (at_builtin; (refine wpList_append_ops _ rfl (.tmp 89) (.tmp 93) rfl W0.heap.size (.slice av2 (syncOps (C.names.take m)).length cv2) vs2 (syncOps (C.names.take m)) rfl ?_ (.slice (some ⟨X.heap.size, 0, none⟩) 1 1) [(.int .i64 3, .string nm, .string noStr, .slice none 0 0)] [(3, nm, noStr, [])] rfl ?_ ?_ ?_ ?_ ?_; (exact HE1.out); (exact HE2.out); (exact Nat.succ_pos 0); (exact HLN.out); (exact HE3.out.size); intro v6 w6 h6 hg6; have HV6 := hide h6; have HB6 := hide (HE3.out.trans ((Below.refl _ _).grown hg6 HE3.out.size (fun k e => (own_ge HE1.out.row e).1))); clear h6 hg6))
          go_roundw
          case rel => exact ⟨m + 1, _, by omega, by go_num, by rw [HSN.out]; exact HV6.out, HB6.out⟩
          case measure => simp [intOf]; omega
        · have hmi : ¬ (m : Int) < (C.names.length : Int) := by omega
          have htk : C.names.take m = C.names := List.take_of_length_le (by omega)
          rw [htk] at hV2 ⊢
          have hal2 := (Below.refl wr.heap.size wr).alloc (Nat.le_refl _) (.cells (four [(.int .i64 6, .string noStr, .string noStr, .slice none 0 0)]).toArray 39)
          have HE1 := hide (hV2.below' hal2)
          have HE2 := hide (op_new wr W0.heap.size 6 noStr hbv.size)
          have HE3 := hide (hbv.trans (hal2.mono hbv.size))
          have HLN := hide (show (syncOps C.names).length + 1 ≤ 1048576 from by have := names_300 HS.out.val; simp [syncOps]; omega)
          clear hal2 hV2 hbv htk
          go_wp2_with (at_builtin; (refine wpList_append_ops _ rfl (.tmp 96) (.tmp 98) rfl W0.heap.size (.slice av2 (syncOps C.names).length cv2) vs2 (syncOps C.names) rfl ?_ (.slice (some ⟨wr.heap.size, 0, none⟩) 1 1) [(.int .i64 6, .string noStr, .string noStr, .slice none 0 0)] [(6, noStr, noStr, [])] rfl ?_ ?_ ?_ ?_ ?_; (exact HE1.out); (exact HE2.out); (exact Nat.succ_pos 0); (exact HLN.out); (exact HE3.out.size); intro v6 w6 h6 hg6; have HV6 := hide h6; have HB6 := hide (HE3.out.trans ((Below.refl _ _).grown hg6 HE3.out.size (fun k e => (own_ge HE1.out.row e).1))); clear h6 hg6))
          have hw6 := HS.out.bel.trans (HB6.out.mono HS.out.bel.size)
          have PK := hide (drawPicks_in (w := w6) (a := am) (cap := cm) (code := more) ⟨by omega, HRM.out w6 hw6, HBM.out⟩)
          refine PK.out.mono ?_
          rintro e w7 ⟨dr, pv, pl, rfl, hd0, hd8, hpz, hpl4, hb7⟩
          obtain ⟨ap, cp, rfl⟩ := hpz.slice
          obtain ⟨a6, c6, rfl⟩ := HV6.out.slice
          have hb07 := HB6.out.trans (hb7.mono HB6.out.size)
          have HS7 := hide (HS.out.below hb07)
          have HPZ := hide hpz
          have HB7 := hide hb07
          have hat7 : DiskAt w7 (.agg #[.slice i1 C.nodes.length j1, .slice i2 C.names.length j2, .slice i3 C.kept.length j3, .slice i4 C.pend.length j4, .int .i64 4000]) C := by have h := HS7.out.d5.own.at; rw [HS7.out.q] at h; exact h
          have hop7 := (HV6.out.below' hb7).at
          have LS := last_size C HS.out.val
          have DO := hide (implDo_any _ C a6 c6 (lastOps C.names) w7 (HEG.out w7 HS7.out.bel) (valid_modest HS.out.val) (valid_wf HS.out.val) hat7 (by have := LS.1; omega) LS.2 hop7)
          rw [doOf_last HS.out.val] at DO
          have p0 : w7.cell? ⟨w.heap.size, 0, none⟩ = some (.slice i1 C.nodes.length j1) := HS7.out.b5.cell 0
          have p1 : w7.cell? ⟨w.heap.size, 1, none⟩ = some (.slice i2 C.names.length j2) := HS7.out.b5.cell 1
          have p2 : w7.cell? ⟨w.heap.size, 2, none⟩ = some (.slice i3 C.kept.length j3) := HS7.out.b5.cell 2
          have p3 : w7.cell? ⟨w.heap.size, 3, none⟩ = some (.slice i4 C.pend.length j4) := HS7.out.b5.cell 3
          have p4 : w7.cell? ⟨w.heap.size, 4, none⟩ = some (.int .i64 4000) := HS7.out.b5.cell 4
          clear hw6 PK hpz hb7 hb07 hat7 hop7 LS
          have hlen : (lastOps C.names).length = (syncOps C.names).length + 1 := by rw [lastOps_is, List.length_append]; rfl
          rw [hlen] at DO
          clear hlen
          go_wp2_with fail
          refine DO.out.mono ?_
          rintro e w8 ⟨u1, u2, u3, u4, us, rfl, hu8, hb8⟩
          have hk8 := hu8.dk
          have HSQ := hide (show (setOf C).quota = 4000 from (set_quota C).trans HS.out.q)
          have HSV := hide (set_valid HS.out.val)
          have HSC := hide (set_crash HS.out.val dr pl)
          have HSN := hide (set_names C)
          have HSR := hide (fun (m : Nat) (hm : m < C.names.length) => rd_settled HS.out.val m hm)
          generalize setOf C = S at HSQ HSV HSC HSN HSR hk8 ⊢
          obtain ⟨f1, o1, rfl⟩ := hk8.n.slice
          obtain ⟨f2, o2, rfl⟩ := hk8.e.slice
          obtain ⟨f3, o3, rfl⟩ := hk8.k.slice
          obtain ⟨f4, o4, rfl⟩ := hk8.p.slice
          simp only [HSQ.out]
          have hal9 := (Below.refl w8.heap.size w8).alloc (Nat.le_refl _) (.cells #[.slice f1 S.nodes.length o1, .slice f2 S.names.length o2, .slice f3 S.kept.length o3, .slice f4 S.pend.length o4, .int .i64 4000] 27)
          have L9 := Laid.new w8 #[.slice f1 S.nodes.length o1, .slice f2 S.names.length o2, .slice f3 S.kept.length o3, .slice f4 S.pend.length o4, .int .i64 4000] 27
          have hb9 := hb8.trans (hal9.mono hb8.size)
          have HS9 := hide (HS7.out.below hb9)
          have HK9 := hide (hk8.below hal9)
          have HP9 := hide ((OwnZ.at HPZ.out).below hb9)
          clear p0 p1 p2 p3 p4 hu8 hb8 hk8 hal9 hb9 DO HS7 HPZ HB7
          have hfd : ∀ (x1 x2 x3 x4 x5 x6 x7 : Value) (w : World), (Instr.field 32 (.agg #[x1, x2, x3, x4, x5, x6, x7]) 0).run Tryz.prog w = .ok (.agg #[x1, x2, x3, x4, x5]) w := fun _ _ _ _ _ _ _ _ => by kernel_rfl
          go_upto_region 26 with fail
          clear hfd
          generalize w8.alloc (.cells #[.slice f1 S.nodes.length o1, .slice f2 S.names.length o2, .slice f3 S.kept.length o3, .slice f4 S.pend.length o4, .int .i64 4000] 27) = W9 at L9 HS9 HK9 HP9 ⊢
          have hat9 : DiskAt W9 (.agg #[.slice f1 S.nodes.length o1, .slice f2 S.names.length o2, .slice f3 S.kept.length o3, .slice f4 S.pend.length o4, .int .i64 4000]) S := by have h := HK9.out.own.at; rw [HSQ.out] at h; exact h
          have CR := hide (implCrash_any _ S dr ap cp pl W9 (valid_modest HSV.out) (valid_wf HSV.out) hat9 HK9.out.cap (by omega) HP9.out)
          rw [HSC.out] at CR
          have p0 : W9.cell? ⟨w8.heap.size, 0, none⟩ = some (.slice f1 S.nodes.length o1) := L9.cell 0
          have p1 : W9.cell? ⟨w8.heap.size, 1, none⟩ = some (.slice f2 S.names.length o2) := L9.cell 1
          have p2 : W9.cell? ⟨w8.heap.size, 2, none⟩ = some (.slice f3 S.kept.length o3) := L9.cell 2
          have p3 : W9.cell? ⟨w8.heap.size, 3, none⟩ = some (.slice f4 S.pend.length o4) := L9.cell 3
          have p4 : W9.cell? ⟨w8.heap.size, 4, none⟩ = some (.int .i64 4000) := L9.cell 4
          clear hat9 HP9 HSC L9 HK9
          go_wp2_with fail
          refine CR.out.mono ?_
          rintro e w10 ⟨k1, k2, k3, k4, ks, rfl, hu10, hb10⟩
          have hk10 := hu10.dk
          obtain ⟨g1, t1, rfl⟩ := hk10.n.slice
          obtain ⟨g2, t2, rfl⟩ := hk10.e.slice
          obtain ⟨g3, t3, rfl⟩ := hk10.k.slice
          obtain ⟨g4, t4, rfl⟩ := hk10.p.slice
          simp only [HSQ.out, HSN.out]
          have hal11 := (Below.refl w10.heap.size w10).alloc (Nat.le_refl _) (.cells #[.slice g1 S.nodes.length t1, .slice g2 C.names.length t2, .slice g3 S.kept.length t3, .slice g4 S.pend.length t4, .int .i64 4000] 27)
          have L11 := Laid.new w10 #[.slice g1 S.nodes.length t1, .slice g2 C.names.length t2, .slice g3 S.kept.length t3, .slice g4 S.pend.length t4, .int .i64 4000] 27
          have hb11 := hb10.trans (hal11.mono hb10.size)
          have HS11 := hide (HS9.out.below hb11)
          have HK11 := hide (hk10.below hal11)
          clear p0 p1 p2 p3 p4 hu10 hb10 hk10 hal11 hb11 CR HS9
          go_upto_region 27 with fail
          generalize w10.alloc (.cells #[.slice g1 S.nodes.length t1, .slice g2 C.names.length t2, .slice g3 S.kept.length t3, .slice g4 S.pend.length t4, .int .i64 4000] 27) = W11 at L11 HS11 HK11 ⊢
          have hat11 : DiskAt W11 (.agg #[.slice g1 S.nodes.length t1, .slice g2 C.names.length t2, .slice g3 S.kept.length t3, .slice g4 S.pend.length t4, .int .i64 4000]) S := by have h := HK11.out.own.at; rw [HSQ.out, HSN.out] at h; exact h
          have IV := hide (implValid_v hat11 (valid_modest HSV.out) (valid_wf HSV.out))
          have p0 : W11.cell? ⟨w10.heap.size, 0, none⟩ = some (.slice g1 S.nodes.length t1) := L11.cell 0
          have p1 : W11.cell? ⟨w10.heap.size, 1, none⟩ = some (.slice g2 C.names.length t2) := L11.cell 1
          have p2 : W11.cell? ⟨w10.heap.size, 2, none⟩ = some (.slice g3 S.kept.length t3) := L11.cell 2
          have p3 : W11.cell? ⟨w10.heap.size, 3, none⟩ = some (.slice g4 S.pend.length t4) := L11.cell 3
          have p4 : W11.cell? ⟨w10.heap.size, 4, none⟩ = some (.int .i64 4000) := L11.cell 4
          have q1 : W11.cell? ⟨w.heap.size + 1, 1, none⟩ = some (.slice r2 C.names.length s2) := HS11.out.b6.cell 1
          have HL11 := hide L11
          clear L11
          go_wp2_with fail
          refine IV.out.mono ?_
          rintro e w12 ⟨r, rfl, hrv, hb12⟩
          obtain rfl : r = true := hrv.2 HSV.out
          have HS12 := hide (HS11.out.below hb12)
          have HAT := hide (hat11.below hb12)
          have HL12 := hide (HL11.out.below hb12 HL11.out.lt)
          clear p0 p1 p2 p3 p4 q1 hrv hb12 hat11 HL11 HS11 HK11 IV
          have p4 : w12.cell? ⟨w10.heap.size, 4, none⟩ = some (.int .i64 4000) := HL12.out.cell 4
          have q1 : w12.cell? ⟨w.heap.size + 1, 1, none⟩ = some (.slice r2 C.names.length s2) := HS12.out.b6.cell 1
          go_wp2
          go_loopw [21, 22, 133] (fun _ _ i wv => ∃ (m : Nat), m ≤ C.names.length ∧ i = .int .i64 (m : Int) ∧ Below w12.heap.size w12 wv) (fun _ _ i _ => C.names.length - (intOf i).toNat)
          case atStart => exact ⟨0, Nat.zero_le _, rfl, Below.refl _ _⟩
          case round =>
            obtain ⟨m, hm, rfl, hbv⟩ := hrel
            by_cases hmt : m < C.names.length
            · have hmi : (m : Int) < (C.names.length : Int) := by omega
              have hSv := HS12.out.below hbv
              obtain ⟨bn, on, rfl, hcn⟩ := OwnE.at hSv.d6.e (by omega)
              obtain ⟨c0, c1⟩ := hcn m hmt
              obtain ⟨k, bk, ok, ai, ci, hk2, hkl, rfl, hnc, hnr⟩ := node_at (OwnN.at hSv.d6.n) HS12.out.val m hmt
              have HRD := hide (HSR.out m hmt)
              generalize (nodeOf C.nodes C.names[m]).1 = dat at hnc hnr HRD
              rw [hk2] at c1
              generalize C.names[m].1 = nm at c0 HRD
              have hal := (Below.refl wr.heap.size wr).alloc (Nat.le_refl _) (.cells #[.string nm, .int .i64 (k : Int)] 37)
              have L0 := Laid.new wr #[.string nm, .int .i64 (k : Int)] 37
              have HBX := hide (hbv.trans (hal.mono hbv.size))
              have HNC := hide ((hal.cell (p := ⟨bk, ok + k * 2, none⟩) (lt_cell hnc)).trans hnc)
              have HNR := hide (hnr.below hal)
              clear p4 q1 hcn hk2 hnc hnr hal hSv
              go_upto_region 32 with fail
              generalize wr.alloc (.cells #[.string nm, .int .i64 (k : Int)] 37) = X at HBX L0 HNC HNR ⊢
              have hXl := L0.lt
              have HL0 := hide L0
              have HLX := hide (HL12.out.below HBX.out HL12.out.lt)
              have RD := hide (implRead_any _ S nm X (valid_modest HSV.out) (valid_wf HSV.out) (HAT.out.below HBX.out))
              rw [HRD.out] at RD
              have p0 : X.cell? ⟨w10.heap.size, 0, none⟩ = some (.slice g1 S.nodes.length t1) := HLX.out.cell 0
              have p1 : X.cell? ⟨w10.heap.size, 1, none⟩ = some (.slice g2 C.names.length t2) := HLX.out.cell 1
              have p2 : X.cell? ⟨w10.heap.size, 2, none⟩ = some (.slice g3 S.kept.length t3) := HLX.out.cell 2
              have p3 : X.cell? ⟨w10.heap.size, 3, none⟩ = some (.slice g4 S.pend.length t4) := HLX.out.cell 3
              have p4 : X.cell? ⟨w10.heap.size, 4, none⟩ = some (.int .i64 4000) := HLX.out.cell 4
              have e0 : X.cell? ⟨wr.heap.size, 0, none⟩ = some (.string nm) := HL0.out.cell 0
              clear L0 c0 c1 hbv HRD
              go_wp2_with fail
              refine RD.out.mono ?_
              rintro e Y ⟨vv, rfl, hov, hbY⟩
              obtain ⟨ay, cy, rfl⟩ := OwnB.slice hov
              have halZ := (Below.refl Y.heap.size Y).alloc (Nat.le_refl _) (.cells #[.bool true, .slice ay dat.length cy] 45)
              have LZ := Laid.new Y #[.bool true, .slice ay dat.length cy] 45
              have hXZ := hbY.trans (halZ.mono hbY.size)
              have HBZ := hide (HBX.out.trans (hXZ.mono HBX.out.size))
              have HE1 := hide (HL0.out.below hXZ HL0.out.lt)
              have HNC2 := hide ((hXZ.cell (p := ⟨bk, ok + k * 2, none⟩) (lt_cell HNC.out)).trans HNC.out)
              have HNR2 := hide (HNR.out.below hXZ)
              have HOY := hide (hov.row.below halZ)
              clear p0 p1 p2 p3 p4 e0 hov hbY halZ hXZ HBX HL0 HNC HNR HLX RD
              go_upto_region 33 with fail
              generalize Y.alloc (.cells #[.bool true, .slice ay dat.length cy] 45) = Z at LZ HBZ HE1 HNC2 HNR2 HOY ⊢
              have z0 : Z.cell? ⟨Y.heap.size, 0, none⟩ = some (.bool true) := LZ.cell 0
              have z1 : Z.cell? ⟨Y.heap.size, 1, none⟩ = some (.slice ay dat.length cy) := LZ.cell 1
              have q0 : Z.cell? ⟨w.heap.size + 1, 0, none⟩ = some (.slice (some ⟨bk, ok, none⟩) C.nodes.length s1) := (HS12.out.below HBZ.out).b6.cell 0
              have e1 : Z.cell? ⟨wr.heap.size, 1, none⟩ = some (.int .i64 (k : Int)) := HE1.out.cell 1
              have n0 : Z.cell? ⟨bk, ok + k * 2, none⟩ = some (.slice ai dat.length ci) := HNC2.out
              have SB := hide (fun (n : Nat) => sameBytes_any ay ai cy ci dat (Z.drewN n) HOY.out HNR2.out)
              have hkli : (k : Int) < (C.nodes.length : Int) := by omega
              clear LZ HE1 HNC2 HNR2 HOY
              generalize dat.length = dl at z1 n0 SB
              go_quiet ((go_at_call 12; first | exact quiet_same0 (SB.out _) | exact quiet_same (SB.out _)))
              have HBF := hide (fun n => drewN_bel HBZ.out n)
              clear z0 z1 q0 e1 n0 SB HBZ
              go_wp2
              go_roundw
              case rel => exact ⟨m + 1, by omega, by go_num, HBF.out _⟩
              case measure => simp [intOf]; omega
            · have hmi : ¬ (m : Int) < (C.names.length : Int) := by omega
              have HBE := hide (HS12.out.bel.trans (hbv.mono HS12.out.bel.size))
              clear hbv
              go_wp2
              go_ret
              exact ⟨rfl, HBE.out⟩
end Go.Proofs.YtpccongphchagaaGreatDoor
