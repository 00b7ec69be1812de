import Derived.Test.YtledlicandlekaaImplValid
import Derived.Test.YtledlicandlekaaEntries
import Derived.Test.YtledlicandlekaaDiskEq4
namespace Go.Proofs.Ytledlicandlekaa
open Go.RowKit Go.Maps
theorem mem_sumE : ∀ {es : List (ByteArray × Int)} {e : ByteArray × Int}, e ∈ es → e.1.size ≤ sumE es
  | x :: r, e, h => by
    rcases List.mem_cons.1 h with rfl | h
    · simp only [sumE]; omega
    · have := mem_sumE h; simp only [sumE]; omega
theorem mem_sumO : ∀ {es : List (Int × ByteArray × ByteArray × Int)} {e : Int × ByteArray × ByteArray × Int}, e ∈ es → e.2.1.size + e.2.2.1.size ≤ sumO es
  | x :: r, e, h => by
    rcases List.mem_cons.1 h with rfl | h
    · simp only [sumO]; omega
    · have := mem_sumO h; simp only [sumO]; omega
/-- What the readers ask of a disk that came in. -/
structure InDisk (w : World) (v : Value) (D : MDisk) : Prop where
  at_ : DiskAt w v D
  n1 : D.nodes.length ≤ 9223372036854775807
  n2 : D.names.length ≤ 9223372036854775807
  n3 : D.kept.length ≤ 9223372036854775807
  n4 : D.pend.length ≤ 9223372036854775807
  h1 : ∀ e ∈ D.nodes, e.1.length ≤ 9223372036854775807
  h2 : ∀ e ∈ D.names, e.1.size ≤ 9223372036854775807
  h3 : ∀ e ∈ D.kept, e.1.size ≤ 9223372036854775807
  h4 : ∀ e ∈ D.pend, e.2.1.size ≤ 9223372036854775807 ∧ e.2.2.1.size ≤ 9223372036854775807
  wf : ∀ o ∈ D.pend, (Lit.int .i64 o.2.2.2).wf = true
def szOf (D : MDisk) : Nat := szD D.nodes D.names D.kept D.pend
theorem modest_of {D : MDisk} (h : szOf D ≤ 1048576) : Modest D := by
  unfold szOf szD at h
  exact ⟨by omega, by omega, by omega, by omega, by omega, fun e he => by have := mem_sumE he; omega, fun e he => by have := mem_sumE he; omega, fun o ho => by have := mem_sumO ho; omega⟩
theorem nodes_small {D : MDisk} (h : szOf D ≤ 1048576) : ∀ e ∈ D.nodes, e.1.length ≤ 1048576 := fun e he => by
  have := node_le D.nodes e he
  unfold szOf szD at h
  omega
theorem szDisk_v {w : World} {v : Value} {D : MDisk} (h : InDisk w v D) :
    Calls Try.prog 4 #[v, .int .i64 1048576] w fun e w' => e = .returned (.int .i64 (szRest 1048576 (szOf D))) ∧ Below w.heap.size w w' := by
  obtain ⟨⟨a1, c1, a2, c2, a3, c3, a4, c4, rfl, r1, r2, r3, r4⟩, n1, n2, n3, n4, h1, h2, h3, h4, wf⟩ := h
  exact szDisk_any a1 a2 a3 a4 c1 c2 c3 c4 D.quota D.nodes D.names D.kept D.pend w n1 n2 n3 n4 h1 h2 h3 h4 r1 r2 r3 r4
theorem specValid_v {w : World} {v : Value} {D : MDisk} (h : DiskAt w v D) (hM : Modest D) : Calls Try.prog 5 #[v] w (ValPost w (ValidD D)) := by
  obtain ⟨a1, c1, a2, c2, a3, c3, a4, c4, rfl, r1, r2, r3, r4⟩ := h
  exact specValid_any a1 a2 a3 a4 c1 c2 c3 c4 D w hM r1 r2 r3 r4
theorem implValid_v {w : World} {v : Value} {D : MDisk} (h : DiskAt w v D) (hM : Modest D) (hw : ∀ o ∈ D.pend, (Lit.int .i64 o.2.2.2).wf = true) : Calls Try.prog 7 #[v] w (ValPost w (ValidD D)) := by
  obtain ⟨a1, c1, a2, c2, a3, c3, a4, c4, rfl, r1, r2, r3, r4⟩ := h
  exact implValid_any entries_holds a1 a2 a3 a4 c1 c2 c3 c4 D w hM hw r1 r2 r3 r4
theorem InDisk.below {w w' : World} {v : Value} {D : MDisk} (h : InDisk w v D) (hb : Below w.heap.size w w') : InDisk w' v D := { h with at_ := h.at_.below hb }
theorem InDisk.shape {w : World} {v : Value} {D : MDisk} (h : InDisk w v D) : ∃ a1 m1 c1 a2 m2 c2 a3 m3 c3 a4 m4 c4 q, v = .agg #[.slice a1 m1 c1, .slice a2 m2 c2, .slice a3 m3 c3, .slice a4 m4 c4, .int .i64 q] := by
  obtain ⟨⟨a1, c1, a2, c2, a3, c3, a4, c4, rfl, _⟩, _⟩ := h
  exact ⟨_, _, _, _, _, _, _, _, _, _, _, _, _, rfl⟩
theorem DiskAt.shape {w : World} {v : Value} {D : MDisk} (h : DiskAt w v D) : ∃ a1 m1 c1 a2 m2 c2 a3 m3 c3 a4 m4 c4 q, v = .agg #[.slice a1 m1 c1, .slice a2 m2 c2, .slice a3 m3 c3, .slice a4 m4 c4, .int .i64 q] := by
  obtain ⟨a1, c1, a2, c2, a3, c3, a4, c4, rfl, _⟩ := h
  exact ⟨_, _, _, _, _, _, _, _, _, _, _, _, _, rfl⟩
set_option maxRecDepth 20000 in
set_option maxHeartbeats 1000000 in
theorem valid_law {w : World} {v : Value} {D : MDisk} (h : InDisk w v D) :
    Calls Try.prog 3 #[v] w fun e w' => e = .returned (.bool true) ∧ Below w.heap.size w w' := by
  have HSZ := hide (fun w' (hb : Below w.heap.size w w') => szDisk_v (h.below hb))
  have HAT := hide (fun w' (hb : Below w.heap.size w w') => h.at_.below hb)
  have HWF := hide h.wf
  obtain ⟨a1, m1, c1, a2, m2, c2, a3, m3, c3, a4, m4, c4, q, hv⟩ := h.shape
  have HV := hide hv
  clear h
  subst hv
  have hA := (Below.refl w.heap.size w).alloc (Nat.le_refl _) (.cells #[.slice a1 m1 c1, .slice a2 m2 c2, .slice a3 m3 c3, .slice a4 m4 c4, .int .i64 q] 26)
  have L0 := Laid.new w #[.slice a1 m1 c1, .slice a2 m2 c2, .slice a3 m3 c3, .slice a4 m4 c4, .int .i64 q] 26
  go_enter Try.func3, Try.ntmps3
  go_wp2_with fail
  generalize w.alloc (.cells #[.slice a1 m1 c1, .slice a2 m2 c2, .slice a3 m3 c3, .slice a4 m4 c4, .int .i64 q] 26) = w0 at hA L0 ⊢
  refine (HSZ.out w0 hA).mono ?_
  rintro e w1 ⟨rfl, hb1⟩
  have HB1 := hide (hA.trans (hb1.mono hA.size))
  have L1 := L0.below hb1 L0.lt
  have t0 : w1.cell? ⟨w.heap.size, 0, none⟩ = some (.slice a1 m1 c1) := L1.cell 0
  have t1 : w1.cell? ⟨w.heap.size, 1, none⟩ = some (.slice a2 m2 c2) := L1.cell 1
  have t2 : w1.cell? ⟨w.heap.size, 2, none⟩ = some (.slice a3 m3 c3) := L1.cell 2
  have t3 : w1.cell? ⟨w.heap.size, 3, none⟩ = some (.slice a4 m4 c4) := L1.cell 3
  have t4 : w1.cell? ⟨w.heap.size, 4, none⟩ = some (.int .i64 q) := L1.cell 4
  clear L0 hA hb1
  by_cases hbig : 1048576 < szOf D
  · rw [szRest_neg hbig]
    go_wp2
    go_ret
    exact ⟨rfl, HB1.out⟩
  · have hsm : szOf D ≤ 1048576 := by omega
    have HM := hide (modest_of hsm)
    have HNS := hide (nodes_small hsm)
    rw [szRest_pos hsm]
    have hpos : ¬ ((1048576 : Nat) : Int) - (szOf D : Int) < 0 := by omega
    generalize ((1048576 : Nat) : Int) - (szOf D : Int) = rest at hpos ⊢
    clear hbig hsm HSZ
    go_wp2_with fail
    refine (toDisk_any _ D w1 HM.out.n1 HM.out.n2 HM.out.n3 HM.out.n4 HNS.out (HAT.out w1 HB1.out)).mono ?_
    rintro e w2 ⟨x, rfl, ho2, hb2⟩
    have L2 := L1.below hb2 L1.lt
    have HB2 := hide (HB1.out.trans (hb2.mono HB1.out.size))
    have HD2 := hide ho2.at
    clear ho2 hb2 t0 t1 t2 t3 t4 L1
    go_wp2_with fail
    refine (specValid_v HD2.out HM.out).mono ?_
    rintro e w3 ⟨r, rfl, hrr, hb3⟩
    have L3 := L2.below hb3 L2.lt
    have HB3 := hide (HB2.out.trans (hb3.mono HB2.out.size))
    have HRR := hide hrr
    have t0 : w3.cell? ⟨w.heap.size, 0, none⟩ = some (.slice a1 m1 c1) := L3.cell 0
    have t1 : w3.cell? ⟨w.heap.size, 1, none⟩ = some (.slice a2 m2 c2) := L3.cell 1
    have t2 : w3.cell? ⟨w.heap.size, 2, none⟩ = some (.slice a3 m3 c3) := L3.cell 2
    have t3 : w3.cell? ⟨w.heap.size, 3, none⟩ = some (.slice a4 m4 c4) := L3.cell 3
    have t4 : w3.cell? ⟨w.heap.size, 4, none⟩ = some (.int .i64 q) := L3.cell 4
    clear L2 hb3 HD2 hrr
    go_wp2_with fail
    refine (toDisk_any _ D w3 HM.out.n1 HM.out.n2 HM.out.n3 HM.out.n4 HNS.out (HAT.out w3 HB3.out)).mono ?_
    rintro e w4 ⟨x4, rfl, ho4, hb4⟩
    have L4 := L3.below hb4 L3.lt
    have HB4 := hide (HB3.out.trans (hb4.mono HB3.out.size))
    have HD4 := hide ho4.at
    obtain ⟨e1, k1, d1, e2, k2, d2, e3, k3, d3, e4, k4, d4, q4, hx4⟩ := ho4.at.shape
    clear ho4 hb4 t0 t1 t2 t3 t4 L3
    subst hx4
    have hA5 := (Below.refl w4.heap.size w4).alloc (Nat.le_refl _) (.cells #[.slice e1 k1 d1, .slice e2 k2 d2, .slice e3 k3 d3, .slice e4 k4 d4, .int .i64 q4] 33)
    have X5 := Laid.new w4 #[.slice e1 k1 d1, .slice e2 k2 d2, .slice e3 k3 d3, .slice e4 k4 d4, .int .i64 q4] 33
    have L5 := L4.below hA5 L4.lt
    go_wp2_with fail
    generalize w4.alloc (.cells #[.slice e1 k1 d1, .slice e2 k2 d2, .slice e3 k3 d3, .slice e4 k4 d4, .int .i64 q4] 33) = w5 at hA5 X5 L5 ⊢
    have HB5 := hide (HB4.out.trans (hA5.mono HB4.out.size))
    have HD5 := hide (HD4.out.below hA5)
    clear hA5 L4
    refine (implValid_v HD5.out HM.out HWF.out).mono ?_
    rintro e w6 ⟨r2, rfl, hr2, hb6⟩
    have hrr2 : r2 = r := by
      cases r <;> cases r2
      · rfl
      · exact (HRR.out.2 (hr2.1 rfl)).symm
      · exact hr2.2 (HRR.out.1 rfl)
      · rfl
    subst hrr2
    have X6 := X5.below hb6 X5.lt
    have L6 := L5.below hb6 L5.lt
    have HB6 := hide (HB5.out.trans (hb6.mono HB5.out.size))
    have HD6 := hide (HD5.out.below hb6)
    clear hr2 hb6 X5 L5 HD5 HD4 HRR
    go_wp2
    have s0 : w6.cell? ⟨w4.heap.size, 0, none⟩ = some (.slice e1 k1 d1) := X6.cell 0
    have s1 : w6.cell? ⟨w4.heap.size, 1, none⟩ = some (.slice e2 k2 d2) := X6.cell 1
    have s2 : w6.cell? ⟨w4.heap.size, 2, none⟩ = some (.slice e3 k3 d3) := X6.cell 2
    have s3 : w6.cell? ⟨w4.heap.size, 3, none⟩ = some (.slice e4 k4 d4) := X6.cell 3
    have s4 : w6.cell? ⟨w4.heap.size, 4, none⟩ = some (.int .i64 q4) := X6.cell 4
    have t0 : w6.cell? ⟨w.heap.size, 0, none⟩ = some (.slice a1 m1 c1) := L6.cell 0
    have t1 : w6.cell? ⟨w.heap.size, 1, none⟩ = some (.slice a2 m2 c2) := L6.cell 1
    have t2 : w6.cell? ⟨w.heap.size, 2, none⟩ = some (.slice a3 m3 c3) := L6.cell 2
    have t3 : w6.cell? ⟨w.heap.size, 3, none⟩ = some (.slice a4 m4 c4) := L6.cell 3
    have t4 : w6.cell? ⟨w.heap.size, 4, none⟩ = some (.int .i64 q) := L6.cell 4
    have HTO := hide (fun (X : World) (hX : Below w6.heap.size w6 X) => toDisk_any _ D X HM.out.n1 HM.out.n2 HM.out.n3 HM.out.n4 HNS.out (HAT.out X (HB6.out.trans (hX.mono HB6.out.size))))
    clear X6 L6
    go_region_with (first
      | (go_at_call 6; refine (HTO.out _ (Below.refl _ _).drew).mono ?_; rintro e w7 ⟨x7, rfl, ho7, hb7⟩; have z0 : w7.cell? ⟨w4.heap.size, 0, none⟩ = some (.slice e1 k1 d1) := (hb7.cell (p := ⟨w4.heap.size, 0, none⟩) (lt_of_cell0 s0)).trans s0; have z1 : w7.cell? ⟨w4.heap.size, 1, none⟩ = some (.slice e2 k2 d2) := (hb7.cell (p := ⟨w4.heap.size, 1, none⟩) (lt_of_cell0 s1)).trans s1; have z2 : w7.cell? ⟨w4.heap.size, 2, none⟩ = some (.slice e3 k3 d3) := (hb7.cell (p := ⟨w4.heap.size, 2, none⟩) (lt_of_cell0 s2)).trans s2; have z3 : w7.cell? ⟨w4.heap.size, 3, none⟩ = some (.slice e4 k4 d4) := (hb7.cell (p := ⟨w4.heap.size, 3, none⟩) (lt_of_cell0 s3)).trans s3; have z4 : w7.cell? ⟨w4.heap.size, 4, none⟩ = some (.int .i64 q4) := (hb7.cell (p := ⟨w4.heap.size, 4, none⟩) (lt_of_cell0 s4)).trans s4; have HB67 := hide (((Below.refl w6.heap.size w6).drew).trans hb7); have HO7 := hide ho7.at; clear ho7 hb7)
      | (go_at_call 8; refine (eqDisk_same _ _ D w7 HM.out.n1 HM.out.n2 HM.out.n3 HM.out.n4 HNS.out (HD6.out.below HB67.out) HO7.out).mono ?_; rintro e w8 ⟨rfl, hb8⟩; have HB8 := hide hb8; clear hb8))
    all_goals
      have hb68 := HB6.out.trans (HB67.out.mono HB6.out.size)
      have HB9 := hide (hb68.trans (HB8.out.mono hb68.size))
      clear hb68
      go_wp2
      go_ret
      exact ⟨rfl, HB9.out⟩
end Go.Proofs.Ytledlicandlekaa
