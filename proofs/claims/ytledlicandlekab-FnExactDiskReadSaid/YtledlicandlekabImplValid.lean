import Derived.Test.YtledlicandlekabPendW
namespace Go.Proofs.Ytledlicandlekab
open Go.RowKit Go.Maps
theorem okNodes_len {ns : List (List Nat × Int)} (h : okNodes ns = true) : ns.length ≤ 600 := (of_decide_eq_true h).1
set_option maxRecDepth 20000 in
set_option maxHeartbeats 1000000 in
theorem implValid_any (HE : EntriesLaw) (a1 a2 a3 a4 : Option Addr) (c1 c2 c3 c4 : Nat) (D : MDisk) (w : World) (hM : Modest D) (hw4 : ∀ o ∈ D.pend, (Lit.int .i64 o.2.2.2).wf = true) (h1 : NodeAt w a1 D.nodes) (h2 : EntAt w a2 D.names) (h3 : EntAt w a3 D.kept) (h4 : OpAt w a4 D.pend) :
    Calls Try.prog 29 #[.agg #[.slice a1 D.nodes.length c1, .slice a2 D.names.length c2, .slice a3 D.kept.length c3, .slice a4 D.pend.length c4, .int .i64 D.quota]] w (ValPost w (ValidD D)) := by
  have hB0 : Below w.heap.size w (w.alloc (.cells #[.slice a1 D.nodes.length c1, .slice a2 D.names.length c2, .slice a3 D.kept.length c3, .slice a4 D.pend.length c4, .int .i64 D.quota] 36)) := (Below.refl _ _).alloc (Nat.le_refl _) _
  have L0 := Laid.new w #[.slice a1 D.nodes.length c1, .slice a2 D.names.length c2, .slice a3 D.kept.length c3, .slice a4 D.pend.length c4, .int .i64 D.quota] 36
  obtain ⟨ns, nm, kp, pd, qt⟩ := D
  obtain ⟨m1, m2, m3, m4, msum, ms2, ms3, ms4⟩ := hM
  simp only at m1 m2 m3 m4 msum ms2 ms3 ms4 h1 h2 h3 h4 hB0 L0 hw4 ⊢
  have HV := hide (show ValidD ⟨ns, nm, kp, pd, qt⟩ = (0 ≤ qt ∧ qt ≤ 1000000 ∧ pd.length ≤ 1000 ∧ okNodes ns = true ∧ okList (ns.length : Int) nm = true ∧ okList (ns.length : Int) kp = true ∧ repAll (ns.length : Int) kp pd = some nm) from rfl)
  generalize ValidD ⟨ns, nm, kp, pd, qt⟩ = V at HV ⊢
  have HS2 := hide ms2
  have HS3 := hide ms3
  have HS4 := hide ms4
  have HW4 := hide hw4
  have HH1 := hide (h1.below hB0)
  have HH2 := hide (h2.below hB0)
  have HH3 := hide (h3.below hB0)
  have HH4 := hide (h4.below hB0)
  have HB0 := hide hB0
  have HL0 := hide L0
  clear ms2 ms3 ms4 h1 h2 h3 h4 hB0 L0 hw4
  by_cases g1 : 0 ≤ qt
  · by_cases g2 : qt ≤ 1000000
    · go_enter Try.func29, Try.ntmps29
      go_wp2_with fail
      generalize w.alloc (.cells #[.slice a1 ns.length c1, .slice a2 nm.length c2, .slice a3 kp.length c3, .slice a4 pd.length c4, .int .i64 qt] 36) = W0 at HH1 HH2 HH3 HH4 HB0 HL0 ⊢
      have hlt0 := HL0.out.lt
      refine (nodesFit_any a1 c1 ns W0 (by omega) (fun e he => Nat.le_trans (node_le ns e he) msum) msum HH1.out).mono ?_
      rintro e w1 ⟨rfl, hb1⟩
      have hK := HL0.out.below hb1 hlt0
      have p0 : w1.cell? ⟨w.heap.size, 0, none⟩ = some (.slice a1 ns.length c1) := hK.cell 0
      have p1 : w1.cell? ⟨w.heap.size, 1, none⟩ = some (.slice a2 nm.length c2) := hK.cell 1
      have HX1 := hide hb1
      have HW1 := hide (HB0.out.trans (hb1.mono HB0.out.size))
      have hs1 := hb1.size
      clear hK hb1
      by_cases o0 : okNodes ns = true
      · rw [o0]
        have hn6 := okNodes_len o0
        go_wp2_with fail
        refine (inOrder_any a2 c2 nm (ns.length : Int) w1 (by omega) (by omega) (fun e he => by have := HS2.out e he; omega) (HH2.out.below HX1.out)).mono ?_
        rintro e w2 ⟨rfl, hb2⟩
        have HX2 := hide (HX1.out.trans (hb2.mono HX1.out.size))
        have hK := HL0.out.below HX2.out hlt0
        have q0 : w2.cell? ⟨w.heap.size, 0, none⟩ = some (.slice a1 ns.length c1) := hK.cell 0
        have q2 : w2.cell? ⟨w.heap.size, 2, none⟩ = some (.slice a3 kp.length c3) := hK.cell 2
        have HW2 := hide (HB0.out.trans (HX2.out.mono HB0.out.size))
        clear hK hb2 p0 p1
        by_cases o1 : okList (ns.length : Int) nm = true
        · rw [o1]
          go_wp2_with fail
          refine (inOrder_any a3 c3 kp (ns.length : Int) w2 (by omega) (by omega) (fun e he => by have := HS3.out e he; omega) (HH3.out.below HX2.out)).mono ?_
          rintro e w3 ⟨rfl, hb3⟩
          have HX3 := hide (HX2.out.trans (hb3.mono HX2.out.size))
          have hK := HL0.out.below HX3.out hlt0
          have r0 : w3.cell? ⟨w.heap.size, 0, none⟩ = some (.slice a1 ns.length c1) := hK.cell 0
          have r1 : w3.cell? ⟨w.heap.size, 1, none⟩ = some (.slice a2 nm.length c2) := hK.cell 1
          have r2 : w3.cell? ⟨w.heap.size, 2, none⟩ = some (.slice a3 kp.length c3) := hK.cell 2
          have r3 : w3.cell? ⟨w.heap.size, 3, none⟩ = some (.slice a4 pd.length c4) := hK.cell 3
          have r4 : w3.cell? ⟨w.heap.size, 4, none⟩ = some (.int .i64 qt) := hK.cell 4
          have HW3 := hide (HB0.out.trans (HX3.out.mono HB0.out.size))
          clear hK hb3 q0 q2
          by_cases o2 : okList (ns.length : Int) kp = true
          · rw [o2]
            have HPE := hide (pend_any HE a1 a2 a3 a4 c1 c2 c3 c4 ns nm kp pd qt w3 hn6 o2 HS3.out HS4.out HW4.out (HH2.out.below HX3.out) (HH3.out.below HX3.out) (HH4.out.below HX3.out))
            have HVV := hide (show V = (pd.length ≤ 1000 ∧ repAll (ns.length : Int) kp pd = some nm) by
              rw [HV.out]
              exact propext ⟨fun h => ⟨h.2.2.1, h.2.2.2.2.2.2⟩, fun h => ⟨g1, g2, h.1, o0, o1, o2, h.2⟩⟩)
            clear HV o0 o1 o2
            go_wp2_with fail
            refine (HPE.out).mono ?_
            rintro e w4 ⟨r, rfl, hrr, hb4⟩
            have HRR := hide hrr
            have HW4' := hide (HW3.out.trans (hb4.mono HW3.out.size))
            clear hrr hb4 HPE
            go_wp2
            go_ret
            exact ⟨r, rfl, by rw [HVV.out]; exact HRR.out, HW4'.out⟩
          · have o2' : okList (ns.length : Int) kp = false := by simpa using o2
            rw [o2']
            go_wp2
            go_ret
            exact val_no (by rw [HV.out]; exact fun h => o2 h.2.2.2.2.2.1) HW3.out
        · have o1' : okList (ns.length : Int) nm = false := by simpa using o1
          rw [o1']
          go_wp2
          go_ret
          exact val_no (by rw [HV.out]; exact fun h => o1 h.2.2.2.2.1) HW2.out
      · have o0' : okNodes ns = false := by simpa using o0
        rw [o0']
        go_wp2
        go_ret
        exact val_no (by rw [HV.out]; exact fun h => o0 h.2.2.2.1) HW1.out
    · have HN := hide (show ¬ V by rw [HV.out]; exact fun h => g2 h.2.1)
      go_enter Try.func29, Try.ntmps29
      go_wp2
      go_ret
      exact val_no HN.out HB0.out
  · have HN := hide (show ¬ V by rw [HV.out]; exact fun h => g1 h.1)
    go_enter Try.func29, Try.ntmps29
    go_wp2
    go_ret
    exact val_no HN.out HB0.out
end Go.Proofs.Ytledlicandlekab
