import Derived.Test.YtledlicandlekabSpecRep
import Derived.Test.YtledlicandlekabNodesFit
import Derived.Test.YtledlicandlekabSpecSame
import Derived.Test.YtledlicandlekabDiskMem
namespace Go.Proofs.Ytledlicandlekab
open Go.RowKit
/-- All operations of Pend, one after the other. -/
def repAll (nodes : Int) : List EN → List DO → Option (List EN)
  | es, [] => some es
  | es, o :: r => match repE nodes es o with
    | none => none
    | some l => if 300 < l.length then none else repAll nodes l r
/-- What a valid disk is, one word for the specification and the program. -/
def ValidD (D : MDisk) : Prop := 0 ≤ D.quota ∧ D.quota ≤ 1000000 ∧ D.pend.length ≤ 1000 ∧ okNodes D.nodes = true ∧ okList (D.nodes.length : Int) D.names = true ∧ okList (D.nodes.length : Int) D.kept = true ∧ repAll (D.nodes.length : Int) D.kept D.pend = some D.names
def ValPost (w : World) (P : Prop) (e : Ending) (w' : World) : Prop := ∃ r : Bool, e = .returned (.bool r) ∧ (r = true ↔ P) ∧ Below w.heap.size w w'
theorem val_no {w w' : World} {P : Prop} (h : ¬ P) (hb : Below w.heap.size w w') : ValPost w P (.returned (.bool false)) w' := ⟨false, rfl, ⟨fun e => (by cases e), fun p => absurd p h⟩, hb⟩
/-- Numbers that keep all in bounds. -/
structure Modest (D : MDisk) : Prop where
  n1 : D.nodes.length ≤ 1048576
  n2 : D.names.length ≤ 1048576
  n3 : D.kept.length ≤ 1048576
  n4 : D.pend.length ≤ 1048576
  sum : sumN D.nodes ≤ 1048576
  s2 : ∀ e ∈ D.names, e.1.size ≤ 1048576
  s3 : ∀ e ∈ D.kept, e.1.size ≤ 1048576
  s4 : ∀ o ∈ D.pend, o.2.1.size ≤ 1048576 ∧ o.2.2.1.size ≤ 1048576
theorem node_le (ns : List (List Nat × Int)) : ∀ e ∈ ns, e.1.length ≤ sumN ns := by
  induction ns with
  | nil => intro e h; cases h
  | cons x r ih =>
    intro e h
    rcases List.mem_cons.1 h with rfl | h
    · simp only [sumN]; omega
    · have := ih e h; simp only [sumN]; omega
set_option maxRecDepth 20000 in
set_option maxHeartbeats 1000000 in
theorem specValid_any (a1 a2 a3 a4 : Option Addr) (c1 c2 c3 c4 : Nat) (D : MDisk) (w : World) (hM : Modest D) (h1 : NodeAt w a1 D.nodes) (h2 : EntAt w a2 D.names) (h3 : EntAt w a3 D.kept) (h4 : OpAt w a4 D.pend) :
    Calls Try.prog 23 #[.agg #[.slice a1 D.nodes.length c1, .slice a2 D.names.length c2, .slice a3 D.kept.length c3, .slice a4 D.pend.length c4, .int .i64 D.quota]] w (ValPost w (ValidD D)) := by
  have hB0 : Below w.heap.size w (w.alloc (.cells #[.slice a1 D.nodes.length c1, .slice a2 D.names.length c2, .slice a3 D.kept.length c3, .slice a4 D.pend.length c4, .int .i64 D.quota] 36)) := (Below.refl _ _).alloc (Nat.le_refl _) _
  have L0 := Laid.new w #[.slice a1 D.nodes.length c1, .slice a2 D.names.length c2, .slice a3 D.kept.length c3, .slice a4 D.pend.length c4, .int .i64 D.quota] 36
  obtain ⟨ns, nm, kp, pd, qt⟩ := D
  obtain ⟨m1, m2, m3, m4, msum, ms2, ms3, ms4⟩ := hM
  simp only at m1 m2 m3 m4 msum ms2 ms3 ms4 h1 h2 h3 h4 hB0 L0 ⊢
  have HV := hide (show ValidD ⟨ns, nm, kp, pd, qt⟩ = (0 ≤ qt ∧ qt ≤ 1000000 ∧ pd.length ≤ 1000 ∧ okNodes ns = true ∧ okList (ns.length : Int) nm = true ∧ okList (ns.length : Int) kp = true ∧ repAll (ns.length : Int) kp pd = some nm) from rfl)
  generalize ValidD ⟨ns, nm, kp, pd, qt⟩ = V at HV ⊢
  have HS2 := hide ms2
  have HS3 := hide ms3
  have HS4 := hide ms4
  have HH1 := hide (h1.below hB0)
  have HH2 := hide (h2.below hB0)
  have HH3 := hide (h3.below hB0)
  have HH4 := hide (h4.below hB0)
  have HB0 := hide hB0
  have HL0 := hide L0
  clear ms2 ms3 ms4 h1 h2 h3 h4 hB0 L0
  by_cases g1 : qt < 0
  · have HN := hide (show ¬ V by rw [HV.out]; exact fun h => by omega)
    go_enter Try.func23, Try.ntmps23
    go_wp2
    go_ret
    exact val_no HN.out HB0.out
  by_cases g2 : 1000000 < qt
  · have HN := hide (show ¬ V by rw [HV.out]; exact fun h => by omega)
    go_enter Try.func23, Try.ntmps23
    go_wp2
    go_ret
    exact val_no HN.out HB0.out
  by_cases g3 : (600 : Int) < (ns.length : Int)
  · have HN := hide (show ¬ V by
      rw [HV.out]
      intro h
      have := h.2.2.2.1
      unfold okNodes at this
      have := of_decide_eq_true this
      omega)
    go_enter Try.func23, Try.ntmps23
    go_wp2
    go_ret
    exact val_no HN.out HB0.out
  by_cases g4 : (1000 : Int) < (pd.length : Int)
  · have HN := hide (show ¬ V by rw [HV.out]; exact fun h => by omega)
    go_enter Try.func23, Try.ntmps23
    go_wp2
    go_ret
    exact val_no HN.out HB0.out
  go_enter Try.func23, Try.ntmps23
  go_wp2
  generalize w.alloc (.cells #[.slice a1 ns.length c1, .slice a2 nm.length c2, .slice a3 kp.length c3, .slice a4 pd.length c4, .int .i64 qt] 36) = W0 at HH1 HH2 HH3 HH4 HB0 HL0 ⊢
  go_loopw [3, 5, 34] (fun t _ i wr => ∃ k : Nat, k ≤ ns.length ∧ i = .int .i64 (k : Int) ∧ t = .int .i64 (sumN (ns.take k) : Int) ∧ (∀ i (h : i < ns.length), i < k → okNode ns[i] = true) ∧ Below W0.heap.size W0 wr) (fun _ _ i _ => ns.length - (intOf i).toNat)
  case atStart => exact ⟨0, Nat.zero_le _, rfl, rfl, fun i _ h => by omega, Below.refl _ _⟩
  case round =>
    obtain ⟨k, hk, rfl, rfl, hok, hnx⟩ := hrel
    have HK := hide hok
    have HNX := hide hnx
    have HNB := hide (HB0.out.trans (hnx.mono HB0.out.size))
    have hsl := HL0.out.lt
    have hsz := hnx.size
    clear hok
    by_cases hlt : k < ns.length
    · obtain ⟨b, off, rfl, hc⟩ := (HH1.out.below hnx) (by omega)
      obtain ⟨ai, ci, hc0, hc1, _⟩ := hc k hlt
      have hkl := node_le ns _ (List.getElem_mem hlt)
      have hst := sumN_take_le ns (k + 1)
      have HSS := hide (sumN_take_succ ns k hlt)
      have hs2 : sumN (ns.take k) ≤ 1048576 := by have := HSS.out; omega
      have HNO := hide (okNodes_no (ns := ns) hlt)
      have HOK := hide (show okNode ns[k] = decide (ns[k].1.length ≤ 40000 ∧ 0 ≤ ns[k].2 ∧ ns[k].2 ≤ ns[k].1.length) from rfl)
      have HST := hide (fun (e : okNode ns[k] = true) (i : Nat) (h : i < ns.length) (h' : i < k + 1) => (by
        by_cases e' : i = k
        · subst e'; exact e
        · exact HK.out i h (by omega) : okNode ns[i] = true))
      clear hc hnx HK hst
      generalize sumN (ns.take k) = s0 at hs2 HSS ⊢
      generalize ns[k].1.length = n0 at hc0 HOK hkl HSS
      generalize ns[k].2 = sf at hc1 HOK
      by_cases g5 : (40000 : Int) < (n0 : Int)
      · go_wp2
        go_ret
        exact val_no (by rw [HV.out]; intro h; rw [HNO.out (by rw [HOK.out]; exact decide_eq_false fun h => by omega)] at h; exact absurd h.2.2.2.1 (by simp)) (HNB.out.alloc (by omega) _)
      by_cases g6 : sf < 0
      · go_wp2
        go_ret
        exact val_no (by rw [HV.out]; intro h; rw [HNO.out (by rw [HOK.out]; exact decide_eq_false fun h => by omega)] at h; exact absurd h.2.2.2.1 (by simp)) (HNB.out.alloc (by omega) _)
      by_cases g7 : (n0 : Int) < sf
      · go_wp2
        go_ret
        exact val_no (by rw [HV.out]; intro h; rw [HNO.out (by rw [HOK.out]; exact decide_eq_false fun h => by omega)] at h; exact absurd h.2.2.2.1 (by simp)) (HNB.out.alloc (by omega) _)
      have HST2 := hide (HST.out (by rw [HOK.out]; exact decide_eq_true ⟨by omega, by omega, by omega⟩))
      go_wp2
      go_roundw
      case rel => exact ⟨k + 1, by omega, by go_num, val_int (by rw [HSS.out]; push_cast; rfl), HST2.out, HNX.out.alloc HNX.out.size _⟩
      case measure => simp [intOf]; omega
    · obtain rfl : k = ns.length := by omega
      have hLr := HL0.out.below hnx (by omega)
      have r0 : wr.cell? ⟨w.heap.size, 0, none⟩ = some (.slice a1 ns.length c1) := hLr.cell 0
      have r1 : wr.cell? ⟨w.heap.size, 1, none⟩ = some (.slice a2 nm.length c2) := hLr.cell 1
      have r2 : wr.cell? ⟨w.heap.size, 2, none⟩ = some (.slice a3 kp.length c3) := hLr.cell 2
      have r3 : wr.cell? ⟨w.heap.size, 3, none⟩ = some (.slice a4 pd.length c4) := hLr.cell 3
      rw [List.take_length]
      have HON := hide (show okNodes ns = decide (sumN ns ≤ 200000) by
        unfold okNodes
        by_cases h2 : sumN ns ≤ 200000
        · rw [decide_eq_true h2]; exact decide_eq_true ⟨by omega, fun i h => HK.out i h h, h2⟩
        · rw [decide_eq_false h2]; exact decide_eq_false fun h => h2 h.2.2)
      clear hnx HK hLr
      by_cases g8 : (200000 : Int) < (sumN ns : Int)
      · go_wp2
        go_ret
        exact val_no (by rw [HV.out, HON.out]; exact fun h => by have := of_decide_eq_true h.2.2.2.1; omega) HNB.out
      · have HON2 := hide (show okNodes ns = true by rw [HON.out]; exact decide_eq_true (by omega))
        have r0' := r0
        go_wp2_with fail
        refine (l1InOrder_any a2 c2 nm (ns.length : Int) wr (by omega) (fun e he => by have := HS2.out e he; omega) (HH2.out.below HNX.out)).mono ?_
        rintro e w2 ⟨rfl, hb2⟩
        have HX2 := hide (HNX.out.trans (hb2.mono HNX.out.size))
        have hL2 := HL0.out.below HX2.out (by omega)
        have t0 : w2.cell? ⟨w.heap.size, 0, none⟩ = some (.slice a1 ns.length c1) := hL2.cell 0
        have t1 : w2.cell? ⟨w.heap.size, 1, none⟩ = some (.slice a2 nm.length c2) := hL2.cell 1
        have t2 : w2.cell? ⟨w.heap.size, 2, none⟩ = some (.slice a3 kp.length c3) := hL2.cell 2
        have t3 : w2.cell? ⟨w.heap.size, 3, none⟩ = some (.slice a4 pd.length c4) := hL2.cell 3
        have HW2 := hide (HB0.out.trans (HX2.out.mono HB0.out.size))
        clear r0 r1 r2 r3 r0' hL2 hb2 HNX HNB
        by_cases o1 : okList (ns.length : Int) nm = true
        · rw [o1]
          go_wp2_with fail
          refine (l1InOrder_any a3 c3 kp (ns.length : Int) w2 (by omega) (fun e he => by have := HS3.out e he; omega) (HH3.out.below HX2.out)).mono ?_
          rintro e w3 ⟨rfl, hb3⟩
          have HX3 := hide (HX2.out.trans (hb3.mono HX2.out.size))
          have hL3 := HL0.out.below HX3.out (by omega)
          have s0 : w3.cell? ⟨w.heap.size, 0, none⟩ = some (.slice a1 ns.length c1) := hL3.cell 0
          have s1 : w3.cell? ⟨w.heap.size, 1, none⟩ = some (.slice a2 nm.length c2) := hL3.cell 1
          have s2 : w3.cell? ⟨w.heap.size, 2, none⟩ = some (.slice a3 kp.length c3) := hL3.cell 2
          have s3 : w3.cell? ⟨w.heap.size, 3, none⟩ = some (.slice a4 pd.length c4) := hL3.cell 3
          have HW3 := hide (HB0.out.trans (HX3.out.mono HB0.out.size))
          clear t0 t1 t2 t3 hL3 hb3
          by_cases o2 : okList (ns.length : Int) kp = true
          · rw [o2]
            have HVV := hide (show V = (repAll (ns.length : Int) kp pd = some nm) by
              rw [HV.out]
              exact propext ⟨fun h => h.2.2.2.2.2.2, fun h => ⟨by omega, by omega, by omega, HON2.out, o1, o2, h⟩⟩)
            have m3' : kp.length ≤ 1048573 := by have h := o2; unfold okList at h; have := (of_decide_eq_true h).1; omega
            clear HV HON HON2 o1 o2
            go_wp2
            go_loopw [6, 8, 9, 10, 86] (fun lv _ _ _ i wv => ∃ (k : Nat) (es : List EN) (al : Option Addr) (cl : Nat), k ≤ pd.length ∧ i = .int .i64 (k : Int) ∧ lv = .slice al es.length cl ∧ es.length ≤ 1048573 ∧ EntAt wv al es ∧ repAll (ns.length : Int) kp pd = repAll (ns.length : Int) es (pd.drop k) ∧ Below W0.heap.size W0 wv) (fun _ _ _ _ i _ => pd.length - (intOf i).toNat)
            case atStart => exact ⟨0, kp, a3, c3, Nat.zero_le _, rfl, rfl, m3', HH3.out.below HX3.out, rfl, HX3.out⟩
            case round =>
              obtain ⟨k, es, al, cl, hk, rfl, rfl, hel, hea, hrp, hxv⟩ := hrel
              have hLv := HL0.out.below hxv (by omega)
              have v0 : wr.cell? ⟨w.heap.size, 0, none⟩ = some (.slice a1 ns.length c1) := hLv.cell 0
              have v1 : wr.cell? ⟨w.heap.size, 1, none⟩ = some (.slice a2 nm.length c2) := hLv.cell 1
              have hsv : w.heap.size < wr.heap.size := lt_of_cell0 v0
              have HEA := hide hea
              have HRP := hide hrp
              have HXV := hide hxv
              have HWV := hide (HB0.out.trans (hxv.mono HB0.out.size))
              clear hea hrp hxv hLv s0 s1 s2 s3
              by_cases hlt : k < pd.length
              · have hRA := HRP.out
                rw [List.drop_eq_getElem_cons hlt, repAll] at hRA
                obtain ⟨b, off, rfl, hc⟩ := (HH4.out.below HXV.out) (by omega)
                obtain ⟨d0, d1, d2, d3⟩ := hc k hlt
                obtain ⟨hz1, hz2⟩ := HS4.out _ (List.getElem_mem hlt)
                have HRA := hide hRA
                clear hRA hc HRP
                generalize hoo : pd[k] = oo at d0 d1 d2 d3 hz1 hz2 HRA
                obtain ⟨kd, onm, oto, ond⟩ := oo
                clear hoo
                simp only at d0 d1 d2 d3 hz1 hz2 HRA
                have hAo := (Below.refl wr.heap.size wr).alloc (Nat.le_refl _) (.cells #[.int .i64 kd, .string onm, .string oto, .int .i64 ond] 74)
                have HRE := hide (l1Replay_any al cl es kd onm oto ond (ns.length : Int) _ hel hz1 hz2 (HEA.out.below hAo))
                have HXA := hide (HXV.out.trans (hAo.mono HXV.out.size))
                have v0a : (wr.alloc (.cells #[.int .i64 kd, .string onm, .string oto, .int .i64 ond] 74)).cell? ⟨w.heap.size, 0, none⟩ = some (.slice a1 ns.length c1) := (hAo.cell (p := ⟨w.heap.size, 0, none⟩) hsv).trans v0
                clear hAo HEA
                go_wp2_with fail
                generalize wr.alloc (.cells #[.int .i64 kd, .string onm, .string oto, .int .i64 ond] 74) = W5 at HRE HXA v0a ⊢
                refine (HRE.out).mono ?_
                intro e w6 hp
                clear HRE
                generalize repE (ns.length : Int) es (kd, onm, oto, ond) = R at HRA hp
                cases R with
                | none =>
                  obtain ⟨rfl, hb6⟩ := hp
                  have HN := hide (show ¬ V by rw [HVV.out, HRA.out]; simp)
                  have HB6 := hide (HB0.out.trans ((HXA.out.trans (hb6.mono HXA.out.size)).mono HB0.out.size))
                  clear hb6
                  go_wp2
                  go_ret
                  exact val_no HN.out HB6.out
                | some L =>
                  obtain ⟨a6, c6, rfl, ho6, hb6⟩ := hp
                  have HX6 := hide (HXA.out.trans (hb6.mono HXA.out.size))
                  have HO6 := hide ho6
                  clear hb6 ho6
                  by_cases hbig : (300 : Int) < (L.length : Int)
                  · have HN := hide (show ¬ V by rw [HVV.out, HRA.out]; simp only; rw [if_pos (by omega)]; simp)
                    have HB6 := hide (HB0.out.trans (HX6.out.mono HB0.out.size))
                    go_wp2
                    go_ret
                    exact val_no HN.out HB6.out
                  · have HR6 := hide (show repAll (ns.length : Int) kp pd = repAll (ns.length : Int) L (pd.drop (k + 1)) by rw [HRA.out]; simp only; rw [if_neg (by omega)])
                    go_wp2
                    go_roundw
                    case rel => exact ⟨k + 1, L, a6, c6, by omega, by go_num, rfl, by omega, HO6.out.at, HR6.out, HX6.out⟩
                    case measure => simp [intOf]; omega
              · obtain rfl : k = pd.length := by omega
                have hfin := HRP.out
                rw [List.drop_length, repAll] at hfin
                have HFI := hide hfin
                clear hfin
                go_wp2_with fail
                refine (l1Same_any al a2 cl c2 es nm wr (by omega) HEA.out (HH2.out.below HXV.out)).mono ?_
                rintro e w5 ⟨⟨r, rfl, hrr⟩, n5, rfl⟩
                have HRR := hide hrr
                clear hrr
                go_wp2
                go_ret
                exact ⟨r, rfl, by rw [HRR.out, HVV.out, HFI.out]; simp, below_drewN HWV.out _⟩
          · have o2' : okList (ns.length : Int) kp = false := by simpa using o2
            rw [o2']
            go_wp2
            go_ret
            exact val_no (by rw [HV.out]; exact fun h => o2 h.2.2.2.2.2.1) HW3.out
        · have o1' : okList (ns.length : Int) nm = false := by simpa using o1
          rw [o1']
          go_wp2
          go_ret
          exact val_no (by rw [HV.out]; exact fun h => o1 h.2.2.2.2.1) HW2.out
end Go.Proofs.Ytledlicandlekab
