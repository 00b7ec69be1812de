import Derived.Test.YtpccongphchagaaGreatDoorPkm
import Derived.Test.YtpccongphchagaaGreatDoorPkh
import Derived.Test.YtpccongphchagaaGreatDoorPkg
import Derived.Test.YtpccongphchagaaGreatDoorPkf
import Derived.Test.YtpccongphchagaaGreatDoorPkn
import Derived.Deep.RegionWith
namespace Go.Proofs.YtpccongphchagaaGreatDoor
open Go.RowKit
/-- All operations of Pend, one after the other. -/
def repAll (nodes : Int) : List EN → List DO → Option (List EN)
  | es, [] => some es
  | es, o :: r => match repE nodes es o with
    | none => none
    | some l => if 300 < l.length then none else repAll nodes l r
/-- What a valid disk is, one word for the specification and the program. -/
def ValidD (D : MDisk) : Prop := 0 ≤ D.quota ∧ D.quota ≤ 1000000 ∧ D.pend.length ≤ 1000 ∧ okNodes D.nodes = true ∧ okList (D.nodes.length : Int) D.names = true ∧ okList (D.nodes.length : Int) D.kept = true ∧ repAll (D.nodes.length : Int) D.kept D.pend = some D.names
def ValPost (w : World) (P : Prop) (e : Ending) (w' : World) : Prop := ∃ r : Bool, e = .returned (.bool r) ∧ (r = true ↔ P) ∧ Below w.heap.size w w'
theorem val_no {w w' : World} {P : Prop} (h : ¬ P) (hb : Below w.heap.size w w') : ValPost w P (.returned (.bool false)) w' := ⟨false, rfl, ⟨fun e => (by cases e), fun p => absurd p h⟩, hb⟩
/-- Numbers that keep all in bounds. -/
structure Modest (D : MDisk) : Prop where
  n1 : D.nodes.length ≤ 1048576
  n2 : D.names.length ≤ 1048576
  n3 : D.kept.length ≤ 1048576
  n4 : D.pend.length ≤ 1048576
  sum : sumN D.nodes ≤ 1048576
  s2 : ∀ e ∈ D.names, e.1.size ≤ 1048576
  s3 : ∀ e ∈ D.kept, e.1.size ≤ 1048576
  s4 : ∀ o ∈ D.pend, o.2.1.size ≤ 1048576 ∧ o.2.2.1.size ≤ 1048576
theorem node_le (ns : List (List Nat × Int)) : ∀ e ∈ ns, e.1.length ≤ sumN ns := by
  induction ns with
  | nil => intro e h; cases h
  | cons x r ih =>
    intro e h
    rcases List.mem_cons.1 h with rfl | h
    · simp only [sumN]; omega
    · have := ih e h; simp only [sumN]; omega
set_option maxRecDepth 20000 in
set_option maxHeartbeats 1000000 in
theorem specValid_any (a1 a2 a3 a4 : Option Addr) (c1 c2 c3 c4 : Nat) (D : MDisk) (w : World) (hM : Modest D) (h1 : NodeAt w a1 D.nodes) (h2 : EntAt w a2 D.names) (h3 : EntAt w a3 D.kept) (h4 : OpAt w a4 D.pend) :
    Calls Tryz.prog 16 #[.agg #[.slice a1 D.nodes.length c1, .slice a2 D.names.length c2, .slice a3 D.kept.length c3, .slice a4 D.pend.length c4, .int .i64 D.quota]] w (ValPost w (ValidD D)) := by
  have hB0 : Below w.heap.size w (w.alloc (.cells #[.slice a1 D.nodes.length c1, .slice a2 D.names.length c2, .slice a3 D.kept.length c3, .slice a4 D.pend.length c4, .int .i64 D.quota] 27)) := (Below.refl _ _).alloc (Nat.le_refl _) _
  have L0 := Laid.new w #[.slice a1 D.nodes.length c1, .slice a2 D.names.length c2, .slice a3 D.kept.length c3, .slice a4 D.pend.length c4, .int .i64 D.quota] 27
  obtain ⟨ns, nm, kp, pd, qt⟩ := D
  obtain ⟨m1, m2, m3, m4, msum, ms2, ms3, ms4⟩ := hM
  simp only at m1 m2 m3 m4 msum ms2 ms3 ms4 h1 h2 h3 h4 hB0 L0 ⊢
  have HV := hide (show ValidD ⟨ns, nm, kp, pd, qt⟩ = (0 ≤ qt ∧ qt ≤ 1000000 ∧ pd.length ≤ 1000 ∧ okNodes ns = true ∧ okList (ns.length : Int) nm = true ∧ okList (ns.length : Int) kp = true ∧ repAll (ns.length : Int) kp pd = some nm) from rfl)
  generalize ValidD ⟨ns, nm, kp, pd, qt⟩ = V at HV ⊢
  have HS2 := hide ms2
  have HS3 := hide ms3
  have HS4 := hide ms4
  have HH1 := hide (h1.below hB0)
  have HH2 := hide (h2.below hB0)
  have HH3 := hide (h3.below hB0)
  have HH4 := hide (h4.below hB0)
  have HB0 := hide hB0
  have HL0 := hide L0
  clear ms2 ms3 ms4 h1 h2 h3 h4 hB0 L0
  by_cases g1 : qt < 0
  · have HN := hide (show ¬ V by rw [HV.out]; exact fun h => by omega)
    go_enter Tryz.func16, Tryz.ntmps16
    go_wp2
    go_ret
    exact val_no HN.out HB0.out
  by_cases g2 : 1000000 < qt
  · have HN := hide (show ¬ V by rw [HV.out]; exact fun h => by omega)
    go_enter Tryz.func16, Tryz.ntmps16
    go_wp2
    go_ret
    exact val_no HN.out HB0.out
  by_cases g3 : (600 : Int) < (ns.length : Int)
  · have HN := hide (show ¬ V by
      rw [HV.out]
      intro h
      have := h.2.2.2.1
      unfold okNodes at this
      have := of_decide_eq_true this
      omega)
    go_enter Tryz.func16, Tryz.ntmps16
    go_wp2
    go_ret
    exact val_no HN.out HB0.out
  by_cases g4 : (1000 : Int) < (pd.length : Int)
  · have HN := hide (show ¬ V by rw [HV.out]; exact fun h => by omega)
    go_enter Tryz.func16, Tryz.ntmps16
    go_wp2
    go_ret
    exact val_no HN.out HB0.out
  go_enter Tryz.func16, Tryz.ntmps16
  go_wp2
  generalize w.alloc (.cells #[.slice a1 ns.length c1, .slice a2 nm.length c2, .slice a3 kp.length c3, .slice a4 pd.length c4, .int .i64 qt] 27) = W0 at HH1 HH2 HH3 HH4 HB0 HL0 ⊢
  go_loopw [3, 5, 34] (fun t _ i wr => ∃ k : Nat, k ≤ ns.length ∧ i = .int .i64 (k : Int) ∧ t = .int .i64 (sumN (ns.take k) : Int) ∧ (∀ i (h : i < ns.length), i < k → okNode ns[i] = true) ∧ Below W0.heap.size W0 wr) (fun _ _ i _ => ns.length - (intOf i).toNat)
  case atStart => exact ⟨0, Nat.zero_le _, rfl, rfl, fun i _ h => by omega, Below.refl _ _⟩
  case round =>
    obtain ⟨k, hk, rfl, rfl, hok, hnx⟩ := hrel
    have HK := hide hok
    have HNX := hide hnx
    have HNB := hide (HB0.out.trans (hnx.mono HB0.out.size))
    have hsl := HL0.out.lt
    have hsz := hnx.size
    clear hok
    by_cases hlt : k < ns.length
    · obtain ⟨b, off, rfl, hc⟩ := (HH1.out.below hnx) (by omega)
      obtain ⟨ai, ci, hc0, hc1, _⟩ := hc k hlt
      have hkl := node_le ns _ (List.getElem_mem hlt)
      have hst := sumN_take_le ns (k + 1)
      have HSS := hide (sumN_take_succ ns k hlt)
      have hs2 : sumN (ns.take k) ≤ 1048576 := by have := HSS.out; omega
      have HNO := hide (okNodes_no (ns := ns) hlt)
      have HOK := hide (show okNode ns[k] = decide (ns[k].1.length ≤ 40000 ∧ 0 ≤ ns[k].2 ∧ ns[k].2 ≤ ns[k].1.length) from rfl)
      have HST := hide (fun (e : okNode ns[k] = true) (i : Nat) (h : i < ns.length) (h' : i < k + 1) => (by
        by_cases e' : i = k
        · subst e'; exact e
        · exact HK.out i h (by omega) : okNode ns[i] = true))
      clear hc hnx HK hst
      generalize sumN (ns.take k) = s0 at hs2 HSS ⊢
      generalize ns[k].1.length = n0 at hc0 HOK hkl HSS
      generalize ns[k].2 = sf at hc1 HOK
      by_cases g5 : (40000 : Int) < (n0 : Int)
      · go_wp2
        go_ret
        exact val_no (by rw [HV.out]; intro h; rw [HNO.out (by rw [HOK.out]; exact decide_eq_false fun h => by omega)] at h; exact absurd h.2.2.2.1 (by simp)) (HNB.out.alloc (by omega) _)
      by_cases g6 : sf < 0
      · go_wp2
        go_ret
        exact val_no (by rw [HV.out]; intro h; rw [HNO.out (by rw [HOK.out]; exact decide_eq_false fun h => by omega)] at h; exact absurd h.2.2.2.1 (by simp)) (HNB.out.alloc (by omega) _)
      by_cases g7 : (n0 : Int) < sf
      · go_wp2
        go_ret
        exact val_no (by rw [HV.out]; intro h; rw [HNO.out (by rw [HOK.out]; exact decide_eq_false fun h => by omega)] at h; exact absurd h.2.2.2.1 (by simp)) (HNB.out.alloc (by omega) _)
      have HST2 := hide (HST.out (by rw [HOK.out]; exact decide_eq_true ⟨by omega, by omega, by omega⟩))
      go_wp2
      go_roundw
      case rel => exact ⟨k + 1, by omega, by go_num, val_int (by rw [HSS.out]; push_cast; rfl), HST2.out, HNX.out.alloc HNX.out.size _⟩
      case measure => simp [intOf]; omega
    · obtain rfl : k = ns.length := by omega
      have hLr := HL0.out.below hnx (by omega)
      have r0 : wr.cell? ⟨w.heap.size, 0, none⟩ = some (.slice a1 ns.length c1) := hLr.cell 0
      have r1 : wr.cell? ⟨w.heap.size, 1, none⟩ = some (.slice a2 nm.length c2) := hLr.cell 1
      have r2 : wr.cell? ⟨w.heap.size, 2, none⟩ = some (.slice a3 kp.length c3) := hLr.cell 2
      have r3 : wr.cell? ⟨w.heap.size, 3, none⟩ = some (.slice a4 pd.length c4) := hLr.cell 3
      rw [List.take_length]
      have HON := hide (show okNodes ns = decide (sumN ns ≤ 200000) by
        unfold okNodes
        by_cases h2 : sumN ns ≤ 200000
        · rw [decide_eq_true h2]; exact decide_eq_true ⟨by omega, fun i h => HK.out i h h, h2⟩
        · rw [decide_eq_false h2]; exact decide_eq_false fun h => h2 h.2.2)
      clear hnx HK hLr
      by_cases g8 : (200000 : Int) < (sumN ns : Int)
      · go_wp2
        go_ret
        exact val_no (by rw [HV.out, HON.out]; exact fun h => by have := of_decide_eq_true h.2.2.2.1; omega) HNB.out
      · have HON2 := hide (show okNodes ns = true by rw [HON.out]; exact decide_eq_true (by omega))
        have r0' := r0
        go_wp2_with fail
        refine (l1InOrder_any a2 c2 nm (ns.length : Int) wr (by omega) (fun e he => by have := HS2.out e he; omega) (HH2.out.below HNX.out)).mono ?_
        rintro e w2 ⟨rfl, hb2⟩
        have HX2 := hide (HNX.out.trans (hb2.mono HNX.out.size))
        have hL2 := HL0.out.below HX2.out (by omega)
        have t0 : w2.cell? ⟨w.heap.size, 0, none⟩ = some (.slice a1 ns.length c1) := hL2.cell 0
        have t1 : w2.cell? ⟨w.heap.size, 1, none⟩ = some (.slice a2 nm.length c2) := hL2.cell 1
        have t2 : w2.cell? ⟨w.heap.size, 2, none⟩ = some (.slice a3 kp.length c3) := hL2.cell 2
        have t3 : w2.cell? ⟨w.heap.size, 3, none⟩ = some (.slice a4 pd.length c4) := hL2.cell 3
        have HW2 := hide (HB0.out.trans (HX2.out.mono HB0.out.size))
        clear r0 r1 r2 r3 r0' hL2 hb2 HNX HNB
        by_cases o1 : okList (ns.length : Int) nm = true
        · rw [o1]
          go_wp2_with fail
          refine (l1InOrder_any a3 c3 kp (ns.length : Int) w2 (by omega) (fun e he => by have := HS3.out e he; omega) (HH3.out.below HX2.out)).mono ?_
          rintro e w3 ⟨rfl, hb3⟩
          have HX3 := hide (HX2.out.trans (hb3.mono HX2.out.size))
          have hL3 := HL0.out.below HX3.out (by omega)
          have s0 : w3.cell? ⟨w.heap.size, 0, none⟩ = some (.slice a1 ns.length c1) := hL3.cell 0
          have s1 : w3.cell? ⟨w.heap.size, 1, none⟩ = some (.slice a2 nm.length c2) := hL3.cell 1
          have s2 : w3.cell? ⟨w.heap.size, 2, none⟩ = some (.slice a3 kp.length c3) := hL3.cell 2
          have s3 : w3.cell? ⟨w.heap.size, 3, none⟩ = some (.slice a4 pd.length c4) := hL3.cell 3
          have HW3 := hide (HB0.out.trans (HX3.out.mono HB0.out.size))
          clear t0 t1 t2 t3 hL3 hb3
          by_cases o2 : okList (ns.length : Int) kp = true
          · rw [o2]
            have HVV := hide (show V = (repAll (ns.length : Int) kp pd = some nm) by
              rw [HV.out]
              exact propext ⟨fun h => h.2.2.2.2.2.2, fun h => ⟨by omega, by omega, by omega, HON2.out, o1, o2, h⟩⟩)
            have m3' : kp.length ≤ 1048573 := by have h := o2; unfold okList at h; have := (of_decide_eq_true h).1; omega
            clear HV HON HON2 o1 o2
            go_wp2
            go_loopw [6, 8, 9, 10, 86] (fun lv _ _ _ i wv => ∃ (k : Nat) (es : List EN) (al : Option Addr) (cl : Nat), k ≤ pd.length ∧ i = .int .i64 (k : Int) ∧ lv = .slice al es.length cl ∧ es.length ≤ 1048573 ∧ EntAt wv al es ∧ repAll (ns.length : Int) kp pd = repAll (ns.length : Int) es (pd.drop k) ∧ Below W0.heap.size W0 wv) (fun _ _ _ _ i _ => pd.length - (intOf i).toNat)
            case atStart => exact ⟨0, kp, a3, c3, Nat.zero_le _, rfl, rfl, m3', HH3.out.below HX3.out, rfl, HX3.out⟩
            case round =>
              obtain ⟨k, es, al, cl, hk, rfl, rfl, hel, hea, hrp, hxv⟩ := hrel
              have hLv := HL0.out.below hxv (by omega)
              have v0 : wr.cell? ⟨w.heap.size, 0, none⟩ = some (.slice a1 ns.length c1) := hLv.cell 0
              have v1 : wr.cell? ⟨w.heap.size, 1, none⟩ = some (.slice a2 nm.length c2) := hLv.cell 1
              have hsv : w.heap.size < wr.heap.size := lt_of_cell0 v0
              have HEA := hide hea
              have HRP := hide hrp
              have HXV := hide hxv
              have HWV := hide (HB0.out.trans (hxv.mono HB0.out.size))
              clear hea hrp hxv hLv s0 s1 s2 s3
              by_cases hlt : k < pd.length
              · have hRA := HRP.out
                rw [List.drop_eq_getElem_cons hlt, repAll] at hRA
                obtain ⟨b, off, rfl, hc⟩ := (HH4.out.below HXV.out) (by omega)
                obtain ⟨d0, d1, d2, d3⟩ := hc k hlt
                obtain ⟨hz1, hz2⟩ := HS4.out _ (List.getElem_mem hlt)
                have HRA := hide hRA
                clear hRA hc HRP
                generalize hoo : pd[k] = oo at d0 d1 d2 d3 hz1 hz2 HRA
                obtain ⟨kd, onm, oto, ond⟩ := oo
                clear hoo
                simp only at d0 d1 d2 d3 hz1 hz2 HRA
                have hAo := (Below.refl wr.heap.size wr).alloc (Nat.le_refl _) (.cells #[.int .i64 kd, .string onm, .string oto, .int .i64 ond] 68)
                have HRE := hide (l1Replay_any al cl es kd onm oto ond (ns.length : Int) _ hel hz1 hz2 (HEA.out.below hAo))
                have HXA := hide (HXV.out.trans (hAo.mono HXV.out.size))
                have v0a : (wr.alloc (.cells #[.int .i64 kd, .string onm, .string oto, .int .i64 ond] 68)).cell? ⟨w.heap.size, 0, none⟩ = some (.slice a1 ns.length c1) := (hAo.cell (p := ⟨w.heap.size, 0, none⟩) hsv).trans v0
                clear hAo HEA
                go_wp2_with fail
                generalize wr.alloc (.cells #[.int .i64 kd, .string onm, .string oto, .int .i64 ond] 68) = W5 at HRE HXA v0a ⊢
                refine (HRE.out).mono ?_
                intro e w6 hp
                clear HRE
                generalize repE (ns.length : Int) es (kd, onm, oto, ond) = R at HRA hp
                cases R with
                | none =>
                  obtain ⟨rfl, hb6⟩ := hp
                  have HN := hide (show ¬ V by rw [HVV.out, HRA.out]; simp)
                  have HB6 := hide (HB0.out.trans ((HXA.out.trans (hb6.mono HXA.out.size)).mono HB0.out.size))
                  clear hb6
                  go_wp2
                  go_ret
                  exact val_no HN.out HB6.out
                | some L =>
                  obtain ⟨a6, c6, rfl, ho6, hb6⟩ := hp
                  have HX6 := hide (HXA.out.trans (hb6.mono HXA.out.size))
                  have HO6 := hide ho6
                  clear hb6 ho6
                  by_cases hbig : (300 : Int) < (L.length : Int)
                  · have HN := hide (show ¬ V by rw [HVV.out, HRA.out]; simp only; rw [if_pos (by omega)]; simp)
                    have HB6 := hide (HB0.out.trans (HX6.out.mono HB0.out.size))
                    go_wp2
                    go_ret
                    exact val_no HN.out HB6.out
                  · have HR6 := hide (show repAll (ns.length : Int) kp pd = repAll (ns.length : Int) L (pd.drop (k + 1)) by rw [HRA.out]; simp only; rw [if_neg (by omega)])
                    go_wp2
                    go_roundw
                    case rel => exact ⟨k + 1, L, a6, c6, by omega, by go_num, rfl, by omega, HO6.out.at, HR6.out, HX6.out⟩
                    case measure => simp [intOf]; omega
              · obtain rfl : k = pd.length := by omega
                have hfin := HRP.out
                rw [List.drop_length, repAll] at hfin
                have HFI := hide hfin
                clear hfin
                go_wp2_with fail
                refine (l1Same_any al a2 cl c2 es nm wr (by omega) HEA.out (HH2.out.below HXV.out)).mono ?_
                rintro e w5 ⟨⟨r, rfl, hrr⟩, n5, rfl⟩
                have HRR := hide hrr
                clear hrr
                go_wp2
                go_ret
                exact ⟨r, rfl, by rw [HRR.out, HVV.out, HFI.out]; simp, below_drewN HWV.out _⟩
          · have o2' : okList (ns.length : Int) kp = false := by simpa using o2
            rw [o2']
            go_wp2
            go_ret
            exact val_no (by rw [HV.out]; exact fun h => o2 h.2.2.2.2.2.1) HW3.out
        · have o1' : okList (ns.length : Int) nm = false := by simpa using o1
          rw [o1']
          go_wp2
          go_ret
          exact val_no (by rw [HV.out]; exact fun h => o1 h.2.2.2.2.1) HW2.out
end Go.Proofs.YtpccongphchagaaGreatDoor
namespace Go.Proofs.YtpccongphchagaaGreatDoor
open Go.RowKit Go.Maps
/-- In rising order of names. -/
def Sorted (es : List EN) : Prop := es.Pairwise fun x y => Op.bytesLess x.1.toList y.1.toList = true
theorem less_irrefl : ∀ x : List UInt8, Op.bytesLess x x = false
  | [] => rfl
  | a :: x => by
    simp only [Op.bytesLess, less_irrefl x, Bool.and_false, Bool.or_false, decide_eq_false_iff_not]
    exact UInt8.lt_irrefl a
theorem less_tri : ∀ x y : List UInt8, Op.bytesLess x y = false → x ≠ y → Op.bytesLess y x = true
  | [], [], _, h => absurd rfl h
  | [], _ :: _, h, _ => by simp [Op.bytesLess] at h
  | _ :: _, [], _, _ => rfl
  | a :: x, b :: y, h1, h2 => by
    simp only [Op.bytesLess, Bool.or_eq_false_iff, decide_eq_false_iff_not, Bool.and_eq_false_iff] at h1
    simp only [Op.bytesLess, Bool.or_eq_true, decide_eq_true_eq, Bool.and_eq_true, beq_iff_eq]
    by_cases e : a = b
    · subst e
      refine .inr ⟨rfl, less_tri x y ?_ (fun e => h2 (by rw [e]))⟩
      rcases h1.2 with h | h
      · simp at h
      · exact h
    · left
      have : ¬ a < b := h1.1
      have hne : a.toNat ≠ b.toNat := fun h => e (UInt8.toNat_inj.1 h)
      have h3 : ¬ a.toNat < b.toNat := fun h => this (UInt8.lt_iff_toNat_lt.2 h)
      exact UInt8.lt_iff_toNat_lt.2 (by omega)
theorem sorted_ins {l : List EN} (h : Sorted l) {nm : ByteArray} {nd : Int} (h1 : ∀ n, (nm, n) ∉ l) : Sorted (insE l nm nd) := by
  have hlo : ∀ x ∈ l.take (posE l nm), Op.bytesLess x.1.toList nm.toList = true := fun x hx => by
    obtain ⟨i, hi0, rfl⟩ := List.getElem_of_mem hx
    have hi : i < posE l nm ∧ i < l.length := by rw [List.length_take] at hi0; omega
    rw [List.getElem_take]
    have h2 := List.not_of_lt_findIdx (p := fun e : EN => gtB e.1 nm) (xs := l) (i := i) hi.1
    unfold gtB at h2
    simp only [Bool.not_eq_false', Bool.or_eq_true, beq_iff_eq] at h2
    rcases h2 with h2 | h2
    · exact h2
    · have hm : l[i]'hi.2 ∈ l := List.getElem_mem hi.2
      have e := bytes_eq h2
      generalize l[i]'hi.2 = y at hm e
      exact absurd (by rw [← e]; exact hm) (h1 y.2)
  have hhi : ∀ x ∈ l.drop (posE l nm), Op.bytesLess nm.toList x.1.toList = true := fun x hx => by
    obtain ⟨i, hi, rfl⟩ := List.getElem_of_mem hx
    rw [List.length_drop] at hi
    rw [List.getElem_drop]
    have hp : posE l nm < l.length := by omega
    have h2 : gtB (l[posE l nm]'hp).1 nm = true := List.findIdx_getElem (p := fun e : EN => gtB e.1 nm) (w := hp)
    unfold gtB at h2
    simp only [Bool.not_eq_true', Bool.or_eq_false_iff] at h2
    have h3 := less_tri _ _ h2.1 (fun e => by rw [e] at h2; simp at h2)
    by_cases e : i = 0
    · subst e; exact h3
    · exact less_trans _ _ _ h3 (List.pairwise_iff_getElem.1 h (posE l nm) (posE l nm + i) hp (by omega) (by omega))
  unfold insE Sorted
  refine List.pairwise_append.2 ⟨List.Pairwise.sublist (List.take_sublist _ _) h, List.pairwise_cons.2 ⟨fun x hx => hhi x hx, List.Pairwise.sublist (List.drop_sublist _ _) h⟩, fun x hx y hy => ?_⟩
  rcases List.mem_cons.1 hy with rfl | hy
  · exact hlo x hx
  · exact less_trans _ _ _ (hlo x hx) (hhi y hy)
theorem Sorted.noName {es : List EN} (h : Sorted es) (s : ByteArray) : Sorted (noName es s) := List.Pairwise.sublist List.filter_sublist h
theorem rep_sorted {nodes : Int} {es l : List EN} {o : DO} (hs : Sorted es) (h : repE nodes es o = some l) : Sorted l := by
  unfold repE at h
  split at h
  · split at h
    · simp only [Option.some.injEq] at h
      subst h
      exact sorted_ins (hs.noName _) (fun n hn => (mem_noName.1 hn).2 rfl)
    · cases h
  · split at h
    · split at h
      · cases h
      · split at h
        · simp only [Option.some.injEq] at h
          subst h
          exact sorted_ins ((hs.noName _).noName _) (fun n hn => (mem_noName.1 hn).2 rfl)
        · cases h
    · split at h
      · split at h
        · cases h
        · split at h
          · simp only [Option.some.injEq] at h
            subst h
            exact hs.noName _
          · cases h
      · cases h
/-- What listing.entries is asked to do (its own walk is not in this text). -/
def EntriesLaw : Prop := ∀ (b1 b2 n : Nat) (es : List EN) (W : World), n ≤ 1048576 → es.length ≤ 300 → Apart es → Sorted es → (∀ e ∈ es, e.1.size ≤ 1048576) → LstAt W b1 b2 n es →
  Calls Tryz.prog 33 #[lstV b1 b2] W fun e w' => ∃ v, e = .returned v ∧ OwnE w' W.heap.size v es ∧ Below W.heap.size W w'
theorem mem_size {es l : List EN} {nodes : Int} {o : DO} (h : repE nodes es o = some l) (hs : ∀ e ∈ es, e.1.size ≤ 1048576) (h1 : o.2.1.size ≤ 1048576) (h2 : o.2.2.1.size ≤ 1048576) : ∀ e ∈ l, e.1.size ≤ 1048576 := by
  rintro ⟨s, n⟩ he
  unfold repE at h
  split at h
  · split at h
    · simp only [Option.some.injEq] at h
      subst h
      rcases mem_insE.1 he with ⟨rfl, _⟩ | he
      · exact h1
      · exact hs _ (mem_noName.1 he).1
    · cases h
  · split at h
    · split at h
      · cases h
      · split at h
        · simp only [Option.some.injEq] at h
          subst h
          rcases mem_insE.1 he with ⟨rfl, _⟩ | he
          · exact h2
          · exact hs _ (mem_noName.1 (mem_noName.1 he).1).1
        · cases h
    · split at h
      · split at h
        · cases h
        · split at h
          · simp only [Option.some.injEq] at h
            subst h
            exact hs _ (mem_noName.1 he).1
          · cases h
      · cases h
theorem okList_apart {nodes : Int} {es : List EN} (h : okList nodes es = true) : Apart es ∧ Sorted es ∧ es.length ≤ 300 ∧ ∀ e ∈ es, 0 ≤ e.2 ∧ e.2 < nodes := by
  unfold okList at h
  obtain ⟨h1, h2⟩ := of_decide_eq_true h
  have hp : ∀ i j (hi : i < es.length) (hj : j < es.length), i < j → Op.bytesLess es[i].1.toList es[j].1.toList = true ∧ es[i].2 ≠ es[j].2 := fun i j hi hj hij => by
    have h3 := (h2 j hj).2 i hij
    unfold apart at h3
    exact of_decide_eq_true h3
  refine ⟨List.pairwise_iff_getElem.2 fun i j hi hj hij => ⟨fun e => ?_, (hp i j hi hj hij).2⟩, List.pairwise_iff_getElem.2 fun i j hi hj hij => (hp i j hi hj hij).1, h1, fun e he => ?_⟩
  · have := (hp i j hi hj hij).1
    rw [e, less_irrefl] at this
    cases this
  · obtain ⟨i, hi, rfl⟩ := List.getElem_of_mem he
    have h3 := (h2 i hi).1
    unfold okEnt at h3
    exact (of_decide_eq_true h3).2
end Go.Proofs.YtpccongphchagaaGreatDoor
namespace Go.Proofs.YtpccongphchagaaGreatDoor
open Go.RowKit Go.Maps
theorem lst_len {w : World} {b1 b2 n : Nat} {es : List EN} (h : LstAt w b1 b2 n es) : ∀ ty, (Builtin.len_ #[74] ty #[.map (some b1)]).run Tryz.prog w = .ok (.int .i64 (es.length : Nat)) w := fun ty => by
  obtain ⟨D1, D2, hl, hr⟩ := h
  have h1 := hl.o1.len Tryz.underlying74 ty
  rw [hr.sz] at h1
  exact h1
theorem wf_node {n : Int} (h0 : 0 ≤ n) (h1 : n ≤ 1048576) : (Lit.int .i64 n).wf = true := WalkArith.wf_i64 (by omega)
set_option maxRecDepth 20000 in
set_option maxHeartbeats 1000000 in
theorem pend_any (HE : EntriesLaw) (a1 a2 a3 a4 : Option Addr) (c1 c2 c3 c4 : Nat) (ns : List (List Nat × Int)) (nm kp : List EN) (pd : List DO) (qt : Int) (w : World) (hns : ns.length ≤ 600) (hok : okList (ns.length : Int) kp = true) (hs3 : ∀ e ∈ kp, e.1.size ≤ 1048576) (hs4 : ∀ o ∈ pd, o.2.1.size ≤ 1048576 ∧ o.2.2.1.size ≤ 1048576) (hw4 : ∀ o ∈ pd, (Lit.int .i64 o.2.2.2).wf = true) (h2 : EntAt w a2 nm) (h3 : EntAt w a3 kp) (h4 : OpAt w a4 pd) :
    Calls Tryz.prog 27 #[.agg #[.slice a1 ns.length c1, .slice a2 nm.length c2, .slice a3 kp.length c3, .slice a4 pd.length c4, .int .i64 qt]] w (ValPost w (pd.length ≤ 1000 ∧ repAll (ns.length : Int) kp pd = some nm)) := by
  obtain ⟨kap, kso, kle, knd⟩ := okList_apart hok
  have hB0 : Below w.heap.size w (w.alloc (.cells #[.slice a1 ns.length c1, .slice a2 nm.length c2, .slice a3 kp.length c3, .slice a4 pd.length c4, .int .i64 qt] 27)) := (Below.refl _ _).alloc (Nat.le_refl _) _
  have L0 := Laid.new w #[.slice a1 ns.length c1, .slice a2 nm.length c2, .slice a3 kp.length c3, .slice a4 pd.length c4, .int .i64 qt] 27
  have HLO := hide (listingOf_any a3 c3 kp _ (by omega) hs3 (fun e he => wf_node (knd e he).1 (by have := (knd e he).2; omega)) kap (h3.below hB0))
  have HH2 := hide (h2.below hB0)
  have HH4 := hide (h4.below hB0)
  have HB0 := hide hB0
  have HL0 := hide L0
  have HS3 := hide hs3
  have HS4 := hide hs4
  have HW4 := hide hw4
  have HKA := hide kap
  have HKS := hide kso
  clear hok hB0 L0 h2 h3 h4 hs3 hs4 hw4 kap kso knd
  by_cases g4 : (1000 : Int) < (pd.length : Int)
  · go_enter Tryz.func27, Tryz.ntmps27
    go_wp2
    go_ret
    exact val_no (fun h => by omega) HB0.out
  have HVV := hide (show (pd.length ≤ 1000 ∧ repAll (ns.length : Int) kp pd = some nm) = (repAll (ns.length : Int) kp pd = some nm) from propext ⟨fun h => h.2, fun h => ⟨by omega, h⟩⟩)
  generalize (pd.length ≤ 1000 ∧ repAll (ns.length : Int) kp pd = some nm) = V at HVV ⊢
  go_enter Tryz.func27, Tryz.ntmps27
  go_wp2_with fail
  generalize w.alloc (.cells #[.slice a1 ns.length c1, .slice a2 nm.length c2, .slice a3 kp.length c3, .slice a4 pd.length c4, .int .i64 qt] 27) = W0 at HLO HH2 HH4 HB0 HL0 ⊢
  refine (HLO.out).mono ?_
  rintro e w1 ⟨b1, b2, rfl, hb1, hb2, hl1, hbw1⟩
  have hK1 := HL0.out.below hbw1 HL0.out.lt
  have r3 : w1.cell? ⟨w.heap.size, 3, none⟩ = some (.slice a4 pd.length c4) := hK1.cell 3
  have hlt0 := HL0.out.lt
  have hA := (Below.refl w1.heap.size w1).alloc (Nat.le_refl _) (.cells #[.map (some b1), .map (some b2)] 77)
  have r3a : (w1.alloc (.cells #[.map (some b1), .map (some b2)] 77)).cell? ⟨w.heap.size, 3, none⟩ = some (.slice a4 pd.length c4) := (hA.cell (p := ⟨w.heap.size, 3, none⟩) (lt_of_cell0 r3)).trans r3
  have HLA := hide (hl1.below hA hl1.lt.1 hl1.lt.2)
  have HN1 := hide (Laid.new w1 #[.map (some b1), .map (some b2)] 77)
  have HKA1 := hide (hK1.below hA hK1.lt)
  have HBA := hide (hbw1.trans (hA.mono hbw1.size))
  have hl1lt := hl1.lt
  have hs01 := hbw1.size
  unfold lstV
  clear hl1 hbw1 hK1 HLO
  go_wp2
  generalize hW : w1.alloc (.cells #[.map (some b1), .map (some b2)] 77) = W at HLA HN1 HKA1 HBA r3a ⊢
  clear hW hA r3
  go_loopw [5, 16] (fun _ i wr => ∃ (k : Nat) (es : List EN), k ≤ pd.length ∧ i = .int .i64 (k : Int) ∧ LstAt wr b1 b2 (kp.length + k) es ∧ Apart es ∧ Sorted es ∧ es.length ≤ 300 ∧ (∀ e ∈ es, e.1.size ≤ 1048576) ∧ repAll (ns.length : Int) kp pd = repAll (ns.length : Int) es (pd.drop k) ∧ Laid wr w.heap.size #[.slice a1 ns.length c1, .slice a2 nm.length c2, .slice a3 kp.length c3, .slice a4 pd.length c4, .int .i64 qt] 27 ∧ Laid wr w1.heap.size #[.map (some b1), .map (some b2)] 77 ∧ Below W0.heap.size W0 wr) (fun _ i _ => pd.length - (intOf i).toNat)
  case atStart => exact ⟨0, kp, Nat.zero_le _, rfl, HLA.out, HKA.out, HKS.out, kle, HS3.out, rfl, HKA1.out, HN1.out, HBA.out⟩
  case round =>
    obtain ⟨k, es, hk, rfl, hl, hap, hso, hle, hsz, hrp, hj0, hj1, hbv⟩ := hrel
    have u0 : wr.cell? ⟨w.heap.size, 0, none⟩ = some (.slice a1 ns.length c1) := hj0.cell 0
    have u1 : wr.cell? ⟨w.heap.size, 1, none⟩ = some (.slice a2 nm.length c2) := hj0.cell 1
    have m0 : wr.cell? ⟨w1.heap.size, 0, none⟩ = some (.map (some b1)) := hj1.cell 0
    have m1 : wr.cell? ⟨w1.heap.size, 1, none⟩ = some (.map (some b2)) := hj1.cell 1
    have hlt1 := hj1.lt
    have hltv := hl.lt
    have hbvs := hbv.size
    have HRP := hide hrp
    have HL := hide hl
    have HAP := hide hap
    have HSO := hide hso
    have HSZ := hide hsz
    have HJ0 := hide hj0
    have HJ1 := hide hj1
    have HBV := hide hbv
    have HWV := hide (HB0.out.trans (hbv.mono HB0.out.size))
    have hB0s := HB0.out.size
    clear hrp hl hap hso hsz hj0 hj1 hbv HLA HN1 HKA1 HBA r3a
    by_cases hlt : k < pd.length
    · have hRA := HRP.out
      rw [List.drop_eq_getElem_cons hlt, repAll] at hRA
      obtain ⟨b, off, rfl, hc⟩ := (HH4.out.below HBV.out) (by omega)
      obtain ⟨d0, d1, d2, d3⟩ := hc k hlt
      obtain ⟨hz1, hz2⟩ := HS4.out _ (List.getElem_mem hlt)
      have hwf := HW4.out _ (List.getElem_mem hlt)
      have HRA := hide hRA
      clear hRA hc HRP
      generalize hoo : pd[k] = oo at d0 d1 d2 d3 hz1 hz2 hwf HRA
      obtain ⟨kd, onm, oto, ond⟩ := oo
      clear hoo
      simp only at d0 d1 d2 d3 hz1 hz2 hwf HRA
      have hAo := (Below.refl wr.heap.size wr).alloc (Nat.le_refl _) (.cells #[.int .i64 kd, .string onm, .string oto, .int .i64 ond] 68)
      have HRE := hide (replay_list b1 b2 (kp.length + k) es kd onm oto ond (ns.length : Int) _ hz1 hz2 (by omega) hwf (HL.out.below hAo hltv.1 hltv.2) HAP.out)
      unfold lstV at HRE
      have HJ0a := hide (HJ0.out.below hAo HJ0.out.lt)
      have HJ1a := hide (HJ1.out.below hAo HJ1.out.lt)
      have HXA := hide (HBV.out.trans (hAo.mono HBV.out.size))
      have u0a : (wr.alloc (.cells #[.int .i64 kd, .string onm, .string oto, .int .i64 ond] 68)).cell? ⟨w.heap.size, 0, none⟩ = some (.slice a1 ns.length c1) := HJ0a.out.cell 0
      have m0a : (wr.alloc (.cells #[.int .i64 kd, .string onm, .string oto, .int .i64 ond] 68)).cell? ⟨w1.heap.size, 0, none⟩ = some (.map (some b1)) := HJ1a.out.cell 0
      have m1a : (wr.alloc (.cells #[.int .i64 kd, .string onm, .string oto, .int .i64 ond] 68)).cell? ⟨w1.heap.size, 1, none⟩ = some (.map (some b2)) := HJ1a.out.cell 1
      have hsA : (wr.alloc (.cells #[.int .i64 kd, .string onm, .string oto, .int .i64 ond] 68)).heap.size = wr.heap.size + 1 := World.size_alloc ..
      clear hAo
      go_wp2_with fail
      generalize wr.alloc (.cells #[.int .i64 kd, .string onm, .string oto, .int .i64 ond] 68) = W5 at HRE HJ0a HJ1a HXA u0a m0a m1a hsA ⊢
      refine (HRE.out).mono ?_
      intro e w6 hp
      clear HRE u0 u1 m0 m1 d0 d1 d2 d3
      have HMS := hide (fun L (h : repE (ns.length : Int) es (kd, onm, oto, ond) = some L) => mem_size h HSZ.out hz1 hz2)
      have HAP2 := hide (fun L (h : repE (ns.length : Int) es (kd, onm, oto, ond) = some L) => rep_good HAP.out h)
      have HSO2 := hide (fun L (h : repE (ns.length : Int) es (kd, onm, oto, ond) = some L) => rep_sorted HSO.out h)
      generalize repE (ns.length : Int) es (kd, onm, oto, ond) = R at HRA hp HMS HAP2 HSO2
      cases R with
      | none =>
        obtain ⟨rfl, hl6, hof6⟩ := hp
        have HN := hide (show ¬ V by rw [HVV.out, HRA.out]; simp)
        have HB6 := hide (HB0.out.trans ((HXA.out.trans (hof6.below (B := W0.heap.size) hb1 hb2 (by omega))).mono HB0.out.size))
        clear hl6 hof6
        go_wp2
        go_ret
        exact val_no HN.out HB6.out
      | some L =>
        obtain ⟨rfl, hl6, hof6⟩ := hp
        have hJ6 := HJ1a.out.off hof6 (by omega) (by omega)
        have n0 : w6.cell? ⟨w1.heap.size, 0, none⟩ = some (.map (some b1)) := hJ6.cell 0
        have hlen := lst_len hl6
        have HL6 := hide hl6
        have HX6 := hide (HXA.out.trans (hof6.below (B := W0.heap.size) hb1 hb2 (by omega)))
        have HN0 := hide (HJ0a.out.off hof6 (by omega) (by omega))
        have HN1 := hide hJ6
        clear hl6 hof6 hJ6
        by_cases hbig : (300 : Int) < (L.length : Int)
        · have HN := hide (show ¬ V by rw [HVV.out, HRA.out]; simp only; rw [if_pos (by omega)]; simp)
          have HB6 := hide (HB0.out.trans (HX6.out.mono HB0.out.size))
          go_wp2
          go_ret
          exact val_no HN.out HB6.out
        · have HR6 := hide (show repAll (ns.length : Int) kp pd = repAll (ns.length : Int) L (pd.drop (k + 1)) by rw [HRA.out]; simp only; rw [if_neg (by omega)])
          go_wp2
          go_roundw
          case rel => exact ⟨k + 1, L, by omega, by go_num, HL6.out, HAP2.out L rfl, HSO2.out L rfl, by omega, HMS.out L rfl, HR6.out, HN0.out, HN1.out, HX6.out⟩
          case measure => simp [intOf]; omega
    · obtain rfl : k = pd.length := by omega
      have hfin := HRP.out
      rw [List.drop_length, repAll] at hfin
      have HFI := hide hfin
      have HEE := hide (fun (X : World) (hX : Below wr.heap.size wr X) => HE b1 b2 (kp.length + pd.length) es X (by omega) hle HAP.out HSO.out HSZ.out (HL.out.below hX hltv.1 hltv.2))
      unfold lstV at HEE
      clear hfin
      go_wp2
      go_region_with (first
        | (go_at_call 33; refine (HEE.out _ (Below.refl _ _).drew).mono ?_; rintro e w6 ⟨v6, rfl, ho6, hb6⟩; obtain ⟨a6, c6, rfl⟩ := ho6.slice; have u1a : w6.cell? ⟨w.heap.size, 1, none⟩ = some (.slice a2 nm.length c2) := (hb6.cell (p := ⟨w.heap.size, 1, none⟩) (lt_of_cell0 u1)).trans u1; have HO6 := hide ho6; have HB6 := hide (((Below.refl wr.heap.size wr).drew).trans hb6); clear ho6 hb6)
        | (go_at_call 59; refine (equalE_any a6 a2 c6 c2 es nm w6 (by omega) HO6.out.at ((HH2.out.below HBV.out).below HB6.out)).mono ?_; rintro e w7 ⟨⟨r, rfl, hrr⟩, n7, rfl⟩; have HRR := hide hrr; clear hrr))
      all_goals
        go_wp2
        go_ret
        exact ⟨r, rfl, by rw [HRR.out, HVV.out, HFI.out]; simp, below_drewN (HWV.out.trans (HB6.out.mono (by omega))) _⟩
end Go.Proofs.YtpccongphchagaaGreatDoor
namespace Go.Proofs.YtpccongphchagaaGreatDoor
open Go.RowKit Go.Maps
theorem okNodes_len {ns : List (List Nat × Int)} (h : okNodes ns = true) : ns.length ≤ 600 := (of_decide_eq_true h).1
set_option maxRecDepth 20000 in
set_option maxHeartbeats 1000000 in
theorem implValid_any (HE : EntriesLaw) (a1 a2 a3 a4 : Option Addr) (c1 c2 c3 c4 : Nat) (D : MDisk) (w : World) (hM : Modest D) (hw4 : ∀ o ∈ D.pend, (Lit.int .i64 o.2.2.2).wf = true) (h1 : NodeAt w a1 D.nodes) (h2 : EntAt w a2 D.names) (h3 : EntAt w a3 D.kept) (h4 : OpAt w a4 D.pend) :
    Calls Tryz.prog 8 #[.agg #[.slice a1 D.nodes.length c1, .slice a2 D.names.length c2, .slice a3 D.kept.length c3, .slice a4 D.pend.length c4, .int .i64 D.quota]] w (ValPost w (ValidD D)) := by
  have hB0 : Below w.heap.size w (w.alloc (.cells #[.slice a1 D.nodes.length c1, .slice a2 D.names.length c2, .slice a3 D.kept.length c3, .slice a4 D.pend.length c4, .int .i64 D.quota] 27)) := (Below.refl _ _).alloc (Nat.le_refl _) _
  have L0 := Laid.new w #[.slice a1 D.nodes.length c1, .slice a2 D.names.length c2, .slice a3 D.kept.length c3, .slice a4 D.pend.length c4, .int .i64 D.quota] 27
  obtain ⟨ns, nm, kp, pd, qt⟩ := D
  obtain ⟨m1, m2, m3, m4, msum, ms2, ms3, ms4⟩ := hM
  simp only at m1 m2 m3 m4 msum ms2 ms3 ms4 h1 h2 h3 h4 hB0 L0 hw4 ⊢
  have HV := hide (show ValidD ⟨ns, nm, kp, pd, qt⟩ = (0 ≤ qt ∧ qt ≤ 1000000 ∧ pd.length ≤ 1000 ∧ okNodes ns = true ∧ okList (ns.length : Int) nm = true ∧ okList (ns.length : Int) kp = true ∧ repAll (ns.length : Int) kp pd = some nm) from rfl)
  generalize ValidD ⟨ns, nm, kp, pd, qt⟩ = V at HV ⊢
  have HS2 := hide ms2
  have HS3 := hide ms3
  have HS4 := hide ms4
  have HW4 := hide hw4
  have HH1 := hide (h1.below hB0)
  have HH2 := hide (h2.below hB0)
  have HH3 := hide (h3.below hB0)
  have HH4 := hide (h4.below hB0)
  have HB0 := hide hB0
  have HL0 := hide L0
  clear ms2 ms3 ms4 h1 h2 h3 h4 hB0 L0 hw4
  by_cases g1 : 0 ≤ qt
  · by_cases g2 : qt ≤ 1000000
    · go_enter Tryz.func8, Tryz.ntmps8
      go_wp2_with fail
      generalize w.alloc (.cells #[.slice a1 ns.length c1, .slice a2 nm.length c2, .slice a3 kp.length c3, .slice a4 pd.length c4, .int .i64 qt] 27) = W0 at HH1 HH2 HH3 HH4 HB0 HL0 ⊢
      have hlt0 := HL0.out.lt
      refine (nodesFit_any a1 c1 ns W0 (by omega) (fun e he => Nat.le_trans (node_le ns e he) msum) msum HH1.out).mono ?_
      rintro e w1 ⟨rfl, hb1⟩
      have hK := HL0.out.below hb1 hlt0
      have p0 : w1.cell? ⟨w.heap.size, 0, none⟩ = some (.slice a1 ns.length c1) := hK.cell 0
      have p1 : w1.cell? ⟨w.heap.size, 1, none⟩ = some (.slice a2 nm.length c2) := hK.cell 1
      have HX1 := hide hb1
      have HW1 := hide (HB0.out.trans (hb1.mono HB0.out.size))
      have hs1 := hb1.size
      clear hK hb1
      by_cases o0 : okNodes ns = true
      · rw [o0]
        have hn6 := okNodes_len o0
        go_wp2_with fail
        refine (inOrder_any a2 c2 nm (ns.length : Int) w1 (by omega) (by omega) (fun e he => by have := HS2.out e he; omega) (HH2.out.below HX1.out)).mono ?_
        rintro e w2 ⟨rfl, hb2⟩
        have HX2 := hide (HX1.out.trans (hb2.mono HX1.out.size))
        have hK := HL0.out.below HX2.out hlt0
        have q0 : w2.cell? ⟨w.heap.size, 0, none⟩ = some (.slice a1 ns.length c1) := hK.cell 0
        have q2 : w2.cell? ⟨w.heap.size, 2, none⟩ = some (.slice a3 kp.length c3) := hK.cell 2
        have HW2 := hide (HB0.out.trans (HX2.out.mono HB0.out.size))
        clear hK hb2 p0 p1
        by_cases o1 : okList (ns.length : Int) nm = true
        · rw [o1]
          go_wp2_with fail
          refine (inOrder_any a3 c3 kp (ns.length : Int) w2 (by omega) (by omega) (fun e he => by have := HS3.out e he; omega) (HH3.out.below HX2.out)).mono ?_
          rintro e w3 ⟨rfl, hb3⟩
          have HX3 := hide (HX2.out.trans (hb3.mono HX2.out.size))
          have hK := HL0.out.below HX3.out hlt0
          have r0 : w3.cell? ⟨w.heap.size, 0, none⟩ = some (.slice a1 ns.length c1) := hK.cell 0
          have r1 : w3.cell? ⟨w.heap.size, 1, none⟩ = some (.slice a2 nm.length c2) := hK.cell 1
          have r2 : w3.cell? ⟨w.heap.size, 2, none⟩ = some (.slice a3 kp.length c3) := hK.cell 2
          have r3 : w3.cell? ⟨w.heap.size, 3, none⟩ = some (.slice a4 pd.length c4) := hK.cell 3
          have r4 : w3.cell? ⟨w.heap.size, 4, none⟩ = some (.int .i64 qt) := hK.cell 4
          have HW3 := hide (HB0.out.trans (HX3.out.mono HB0.out.size))
          clear hK hb3 q0 q2
          by_cases o2 : okList (ns.length : Int) kp = true
          · rw [o2]
            have HPE := hide (pend_any HE a1 a2 a3 a4 c1 c2 c3 c4 ns nm kp pd qt w3 hn6 o2 HS3.out HS4.out HW4.out (HH2.out.below HX3.out) (HH3.out.below HX3.out) (HH4.out.below HX3.out))
            have HVV := hide (show V = (pd.length ≤ 1000 ∧ repAll (ns.length : Int) kp pd = some nm) by
              rw [HV.out]
              exact propext ⟨fun h => ⟨h.2.2.1, h.2.2.2.2.2.2⟩, fun h => ⟨g1, g2, h.1, o0, o1, o2, h.2⟩⟩)
            clear HV o0 o1 o2
            go_wp2_with fail
            refine (HPE.out).mono ?_
            rintro e w4 ⟨r, rfl, hrr, hb4⟩
            have HRR := hide hrr
            have HW4' := hide (HW3.out.trans (hb4.mono HW3.out.size))
            clear hrr hb4 HPE
            go_wp2
            go_ret
            exact ⟨r, rfl, by rw [HVV.out]; exact HRR.out, HW4'.out⟩
          · have o2' : okList (ns.length : Int) kp = false := by simpa using o2
            rw [o2']
            go_wp2
            go_ret
            exact val_no (by rw [HV.out]; exact fun h => o2 h.2.2.2.2.2.1) HW3.out
        · have o1' : okList (ns.length : Int) nm = false := by simpa using o1
          rw [o1']
          go_wp2
          go_ret
          exact val_no (by rw [HV.out]; exact fun h => o1 h.2.2.2.2.1) HW2.out
      · have o0' : okNodes ns = false := by simpa using o0
        rw [o0']
        go_wp2
        go_ret
        exact val_no (by rw [HV.out]; exact fun h => o0 h.2.2.2.1) HW1.out
    · have HN := hide (show ¬ V by rw [HV.out]; exact fun h => g2 h.2.1)
      go_enter Tryz.func8, Tryz.ntmps8
      go_wp2
      go_ret
      exact val_no HN.out HB0.out
  · have HN := hide (show ¬ V by rw [HV.out]; exact fun h => g1 h.1)
    go_enter Tryz.func8, Tryz.ntmps8
    go_wp2
    go_ret
    exact val_no HN.out HB0.out
end Go.Proofs.YtpccongphchagaaGreatDoor
namespace Go.Proofs.YtpccongphchagaaGreatDoor
open Go.RowKit
/-- Strings that lie at an address. -/
def StrAt (w : World) (a : Option Addr) (xs : List ByteArray) : Prop := 0 < xs.length → ∃ b off, a = some ⟨b, off, none⟩ ∧ ∀ i (h : i < xs.length), w.cell? ⟨b, off + i, none⟩ = some (.string xs[i])
theorem isNaN_any (s : ByteArray) (w : World) : Calls Tryz.prog 84 #[.string s] w fun e w' => e = .returned (.bool false) ∧ w' = w := by
  have h : (s.toList == s.toList) = true := by simp
  go_enter Tryz.func84, Tryz.ntmps84
  go_wp2
  go_ret
  exact ⟨rfl, rfl⟩
theorem sisNaN_any (s : ByteArray) (w : World) : Calls Tryz.prog 90 #[.string s] w fun e w' => e = .returned (.bool false) ∧ w' = w := by
  have h : (s.toList == s.toList) = true := by simp
  go_enter Tryz.func90, Tryz.ntmps90
  go_wp2
  go_ret
  exact ⟨rfl, rfl⟩
theorem cmpLess_any (x y : ByteArray) (w : World) : Calls Tryz.prog 89 #[.string x, .string y] w fun e w' => e = .returned (.bool (Op.bytesLess x.toList y.toList)) ∧ w' = w := by
  generalize hq : Op.bytesLess x.toList y.toList = q
  go_enter Tryz.func89, Tryz.ntmps89
  go_wp2_with fail
  refine (isNaN_any x w).mono ?_
  rintro e w1 ⟨rfl, rfl⟩
  go_wp2
  go_ret
  exact ⟨rfl, rfl⟩
theorem sorted_lo {xs : List ByteArray} {t : ByteArray} (hso : xs.Pairwise fun x y => Op.bytesLess x.toList y.toList = true) {m : Nat} (hm : m < xs.length) (h : Op.bytesLess xs[m].toList t.toList = true) : ∀ k (hk : k < xs.length), k < m + 1 → Op.bytesLess xs[k].toList t.toList = true := by
  intro k hk hk'
  by_cases e : k = m
  · subst e; exact h
  · exact less_trans _ _ _ (List.pairwise_iff_getElem.1 hso k m hk hm (by omega)) h
theorem sorted_hi {xs : List ByteArray} {t : ByteArray} (hso : xs.Pairwise fun x y => Op.bytesLess x.toList y.toList = true) {m : Nat} (hm : m < xs.length) (h : Op.bytesLess xs[m].toList t.toList = false) : ∀ k (hk : k < xs.length), m ≤ k → Op.bytesLess xs[k].toList t.toList = false := by
  intro k hk hk'
  by_cases e : k = m
  · subst e; exact h
  · cases e2 : Op.bytesLess xs[k].toList t.toList with
    | false => rfl
    | true =>
      have h3 := less_trans _ _ _ (List.pairwise_iff_getElem.1 hso m k hm hk (by omega)) e2
      rw [h] at h3
      cases h3
/-- What slices.BinarySearch tells of sorted strings: all ahead of the place are below t, none from it on is. -/
def BsPost (xs : List ByteArray) (t : ByteArray) (e : Ending) : Prop := ∃ (i : Nat) (f : Bool), e = .returned (.tuple #[.int .i64 (i : Int), .bool f]) ∧ i ≤ xs.length ∧ (∀ k (h : k < xs.length), k < i → Op.bytesLess xs[k].toList t.toList = true) ∧ (∀ k (h : k < xs.length), i ≤ k → Op.bytesLess xs[k].toList t.toList = false)
set_option maxRecDepth 20000 in
set_option maxHeartbeats 1000000 in
theorem bsearch_any (a : Option Addr) (cap : Nat) (xs : List ByteArray) (t : ByteArray) (w : World) (hn : xs.length ≤ 1048576) (hr : StrAt w a xs) (hso : xs.Pairwise fun x y => Op.bytesLess x.toList y.toList = true) :
    Calls Tryz.prog 82 #[.slice a xs.length cap, .string t] w fun e w' => BsPost xs t e ∧ w' = w := by
  have HSO := hide hso
  clear hso
  go_enter Tryz.func82, Tryz.ntmps82
  go_wp2
  go_loopw [7, 8, 9] (fun i j _ wr => ∃ (p q : Nat), p ≤ q ∧ q ≤ xs.length ∧ i = .int .i64 (p : Int) ∧ j = .int .i64 (q : Int) ∧ (∀ k (h : k < xs.length), k < p → Op.bytesLess xs[k].toList t.toList = true) ∧ (∀ k (h : k < xs.length), q ≤ k → Op.bytesLess xs[k].toList t.toList = false) ∧ wr = w) (fun i j _ _ => (intOf j).toNat - (intOf i).toNat)
  case atStart => exact ⟨0, xs.length, Nat.zero_le _, Nat.le_refl _, rfl, rfl, fun k _ h => by omega, fun k h h' => by omega, rfl⟩
  case round =>
    obtain ⟨p, q, hpq, hq, rfl, rfl, hlo, hhi, rfl⟩ := hrel
    have HLO := hide hlo
    have HHI := hide hhi
    clear hlo hhi
    by_cases hlt : p < q
    · have hpi : (p : Int) < (q : Int) := by omega
      obtain ⟨m, hm⟩ : ∃ m, m = (p + q) / 2 := ⟨_, rfl⟩
      have hm1 : p ≤ m ∧ m < q := by omega
      have hmi : ((p : Int) + (q : Int)) / 2 = (m : Int) := by omega
      clear hm
      obtain ⟨b, off, rfl, hc⟩ := hr (by omega)
      have hml : m < xs.length := by omega
      have hcm := hc m hml
      have hmn : (m : Int) < (xs.length : Int) := by omega
      have HL2 := hide (sorted_lo (t := t) HSO.out hml)
      have HH2 := hide (sorted_hi (t := t) HSO.out hml)
      generalize hxm : xs[m] = xm at hcm HL2 HH2
      clear hc hxm
      go_wp2_with fail
      refine (cmpLess_any xm t wr).mono ?_
      rintro e w2 ⟨rfl, rfl⟩
      cases hq2 : Op.bytesLess xm.toList t.toList with
      | true =>
        have HN := hide (HL2.out hq2)
        go_wp2
        go_roundw
        case rel => exact ⟨m + 1, q, by omega, hq, by go_num, rfl, HN.out, HHI.out, by trivial⟩
        case measure => simp [intOf]; omega
      | false =>
        have HN := hide (HH2.out hq2)
        go_wp2
        go_roundw
        case rel => exact ⟨p, m, by omega, by omega, rfl, by go_num, HLO.out, HN.out, by trivial⟩
        case measure => simp [intOf]; omega
    · obtain rfl : p = q := by omega
      by_cases hpl : p < xs.length
      · have hpi : (p : Int) < (xs.length : Int) := by omega
        obtain ⟨b, off, rfl, hc⟩ := hr (by omega)
        have hcm := hc p hpl
        generalize hxp : xs[p] = xp at hcm
        clear hc hxp
        by_cases e : xp = t
        · have hb := beq_of_eq e
          clear e
          go_wp2
          go_ret2
          exact ⟨⟨p, true, rfl, hq, HLO.out, HHI.out⟩, rfl⟩
        · have hb := beq_of_ne e
          clear e
          go_wp2_with fail
          refine (sisNaN_any xp wr).mono ?_
          rintro e w2 ⟨rfl, rfl⟩
          go_wp2
          go_ret2
          exact ⟨⟨p, false, rfl, hq, HLO.out, HHI.out⟩, rfl⟩
      · have hpi : ¬ (p : Int) < (xs.length : Int) := by omega
        go_wp2
        go_ret2
        exact ⟨⟨p, false, rfl, hq, HLO.out, HHI.out⟩, rfl⟩
end Go.Proofs.YtpccongphchagaaGreatDoor
