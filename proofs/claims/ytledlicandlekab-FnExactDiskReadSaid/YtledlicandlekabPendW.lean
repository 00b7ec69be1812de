import Derived.Test.YtledlicandlekabPendL
import Derived.Deep.RegionWith
namespace Go.Proofs.Ytledlicandlekab
open Go.RowKit Go.Maps
theorem lst_len {w : World} {b1 b2 n : Nat} {es : List EN} (h : LstAt w b1 b2 n es) : ∀ ty, (Builtin.len_ #[77] ty #[.map (some b1)]).run Try.prog w = .ok (.int .i64 (es.length : Nat)) w := fun ty => by
  obtain ⟨D1, D2, hl, hr⟩ := h
  have h1 := hl.o1.len Try.underlying77 ty
  rw [hr.sz] at h1
  exact h1
theorem wf_node {n : Int} (h0 : 0 ≤ n) (h1 : n ≤ 1048576) : (Lit.int .i64 n).wf = true := WalkArith.wf_i64 (by omega)
set_option maxRecDepth 20000 in
set_option maxHeartbeats 1000000 in
theorem pend_any (HE : EntriesLaw) (a1 a2 a3 a4 : Option Addr) (c1 c2 c3 c4 : Nat) (ns : List (List Nat × Int)) (nm kp : List EN) (pd : List DO) (qt : Int) (w : World) (hns : ns.length ≤ 600) (hok : okList (ns.length : Int) kp = true) (hs3 : ∀ e ∈ kp, e.1.size ≤ 1048576) (hs4 : ∀ o ∈ pd, o.2.1.size ≤ 1048576 ∧ o.2.2.1.size ≤ 1048576) (hw4 : ∀ o ∈ pd, (Lit.int .i64 o.2.2.2).wf = true) (h2 : EntAt w a2 nm) (h3 : EntAt w a3 kp) (h4 : OpAt w a4 pd) :
    Calls Try.prog 62 #[.agg #[.slice a1 ns.length c1, .slice a2 nm.length c2, .slice a3 kp.length c3, .slice a4 pd.length c4, .int .i64 qt]] w (ValPost w (pd.length ≤ 1000 ∧ repAll (ns.length : Int) kp pd = some nm)) := by
  obtain ⟨kap, kso, kle, knd⟩ := okList_apart hok
  have hB0 : Below w.heap.size w (w.alloc (.cells #[.slice a1 ns.length c1, .slice a2 nm.length c2, .slice a3 kp.length c3, .slice a4 pd.length c4, .int .i64 qt] 36)) := (Below.refl _ _).alloc (Nat.le_refl _) _
  have L0 := Laid.new w #[.slice a1 ns.length c1, .slice a2 nm.length c2, .slice a3 kp.length c3, .slice a4 pd.length c4, .int .i64 qt] 36
  have HLO := hide (listingOf_any a3 c3 kp _ (by omega) hs3 (fun e he => wf_node (knd e he).1 (by have := (knd e he).2; omega)) kap (h3.below hB0))
  have HH2 := hide (h2.below hB0)
  have HH4 := hide (h4.below hB0)
  have HB0 := hide hB0
  have HL0 := hide L0
  have HS3 := hide hs3
  have HS4 := hide hs4
  have HW4 := hide hw4
  have HKA := hide kap
  have HKS := hide kso
  clear hok hB0 L0 h2 h3 h4 hs3 hs4 hw4 kap kso knd
  by_cases g4 : (1000 : Int) < (pd.length : Int)
  · go_enter Try.func62, Try.ntmps62
    go_wp2
    go_ret
    exact val_no (fun h => by omega) HB0.out
  have HVV := hide (show (pd.length ≤ 1000 ∧ repAll (ns.length : Int) kp pd = some nm) = (repAll (ns.length : Int) kp pd = some nm) from propext ⟨fun h => h.2, fun h => ⟨by omega, h⟩⟩)
  generalize (pd.length ≤ 1000 ∧ repAll (ns.length : Int) kp pd = some nm) = V at HVV ⊢
  go_enter Try.func62, Try.ntmps62
  go_wp2_with fail
  generalize w.alloc (.cells #[.slice a1 ns.length c1, .slice a2 nm.length c2, .slice a3 kp.length c3, .slice a4 pd.length c4, .int .i64 qt] 36) = W0 at HLO HH2 HH4 HB0 HL0 ⊢
  refine (HLO.out).mono ?_
  rintro e w1 ⟨b1, b2, rfl, hb1, hb2, hl1, hbw1⟩
  have hK1 := HL0.out.below hbw1 HL0.out.lt
  have r3 : w1.cell? ⟨w.heap.size, 3, none⟩ = some (.slice a4 pd.length c4) := hK1.cell 3
  have hlt0 := HL0.out.lt
  have hA := (Below.refl w1.heap.size w1).alloc (Nat.le_refl _) (.cells #[.map (some b1), .map (some b2)] 80)
  have r3a : (w1.alloc (.cells #[.map (some b1), .map (some b2)] 80)).cell? ⟨w.heap.size, 3, none⟩ = some (.slice a4 pd.length c4) := (hA.cell (p := ⟨w.heap.size, 3, none⟩) (lt_of_cell0 r3)).trans r3
  have HLA := hide (hl1.below hA hl1.lt.1 hl1.lt.2)
  have HN1 := hide (Laid.new w1 #[.map (some b1), .map (some b2)] 80)
  have HKA1 := hide (hK1.below hA hK1.lt)
  have HBA := hide (hbw1.trans (hA.mono hbw1.size))
  have hl1lt := hl1.lt
  have hs01 := hbw1.size
  unfold lstV
  clear hl1 hbw1 hK1 HLO
  go_wp2
  generalize hW : w1.alloc (.cells #[.map (some b1), .map (some b2)] 80) = W at HLA HN1 HKA1 HBA r3a ⊢
  clear hW hA r3
  go_loopw [5, 16] (fun _ i wr => ∃ (k : Nat) (es : List EN), k ≤ pd.length ∧ i = .int .i64 (k : Int) ∧ LstAt wr b1 b2 (kp.length + k) es ∧ Apart es ∧ Sorted es ∧ es.length ≤ 300 ∧ (∀ e ∈ es, e.1.size ≤ 1048576) ∧ repAll (ns.length : Int) kp pd = repAll (ns.length : Int) es (pd.drop k) ∧ Laid wr w.heap.size #[.slice a1 ns.length c1, .slice a2 nm.length c2, .slice a3 kp.length c3, .slice a4 pd.length c4, .int .i64 qt] 36 ∧ Laid wr w1.heap.size #[.map (some b1), .map (some b2)] 80 ∧ Below W0.heap.size W0 wr) (fun _ i _ => pd.length - (intOf i).toNat)
  case atStart => exact ⟨0, kp, Nat.zero_le _, rfl, HLA.out, HKA.out, HKS.out, kle, HS3.out, rfl, HKA1.out, HN1.out, HBA.out⟩
  case round =>
    obtain ⟨k, es, hk, rfl, hl, hap, hso, hle, hsz, hrp, hj0, hj1, hbv⟩ := hrel
    have u0 : wr.cell? ⟨w.heap.size, 0, none⟩ = some (.slice a1 ns.length c1) := hj0.cell 0
    have u1 : wr.cell? ⟨w.heap.size, 1, none⟩ = some (.slice a2 nm.length c2) := hj0.cell 1
    have m0 : wr.cell? ⟨w1.heap.size, 0, none⟩ = some (.map (some b1)) := hj1.cell 0
    have m1 : wr.cell? ⟨w1.heap.size, 1, none⟩ = some (.map (some b2)) := hj1.cell 1
    have hlt1 := hj1.lt
    have hltv := hl.lt
    have hbvs := hbv.size
    have HRP := hide hrp
    have HL := hide hl
    have HAP := hide hap
    have HSO := hide hso
    have HSZ := hide hsz
    have HJ0 := hide hj0
    have HJ1 := hide hj1
    have HBV := hide hbv
    have HWV := hide (HB0.out.trans (hbv.mono HB0.out.size))
    have hB0s := HB0.out.size
    clear hrp hl hap hso hsz hj0 hj1 hbv HLA HN1 HKA1 HBA r3a
    by_cases hlt : k < pd.length
    · have hRA := HRP.out
      rw [List.drop_eq_getElem_cons hlt, repAll] at hRA
      obtain ⟨b, off, rfl, hc⟩ := (HH4.out.below HBV.out) (by omega)
      obtain ⟨d0, d1, d2, d3⟩ := hc k hlt
      obtain ⟨hz1, hz2⟩ := HS4.out _ (List.getElem_mem hlt)
      have hwf := HW4.out _ (List.getElem_mem hlt)
      have HRA := hide hRA
      clear hRA hc HRP
      generalize hoo : pd[k] = oo at d0 d1 d2 d3 hz1 hz2 hwf HRA
      obtain ⟨kd, onm, oto, ond⟩ := oo
      clear hoo
      simp only at d0 d1 d2 d3 hz1 hz2 hwf HRA
      have hAo := (Below.refl wr.heap.size wr).alloc (Nat.le_refl _) (.cells #[.int .i64 kd, .string onm, .string oto, .int .i64 ond] 74)
      have HRE := hide (replay_list b1 b2 (kp.length + k) es kd onm oto ond (ns.length : Int) _ hz1 hz2 (by omega) hwf (HL.out.below hAo hltv.1 hltv.2) HAP.out)
      unfold lstV at HRE
      have HJ0a := hide (HJ0.out.below hAo HJ0.out.lt)
      have HJ1a := hide (HJ1.out.below hAo HJ1.out.lt)
      have HXA := hide (HBV.out.trans (hAo.mono HBV.out.size))
      have u0a : (wr.alloc (.cells #[.int .i64 kd, .string onm, .string oto, .int .i64 ond] 74)).cell? ⟨w.heap.size, 0, none⟩ = some (.slice a1 ns.length c1) := HJ0a.out.cell 0
      have m0a : (wr.alloc (.cells #[.int .i64 kd, .string onm, .string oto, .int .i64 ond] 74)).cell? ⟨w1.heap.size, 0, none⟩ = some (.map (some b1)) := HJ1a.out.cell 0
      have m1a : (wr.alloc (.cells #[.int .i64 kd, .string onm, .string oto, .int .i64 ond] 74)).cell? ⟨w1.heap.size, 1, none⟩ = some (.map (some b2)) := HJ1a.out.cell 1
      have hsA : (wr.alloc (.cells #[.int .i64 kd, .string onm, .string oto, .int .i64 ond] 74)).heap.size = wr.heap.size + 1 := World.size_alloc ..
      clear hAo
      go_wp2_with fail
      generalize wr.alloc (.cells #[.int .i64 kd, .string onm, .string oto, .int .i64 ond] 74) = W5 at HRE HJ0a HJ1a HXA u0a m0a m1a hsA ⊢
      refine (HRE.out).mono ?_
      intro e w6 hp
      clear HRE u0 u1 m0 m1 d0 d1 d2 d3
      have HMS := hide (fun L (h : repE (ns.length : Int) es (kd, onm, oto, ond) = some L) => mem_size h HSZ.out hz1 hz2)
      have HAP2 := hide (fun L (h : repE (ns.length : Int) es (kd, onm, oto, ond) = some L) => rep_good HAP.out h)
      have HSO2 := hide (fun L (h : repE (ns.length : Int) es (kd, onm, oto, ond) = some L) => rep_sorted HSO.out h)
      generalize repE (ns.length : Int) es (kd, onm, oto, ond) = R at HRA hp HMS HAP2 HSO2
      cases R with
      | none =>
        obtain ⟨rfl, hl6, hof6⟩ := hp
        have HN := hide (show ¬ V by rw [HVV.out, HRA.out]; simp)
        have HB6 := hide (HB0.out.trans ((HXA.out.trans (hof6.below (B := W0.heap.size) hb1 hb2 (by omega))).mono HB0.out.size))
        clear hl6 hof6
        go_wp2
        go_ret
        exact val_no HN.out HB6.out
      | some L =>
        obtain ⟨rfl, hl6, hof6⟩ := hp
        have hJ6 := HJ1a.out.off hof6 (by omega) (by omega)
        have n0 : w6.cell? ⟨w1.heap.size, 0, none⟩ = some (.map (some b1)) := hJ6.cell 0
        have hlen := lst_len hl6
        have HL6 := hide hl6
        have HX6 := hide (HXA.out.trans (hof6.below (B := W0.heap.size) hb1 hb2 (by omega)))
        have HN0 := hide (HJ0a.out.off hof6 (by omega) (by omega))
        have HN1 := hide hJ6
        clear hl6 hof6 hJ6
        by_cases hbig : (300 : Int) < (L.length : Int)
        · have HN := hide (show ¬ V by rw [HVV.out, HRA.out]; simp only; rw [if_pos (by omega)]; simp)
          have HB6 := hide (HB0.out.trans (HX6.out.mono HB0.out.size))
          go_wp2
          go_ret
          exact val_no HN.out HB6.out
        · have HR6 := hide (show repAll (ns.length : Int) kp pd = repAll (ns.length : Int) L (pd.drop (k + 1)) by rw [HRA.out]; simp only; rw [if_neg (by omega)])
          go_wp2
          go_roundw
          case rel => exact ⟨k + 1, L, by omega, by go_num, HL6.out, HAP2.out L rfl, HSO2.out L rfl, by omega, HMS.out L rfl, HR6.out, HN0.out, HN1.out, HX6.out⟩
          case measure => simp [intOf]; omega
    · obtain rfl : k = pd.length := by omega
      have hfin := HRP.out
      rw [List.drop_length, repAll] at hfin
      have HFI := hide hfin
      have HEE := hide (fun (X : World) (hX : Below wr.heap.size wr X) => HE b1 b2 (kp.length + pd.length) es X (by omega) hle HAP.out HSO.out HSZ.out (HL.out.below hX hltv.1 hltv.2))
      unfold lstV at HEE
      clear hfin
      go_wp2
      go_region_with (first
        | (go_at_call 46; refine (HEE.out _ (Below.refl _ _).drew).mono ?_; rintro e w6 ⟨v6, rfl, ho6, hb6⟩; obtain ⟨a6, c6, rfl⟩ := ho6.slice; have u1a : w6.cell? ⟨w.heap.size, 1, none⟩ = some (.slice a2 nm.length c2) := (hb6.cell (p := ⟨w.heap.size, 1, none⟩) (lt_of_cell0 u1)).trans u1; have HO6 := hide ho6; have HB6 := hide (((Below.refl wr.heap.size wr).drew).trans hb6); clear ho6 hb6)
        | (go_at_call 81; refine (equalE_any a6 a2 c6 c2 es nm w6 (by omega) HO6.out.at ((HH2.out.below HBV.out).below HB6.out)).mono ?_; rintro e w7 ⟨⟨r, rfl, hrr⟩, n7, rfl⟩; have HRR := hide hrr; clear hrr))
      all_goals
        go_wp2
        go_ret
        exact ⟨r, rfl, by rw [HRR.out, HVV.out, HFI.out]; simp, below_drewN (HWV.out.trans (HB6.out.mono (by omega))) _⟩
end Go.Proofs.Ytledlicandlekab
