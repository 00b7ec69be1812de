import Derived.Test.YtpccongphchagaaGreatDoorPks
import Derived.Test.YtpccongphchagaaGreatDoorPkzc
namespace Go.Proofs.YtpccongphchagaaGreatDoor
open Go.RowKit
theorem IntAt.drew {w : World} {a : Option Addr} {l : List Int} (h : IntAt w a l) (n : Nat) : IntAt (w.drewN n) a l := h
theorem quiet_zero {P : Program} {f : FuncId} {args : Array Value} {w : World} {x : Nat} {v : Value} (h : Calls P f args (w.drewN x) fun e w' => e = .returned v ∧ w' = w.drewN x) : Calls P f args (w.drewN x) fun e w'' => e = .returned v ∧ ∃ n, w'' = w.drewN n :=
  h.mono fun _ _ ⟨he, hm⟩ => ⟨he, x, hm⟩
theorem at_world {F : World → Prop} {wr : World} {k : Nat} (h : ∀ W, W = wr.drewN k → F W) : F (wr.drewN k) := h _ rfl
theorem drewN_below {w w1 : World} {n : Nat} (h : w1 = w.drewN n) : Below w.heap.size w w1 := by rw [h]; exact below_drewN (Below.refl _ _) n
set_option maxRecDepth 20000 in
set_option maxHeartbeats 4000000 in
theorem implCrash_any (v : Value) (D : MDisk) (dirs : Int) (ap : Option Addr) (cp : Nat) (picks : List Int) (w : World) (hM : Modest D) (hw : ∀ o ∈ D.pend, (Lit.int .i64 o.2.2.2).wf = true) (hd : DiskAt w v D) (hcp : DiskCap w v D) (hpl : picks.length ≤ 1048576) (hpk : IntAt w ap picks) :
    Calls Tryz.prog 10 #[v, .int .i64 dirs, .slice ap picks.length cp] w (DiskPost (crOf D dirs picks) w) := by
  have HAT := hide (fun w' (hb : Below w.heap.size w w') => hd.below hb)
  have HPK := hide (fun w' (hb : Below w.heap.size w w') => hpk.below hb)
  obtain ⟨a1, m1, c1, xx2, xx3, a4, m4, c4, xx5, rfl, hcap, hpcap⟩ := hcp
  have HCAP := hide (fun w' (hb : Below w.heap.size w w') => hcap.below hb)
  obtain ⟨z1, n1, d1, a2, m2, c2, a3, m3, c3, z4, n4, d4, q, hv⟩ := hd.shape
  clear hd hpk hcap
  simp only [Value.agg.injEq, Array.mk.injEq, List.cons.injEq, Value.slice.injEq, and_true] at hv
  obtain ⟨⟨rfl, rfl, rfl⟩, rfl, rfl, ⟨rfl, rfl, rfl⟩, rfl⟩ := hv
  have hA : Below w.heap.size w ((w.alloc (.cells #[.slice a1 m1 c1, .slice a2 m2 c2, .slice a3 m3 c3, .slice a4 m4 c4, .int .i64 q] 27)).alloc (.cells #[.slice none 0 0, .slice none 0 0, .slice none 0 0, .slice none 0 0, .int .i64 0] 27)) := ((Below.refl _ _).alloc (Nat.le_refl _) _).alloc (by simp) _
  have hz : ((w.alloc (.cells #[.slice a1 m1 c1, .slice a2 m2 c2, .slice a3 m3 c3, .slice a4 m4 c4, .int .i64 q] 27)).alloc (.cells #[.slice none 0 0, .slice none 0 0, .slice none 0 0, .slice none 0 0, .int .i64 0] 27)).heap.size = w.heap.size + 2 := by simp
  have L0 : Laid ((w.alloc (.cells #[.slice a1 m1 c1, .slice a2 m2 c2, .slice a3 m3 c3, .slice a4 m4 c4, .int .i64 q] 27)).alloc (.cells #[.slice none 0 0, .slice none 0 0, .slice none 0 0, .slice none 0 0, .int .i64 0] 27)) w.heap.size #[.slice a1 m1 c1, .slice a2 m2 c2, .slice a3 m3 c3, .slice a4 m4 c4, .int .i64 q] 27 := Laid.below (B := w.heap.size + 1) (Laid.new w _ _) ((Below.refl _ _).alloc (by simp) _) (by omega)
  have C0 := Laid.new (w.alloc (.cells #[.slice a1 m1 c1, .slice a2 m2 c2, .slice a3 m3 c3, .slice a4 m4 c4, .int .i64 q] 27)) #[.slice none 0 0, .slice none 0 0, .slice none 0 0, .slice none 0 0, .int .i64 0] 27
  rw [show (w.alloc (.cells #[.slice a1 m1 c1, .slice a2 m2 c2, .slice a3 m3 c3, .slice a4 m4 c4, .int .i64 q] 27)).heap.size = w.heap.size + 1 from World.size_alloc ..] at C0
  have HM := hide hM
  have HW := hide hw
  clear hM hw
  go_enter Tryz.func10, Tryz.ntmps10
  go_wp2_with fail
  generalize (w.alloc (.cells #[.slice a1 m1 c1, .slice a2 m2 c2, .slice a3 m3 c3, .slice a4 m4 c4, .int .i64 q] 27)).alloc (.cells #[.slice none 0 0, .slice none 0 0, .slice none 0 0, .slice none 0 0, .int .i64 0] 27) = w0 at hA L0 C0 hz ⊢
  refine (implValid_v (HAT.out w0 hA) HM.out HW.out).mono ?_
  rintro e w1 ⟨r, rfl, hrr, hb1⟩
  have HB1 := hide (hA.trans (hb1.mono hA.size))
  have L1 := L0.below hb1 L0.lt
  have C1 := C0.below hb1 C0.lt
  have hsz1 : w.heap.size + 2 ≤ w1.heap.size := by have := hb1.size; omega
  have f0 : w1.frozen? ⟨w.heap.size + 1, 0, none⟩ = false := frozen_of_row w1 (w.heap.size + 1) 0 _ _ C1
  have f1 : w1.frozen? ⟨w.heap.size + 1, 1, none⟩ = false := frozen_of_row w1 (w.heap.size + 1) 1 _ _ C1
  have f2 : w1.frozen? ⟨w.heap.size + 1, 2, none⟩ = false := frozen_of_row w1 (w.heap.size + 1) 2 _ _ C1
  have f3 : w1.frozen? ⟨w.heap.size + 1, 3, none⟩ = false := frozen_of_row w1 (w.heap.size + 1) 3 _ _ C1
  have f4 : w1.frozen? ⟨w.heap.size + 1, 4, none⟩ = false := frozen_of_row w1 (w.heap.size + 1) 4 _ _ C1
  cases r with
  | false =>
    have HR := hide (crOf_no (dirs := dirs) (picks := picks) (fun h => by have := hrr.2 h; cases this))
    have z0 : w1.cell? ⟨w.heap.size + 1, 0, none⟩ = some (.slice none 0 0) := C1.cell 0
    have z1 : w1.cell? ⟨w.heap.size + 1, 1, none⟩ = some (.slice none 0 0) := C1.cell 1
    have z2 : w1.cell? ⟨w.heap.size + 1, 2, none⟩ = some (.slice none 0 0) := C1.cell 2
    have z3 : w1.cell? ⟨w.heap.size + 1, 3, none⟩ = some (.slice none 0 0) := C1.cell 3
    have z4 : w1.cell? ⟨w.heap.size + 1, 4, none⟩ = some (.int .i64 0) := C1.cell 4
    have HC := hide C1
    clear hA L0 C0 hb1 L1 C1 hrr
    go_wp2
    exact bodyPost_ret (ret_disk (w.heap.size + 1) _ _ _ _ _ _ rfl rfl (set_disk _ _ _ _ _ HC.out)) rfl (disk_no HR.out (by omega) HB1.out)
  | true =>
    have HV := hide (hrr.1 rfl)
    have HR := hide (crOf_yes (dirs := dirs) (picks := picks) (hrr.1 rfl))
    have t0 : w1.cell? ⟨w.heap.size, 0, none⟩ = some (.slice a1 m1 c1) := L1.cell 0
    have t2 : w1.cell? ⟨w.heap.size, 2, none⟩ = some (.slice a3 m3 c3) := L1.cell 2
    have t3 : w1.cell? ⟨w.heap.size, 3, none⟩ = some (.slice a4 m4 c4) := L1.cell 3
    have t4 : w1.cell? ⟨w.heap.size, 4, none⟩ = some (.int .i64 q) := L1.cell 4
    obtain ⟨e1, k1, e2, k2, e3, k3, e4, k4, hsh, r1, r2, r3, r4⟩ := HAT.out w1 HB1.out
    simp only [Value.agg.injEq, Array.mk.injEq, List.cons.injEq, Value.slice.injEq, Value.int.injEq, and_true, true_and] at hsh
    obtain ⟨⟨rfl, rfl, rfl⟩, ⟨rfl, rfl, rfl⟩, ⟨rfl, rfl, rfl⟩, ⟨rfl, rfl, rfl⟩, rfl⟩ := hsh
    have hfk := fine_kept HV.out HM.out
    have hkl := hfk.ln
    have hpl4 : D.pend.length ≤ 1000 := HV.out.2.2.1
    have hnl : D.nodes.length ≤ 600 := okNodes_len HV.out.2.2.2.1
    have L1' := hide L1
    have C1' := hide C1
    have HR1 := hide r1
    have HR4 := hide r4
    have LO := hide (listingOf_any a3 c3 D.kept w1 (by omega) hfk.sz (fun e he => wf_node (hfk.nd e he).1 (by have := (hfk.nd e he).2; omega)) hfk.ap r3)
    have FO := hide (fun W => firstOf_any a4 c4 D.pend.length dirs W (by omega) hpcap)
    clear hA L0 C0 hb1 L1 C1 hrr r1 r2 r3 r4 hfk f0 f1 f2 f3 f4 hpcap
    go_wp2_with fail
    refine LO.out.mono ?_
    rintro e w2 ⟨b1, b2, rfl, hl1, hl2, hLs, hb2⟩
    have hAl := (Below.refl w2.heap.size w2).alloc (Nat.le_refl _) (.cells #[.map (some b1), .map (some b2)] 77)
    have hbA := hb2.trans (hAl.mono hb2.size)
    have NL := hide (Laid.new w2 #[.map (some b1), .map (some b2)] 77)
    have HLs := hide (hLs.below hAl hLs.lt.1 hLs.lt.2)
    have hlt2 := hLs.lt
    have L2 := hide (L1'.out.below hbA L1'.out.lt)
    have HBA := hide hbA
    have x3 := L2.out.cell 3
    have hs12 := hb2.size
    unfold lstV
    clear LO hLs hb2 hAl hbA t0 t2 t3 t4
    go_wp2_with fail
    generalize w2.alloc (.cells #[.map (some b1), .map (some b2)] 77) = W3 at NL HLs L2 HBA x3 ⊢
    refine (FO.out W3).mono ?_
    rintro e W3' ⟨rfl, rfl⟩
    have HMN := hide (show min dirs.toNat D.pend.length ≤ D.pend.length from Nat.min_le_right _ _)
    have HPM := hide (pre_min2 (nodes := (D.nodes.length : Int)) (es := D.kept) (ops := D.pend) dirs.toNat)
    generalize min dirs.toNat D.pend.length = n0 at HMN HPM ⊢
    have hn0 := HMN.out
    clear FO x3
    go_wp2
    go_loopw [9, 27] (fun _ i wv => ∃ k : Nat, k ≤ n0 ∧ i = .int .i64 (k : Int) ∧ LstAt wv b1 b2 (D.kept.length + k) (preE (D.nodes.length : Int) D.kept D.pend k) ∧ Laid wv w2.heap.size #[.map (some b1), .map (some b2)] 77 ∧ Below w1.heap.size w1 wv) (fun _ i _ => n0 - (intOf i).toNat)
    case atStart => exact ⟨0, Nat.zero_le _, rfl, by rw [preE_zero]; exact HLs.out, NL.out, HBA.out⟩
    case round =>
      obtain ⟨k, hk, rfl, hls, hnl1, hbv⟩ := hrel
      have HL := hide hls
      have HJ1 := hide hnl1
      have HBV := hide hbv
      have hJ0 := L1'.out.below hbv L1'.out.lt
      have u0 : wr.cell? ⟨w.heap.size, 0, none⟩ = some (.slice a1 D.nodes.length c1) := hJ0.cell 0
      have u4 : wr.cell? ⟨w.heap.size, 4, none⟩ = some (.int .i64 D.quota) := hJ0.cell 4
      have m0 : wr.cell? ⟨w2.heap.size, 0, none⟩ = some (.map (some b1)) := hnl1.cell 0
      have m1 : wr.cell? ⟨w2.heap.size, 1, none⟩ = some (.map (some b2)) := hnl1.cell 1
      have hltv := hls.lt
      have hlt1 := hnl1.lt
      have hbvs := hbv.size
      have HFN := hide (fine_pre HV.out HM.out k)
      clear hls hnl1 hbv HLs NL HBA L2 hJ0
      by_cases hlt : k < n0
      · obtain ⟨b, off, rfl, hc⟩ := (HR4.out.below HBV.out) (by omega)
        obtain ⟨d0, d1, d2, d3⟩ := hc k (by omega)
        have hkp : k < D.pend.length := by omega
        obtain ⟨hz1, hz2⟩ := HM.out.s4 _ (List.getElem_mem hkp)
        have hwf := HW.out _ (List.getElem_mem hkp)
        have hst := preE_step k hkp HV.out.2.2.2.2.2.2
        have HST := hide hst
        clear hc hst u4
        generalize hoo : D.pend[k] = oo at d0 d1 d2 d3 hz1 hz2 hwf HST
        obtain ⟨kd, onm, oto, ond⟩ := oo
        clear hoo
        simp only at d0 d1 d2 d3 hz1 hz2 hwf
        have hAo := (Below.refl wr.heap.size wr).alloc (Nat.le_refl _) (.cells #[.int .i64 kd, .string onm, .string oto, .int .i64 ond] 68)
        have HRE := hide (replay_list b1 b2 (D.kept.length + k) _ kd onm oto ond (D.nodes.length : Int) _ hz1 hz2 (by omega) hwf (HL.out.below hAo hltv.1 hltv.2) HFN.out.ap)
        rw [HST.out] at HRE
        unfold lstV at HRE
        have HJ1a := hide (HJ1.out.below hAo HJ1.out.lt)
        have HXA := hide (HBV.out.trans (hAo.mono HBV.out.size))
        have u0a : (wr.alloc (.cells #[.int .i64 kd, .string onm, .string oto, .int .i64 ond] 68)).cell? ⟨w.heap.size, 0, none⟩ = some (.slice a1 D.nodes.length c1) := (hAo.cell (p := ⟨w.heap.size, 0, none⟩) (lt_of_cell0 u0)).trans u0
        have m0a : (wr.alloc (.cells #[.int .i64 kd, .string onm, .string oto, .int .i64 ond] 68)).cell? ⟨w2.heap.size, 0, none⟩ = some (.map (some b1)) := HJ1a.out.cell 0
        have m1a : (wr.alloc (.cells #[.int .i64 kd, .string onm, .string oto, .int .i64 ond] 68)).cell? ⟨w2.heap.size, 1, none⟩ = some (.map (some b2)) := HJ1a.out.cell 1
        have hsA : (wr.alloc (.cells #[.int .i64 kd, .string onm, .string oto, .int .i64 ond] 68)).heap.size = wr.heap.size + 1 := World.size_alloc ..
        clear hAo HL HJ1 HBV
        go_wp2_with fail
        generalize wr.alloc (.cells #[.int .i64 kd, .string onm, .string oto, .int .i64 ond] 68) = W5 at HRE HJ1a HXA u0a m0a m1a hsA ⊢
        refine (HRE.out).mono ?_
        rintro e w6 ⟨rfl, hl6, hof6⟩
        have HJ6 := hide (HJ1a.out.off hof6 (by omega) (by omega))
        have HL6 := hide hl6
        have HX6 := hide (HXA.out.trans (hof6.below (B := w1.heap.size) hl1 hl2 (by omega)))
        clear hl6 hof6 HRE u0 m0 m1 d0 d1 d2 d3 u0a m0a m1a HXA HJ1a
        go_wp2
        go_roundw
        case rel => exact ⟨k + 1, by omega, by go_num, HL6.out, HJ6.out, HX6.out⟩
        case measure => simp [intOf]; omega
      · obtain rfl : k = n0 := by omega
        rw [HPM.out] at HL HFN
        have hel := HFN.out.ln
        have HR' := hide (show crOf D dirs picks = ⟨outN D.nodes picks (preE (D.nodes.length : Int) D.kept D.pend dirs.toNat) (preE (D.nodes.length : Int) D.kept D.pend dirs.toNat).length, outE (preE (D.nodes.length : Int) D.kept D.pend dirs.toNat) (preE (D.nodes.length : Int) D.kept D.pend dirs.toNat).length, outE (preE (D.nodes.length : Int) D.kept D.pend dirs.toNat) (preE (D.nodes.length : Int) D.kept D.pend dirs.toNat).length, [], D.quota⟩ from HR.out)
        generalize preE (D.nodes.length : Int) D.kept D.pend dirs.toNat = es at HL HFN hel HR'
        obtain ⟨w5, e5⟩ : ∃ x, x = wr := ⟨wr, rfl⟩
        subst e5
        have hcs := CrL.start w5 D.quota
        have hA7 := (Below.refl w5.heap.size w5).alloc (Nat.le_refl _) (.cells #[.slice none 0 0, .slice none 0 0, .slice none 0 0, .slice none 0 0, .int .i64 D.quota] 27)
        have EN := hide (entries_holds b1 b2 (D.kept.length + k) es _ (by omega) hel HFN.out.ap HFN.out.so HFN.out.sz (HL.out.below hA7 hltv.1 hltv.2))
        unfold lstV at EN
        have m0a := (hA7.cell (p := ⟨w2.heap.size, 0, none⟩) (lt_of_cell0 m0)).trans m0
        have m1a := (hA7.cell (p := ⟨w2.heap.size, 1, none⟩) (lt_of_cell0 m1)).trans m1
        have HXW := hide (HB1.out.trans (HBV.out.mono HB1.out.size))
        have HCS := hide hcs
        have hszv : w.heap.size + 2 ≤ w5.heap.size := by omega
        have hz7 : (w5.alloc (.cells #[.slice none 0 0, .slice none 0 0, .slice none 0 0, .slice none 0 0, .int .i64 D.quota] 27)).heap.size = w5.heap.size + 1 := World.size_alloc ..
        clear hA7 hcs HR HL HJ1 HR4
        go_wp2_with fail
        generalize w5.alloc (.cells #[.slice none 0 0, .slice none 0 0, .slice none 0 0, .slice none 0 0, .int .i64 D.quota] 27) = W7 at EN HCS m0a m1a hz7 ⊢
        refine EN.out.mono ?_
        rintro e w8 ⟨ve, rfl, hoe, hb8⟩
        obtain ⟨ae, ce, rfl⟩ := hoe.slice
        have HC8 := hide (HCS.out.below hb8)
        rw [hz7] at hoe
        have HOE := hide hoe
        clear EN HCS hb8 hoe m0 m1 m0a m1a u0 u4 hz7
        go_wp2
        clear hlt hk
        go_loopw [11, 12, 13, 14, 44] (fun _ _ _ _ i wv => ∃ (j : Nat) (v1 v2 : Value) (vs : List (Value × Value)), j ≤ es.length ∧ i = .int .i64 (j : Int) ∧ CrL w5 wv w5.heap.size D.quota v1 v2 (.slice none 0 0) vs (outN D.nodes picks es j) (outE es j) [] ∧ OwnE wv (w5.heap.size + 1) (.slice ae es.length ce) es ∧ awayV v2 (.slice ae es.length ce)) (fun _ _ _ _ i _ => es.length - (intOf i).toNat)
        case atStart => exact ⟨0, _, _, [], Nat.zero_le _, rfl, HC8.out, HOE.out, .inl rfl⟩
        case round =>
          obtain ⟨j, v1, v2, vs, hj, rfl, hC, hoe, hae⟩ := hrel
          have hbv := hC.bel
          have Lv := (L1'.out.below HBV.out (by omega)).below hbv (by omega)
          have y0 : wr.cell? ⟨w.heap.size, 0, none⟩ = some (.slice a1 D.nodes.length c1) := Lv.cell 0
          have hsv := hC.sz
          have HC := hide hC
          have HOW := hide hoe
          have HAE := hide hae
          clear hC Lv HC8 HOE hae
          by_cases hlt : j < es.length
          · obtain ⟨b, off, rfl, hc⟩ := hoe.at (by omega)
            obtain ⟨d0, d1⟩ := hc j hlt
            obtain ⟨hn0', hn1⟩ := HFN.out.nd _ (List.getElem_mem hlt)
            obtain ⟨kk, hkk⟩ := Int.eq_ofNat_of_zero_le hn0'
            have hkl2 : kk < D.nodes.length := by omega
            obtain ⟨b3, off3, rfl, hcn⟩ := ((HR1.out.below HBV.out).below hbv) (by omega)
            obtain ⟨ai, ci, g0, g1, hri⟩ := hcn kk hkl2
            have hcc : D.nodes[kk].1.length ≤ ci := by
              obtain ⟨b9, off9, e9, h9⟩ := HCAP.out wr (HXW.out.trans (hbv.mono HXW.out.size)) (by omega)
              simp only [Option.some.injEq, Addr.mk.injEq, and_true] at e9
              obtain ⟨rfl, rfl⟩ := e9
              obtain ⟨ai9, ci9, h91, h92⟩ := h9 kk hkl2
              rw [g0] at h91
              simp only [Option.some.injEq, Value.slice.injEq, true_and] at h91
              rw [h91.2]; exact h92
            have hok := ok_node HV.out kk hkl2
            have hkeep := keepOf_le (picks := picks) (i := j) hok
            have hnof : nodeOf D.nodes es[j] = D.nodes[kk] := by
              unfold nodeOf
              rw [hkk]
              simp [List.getD_eq_getElem?_getD, List.getElem?_eq_getElem hkl2]
            have HSN := hide (outN_succ D.nodes picks es j hlt)
            have HSE := hide (outE_succ es j hlt)
            rw [hnof] at HSN
            rw [hkk] at d1
            unfold okNode at hok
            obtain ⟨hok1, hok2, hok3⟩ := of_decide_eq_true hok
            have hke : (keepOf D.nodes[kk] picks j : Int) = D.nodes[kk].2 + (((if picks.length = 0 then 0 else (max (picks.getD (j % picks.length) 0) 0).toNat % (D.nodes[kk].1.length - D.nodes[kk].2.toNat + 1)) : Nat) : Int) := by
              unfold keepOf
              omega
            have HKP := hide hkeep
            have hia := HPK.out wr (HXW.out.trans (hbv.mono HXW.out.size))
            generalize hkp : keepOf D.nodes[kk] picks j = kp at HKP HSN hke
            generalize hdd : D.nodes[kk].1 = dd at *
            generalize D.nodes[kk].2 = sf at *
            have hzz : (dd.length : Int) - sf = ((dd.length - sf.toNat : Nat) : Int) := by omega
            have HSZ := hide hsv
            generalize es[j].1 = nm0 at d0 HSE
            have hA8 := ((Below.refl wr.heap.size wr).alloc (Nat.le_refl _) (.cells #[.string nm0, .int .i64 (kk : Int)] 37)).alloc (by simp) (.cells #[.slice ai dd.length ci, .int .i64 sf] 49)
            have LE8 := (Laid.new wr #[.string nm0, .int .i64 (kk : Int)] 37).below (B := wr.heap.size + 1) (((Below.refl _ _).alloc (by simp) (.cells #[.slice ai dd.length ci, .int .i64 sf] 49))) (by omega)
            have LN8 := Laid.new (wr.alloc (.cells #[.string nm0, .int .i64 (kk : Int)] 37)) #[.slice ai dd.length ci, .int .i64 sf] 49
            rw [show (wr.alloc (.cells #[.string nm0, .int .i64 (kk : Int)] 37)).heap.size = wr.heap.size + 1 from World.size_alloc ..] at LN8
            have C8 := HC.out.below hA8
            have HV1 := hide (fun b (hb : v1.ownBlock = some b) => (own_ge HC.out.n.row hb).2)
            have HV2 := hide (fun b (hb : v2.ownBlock = some b) => (own_ge HC.out.e hb).2)
            have hrt : RowAt wr ai (dd.take kp) := fun hp => by
              have hp2 : 0 < dd.length := by rw [List.length_take] at hp; omega
              obtain ⟨b3, off3, e3, h3⟩ := hri hp2
              refine ⟨b3, off3, e3, fun i hi => ?_⟩
              rw [List.length_take] at hi
              rw [h3 i (by omega), List.getElem_take]
            have hrl : (dd.take kp).length = kp := by rw [List.length_take]; exact Nat.min_eq_left HKP.out
            have LK := hide (fun n => looseKept_any ap cp picks j (dd.length - sf.toNat) (World.drewN ((wr.alloc (.cells #[.string nm0, .int .i64 (kk : Int)] 37)).alloc (.cells #[.slice ai dd.length ci, .int .i64 sf] 49)) n) hpl (by omega) (by omega) ((hia.below hA8).drew n))
            rw [← hzz] at LK
            generalize (if picks.length = 0 then 0 else (max (picks.getD (j % picks.length) 0) 0).toNat % (dd.length - sf.toNat + 1)) = lk at LK hke
            have hrt8 := hrt.below hA8
            have HX8 := hide (OwnE.below HOW.out hA8)
            have hA7 := (Below.refl wr.heap.size wr).alloc (Nat.le_refl _) (.cells #[.string nm0, .int .i64 (kk : Int)] 37)
            have y0a := (hA7.cell (p := ⟨w.heap.size, 0, none⟩) (lt_of_cell0 y0)).trans y0
            have g0a := (hA7.cell (p := ⟨b3, off3 + kk * 2, none⟩) (lt_of_cell0 g0)).trans g0
            have g1a := (hA7.cell (p := ⟨b3, off3 + kk * 2 + 1, none⟩) (lt_of_cell0 g1)).trans g1
            clear hA7
            have n0' := LN8.cell 0
            have n1' := LN8.cell 1
            have o0 := C8.box.cell 0
            have HLE := hide LE8
            have HC8 := hide C8
            have hkd := HKP.out
            have hkc : kp ≤ ci := Nat.le_trans HKP.out hcc
            have hNl := outN_length D.nodes picks es j
            have hEl := outE_length es j
            generalize outN D.nodes picks es j = N0 at HC8 HSN hNl
            generalize outE es j = E0 at HC8 HSE hEl
            generalize hR : dd.take kp = R at hrt8 HSN hrl
            have hNb : N0.length ≤ 1048576 := by omega
            have hEb : E0.length ≤ 1048576 := by omega
            have hlkb : (lk : Int) ≤ 40000 := by omega
            have HKE := hide hke.symm
            have HRT := hide hrt8
            have HRL := hide hrl
            clear hc hcn hri hrt hkp hdd hnof hkk hn0' hn1 C8 LE8 LN8 hok hkeep HC HOW hoe hia hR hrl hrt8 hNl hEl hbv hA8 hcc hke hzz
            go_wp2
            go_quiet (go_loud (go_at_call 34; exact quiet_zero (LK.out _)))
            clear LK y0a g0a g1a
            go_wp2
            simp only [HKE.out]
            refine at_world (F := fun W => Code.wp _ _ _ _ W) ?_
            intro W9 e9
            have hb9 := drewN_below e9
            clear e9
            have n9 := (hb9.cell (p := ⟨wr.heap.size + 1, 0, none⟩) (lt_of_cell0 n0')).trans n0'
            have HC9 := hide (HC8.out.below hb9)
            have o9 := HC9.out.box.cell 0
            have HLE9 := hide (HLE.out.below hb9 HLE.out.lt)
            have HX9 := hide (OwnE.below HX8.out hb9)
            have CALL := hide (node_call 35 clone_own (z := (kp : Int)) HC9.out (HRT.out.below hb9) kp ci HRL.out.symm (by rw [HRL.out]; omega))
            clear hb9 n0' n1' o0 HC8 HLE HX8 HRT
            generalize (wr.alloc (.cells #[.string nm0, .int .i64 (kk : Int)] 37)).alloc (.cells #[.slice ai dd.length ci, .int .i64 sf] 49) = W8 at *
            go_region_law (first
              | (refine step_call_one 35 run_enterC (.tmp 72) #[22] (by rfl) (by rfl) (.slice ai kp ci) (by rfl) ?_; refine (CALL.out _ ?_ ?_ ?_ ?_).mono ?_; (exact rfl); (exact rfl); (exact rfl); (exact rfl); rintro e w9 ⟨a9, c9, rfl, hkn, ha, p1, l2⟩; have HKN := hide hkn; have HA := hide ha; clear hkn ha; refine ⟨_, rfl, ?_⟩)
              | (refine step_append_node _ (by rfl) (.tmp 68) (.tmp 76) (by rfl) (w5.heap.size + 1) v1 vs N0 (.slice a9 R.length c9) R (kp : Int) w9.heap.size 1 (by rfl) (by rfl) ?_ ?_ ?_ ?_ ?_ ?_ ?_ ?_; (refine (HA.out _ ?_ ?_ ?_ ?_).n <;> rfl); (refine (HA.out _ ?_ ?_ ?_ ?_).c0 <;> rfl); (refine (HA.out _ ?_ ?_ ?_ ?_).c1 <;> rfl); (refine (HA.out _ ?_ ?_ ?_ ?_).ow <;> rfl); (exact HKN.out); (exact hNb); (refine (HA.out _ ?_ ?_ ?_ ?_).sz <;> rfl); intro v9 w10 ho9 hg9; have hz := n_next HA.out ho9 hg9; obtain ⟨a10, c10, rfl⟩ := ho9.slice; have p3 := hz.2.1; have f3 := hz.2.2.1))
            all_goals
              have hE11 : Laid (w10.setCell ⟨w5.heap.size, 0, none⟩ (.slice a10 (N0 ++ [(R, (kp : Int))]).length c10)) wr.heap.size #[.string nm0, .int .i64 (kk : Int)] 37 := Laid.other ((hz.2.2.2 _ HLE9.out.lt (fun e => by have := HV1.out _ e; omega)).trans HLE9.out) (by show wr.heap.size ≠ w5.heap.size; have := HSZ.out; omega) _
              have hX11 : OwnE (w10.setCell ⟨w5.heap.size, 0, none⟩ (.slice a10 (N0 ++ [(R, (kp : Int))]).length c10)) (w5.heap.size + 1) (.slice (some ⟨b, off, none⟩) es.length ce) es := ext_keep HX9.out (by omega) hz.2.2.2 (owns_away HX9.out HC9.out.n.row (by decide))
              have HC11 := hide hz.1
              rw [show (N0 ++ [(R, (kp : Int))]).length = N0.length + 1 from by simp] at hE11 HC11 hX11
              clear hz p3 f3 HA HKN p1 l2 hg9 ho9
              generalize w10.setCell ⟨w5.heap.size, 0, none⟩ (.slice a10 (N0.length + 1) c10) = W11 at hE11 HC11 hX11 ⊢
              have e0 := hE11.cell 0
              have b1 := HC11.out.box.cell 1
              have A11 := hide (HC11.out.app (nm0, (j : Int)))
              have HE11 := hide hE11
              have HX11 := hide hX11
              clear hE11 hX11 n9 o9 HLE9 HC9 HX9 CALL
              obtain ⟨x2, cx2, rfl⟩ := HC11.out.e.slice
              go_wp2_with (first
                | (at_builtin; refine wpList_append_entry_at _ rfl (.tmp 80) (.tmp 85) rfl (w5.heap.size + 1) (.slice x2 E0.length cx2) E0 (nm0, (j : Int)) W11.heap.size 1 rfl rfl ?_ ?_ ?_ hEb ?_ ?_; (exact A11.out.2.1); (exact A11.out.2.2.2.1); (exact A11.out.2.2.2.2.1); (exact A11.out.2.2.2.2.2); intro v12 w12 ho12 hg12 hat12; have hq := HC11.out.appE ho12 hg12 hat12; have haw := away_at hat12 HAE.out (OwnE.below HX11.out A11.out.1); have hx12 := fun u => ext_keep (o := w5.heap.size) (i := 1) (u := u) HX11.out (by omega) hq.2.2.2.2.2 HAE.out.symm; obtain ⟨a12, c12, rfl⟩ := ho12.slice; have q1 := hq.2.1; have q2 := hq.2.2.1; have HQ := hide hq.1; have HAW := hide haw; have HX12 := hide (hx12 (.slice a12 (E0 ++ [(nm0, (j : Int))]).length c12)); rw [show (E0 ++ [(nm0, (j : Int))]).length = E0.length + 1 from by simp] at HQ HAW HX12; clear hq haw hx12 ho12 hg12 hat12 b1 e0)
                | go_in)
              exact ⟨⟨j + 1, _, _, _, by omega, by go_num, by rw [HSN.out, HSE.out]; exact HQ.out, HX12.out, HAW.out⟩, by simp [intOf]; omega⟩
          · obtain rfl : j = es.length := by omega
            obtain ⟨x1, cx1, rfl⟩ := HC.out.n.slice
            obtain ⟨x2, cx2, rfl⟩ := HC.out.e.slice
            have hCr : Laid wr (w.heap.size + 1) #[.slice none 0 0, .slice none 0 0, .slice none 0 0, .slice none 0 0, .int .i64 0] 27 := (C1'.out.below HBV.out (by omega)).below hbv (by omega)
            simp only [outN_length, outE_length] at HC
            have b1 := HC.out.box.cell 1
            have CE := hide (cloneE_any x2 cx2 (outE es es.length) wr (by rw [outE_length]; omega) (HC.out.e.at))
            rw [outE_length] at CE
            have HCR := hide hCr
            clear hCr hlt hoe
            go_wp2_with fail
            refine CE.out.mono ?_
            rintro e w9 ⟨vc, rfl, hoc, hb9⟩
            have haw : awayV (.slice x2 es.length cx2) vc := by
              cases hby : (Value.slice x2 es.length cx2).ownBlock with
              | none => exact .inl hby
              | some g =>
                refine .inr fun e => ?_
                have h1 := (own_ge HC.out.e hby).2
                rw [hby] at e
                have h2 := (own_ge hoc e.symm).1
                omega
            have C10 := HC.out.pushK hb9 (OwnE.mono hoc hsv) (grown_refl _ _) haw
            have hC9 := HC.out.below hb9
            obtain ⟨xc, cc, rfl⟩ := hoc.slice
            rw [outE_length] at C10 ⊢
            have hR9 : Laid w9 (w.heap.size + 1) #[.slice none 0 0, .slice none 0 0, .slice none 0 0, .slice none 0 0, .int .i64 0] 27 := HCR.out.below hb9 HCR.out.lt
            have hR10 := hR9.other (p := ⟨w5.heap.size, 2, none⟩) (by show w.heap.size + 1 ≠ w5.heap.size; omega) (.slice xc es.length cc)
            have b0 := C10.box.cell 0
            have b1' := C10.box.cell 1
            have b2' := C10.box.cell 2
            have b3' := C10.box.cell 3
            have b4 := C10.box.cell 4
            have s2 := hC9.box.cell 2
            have s2f := frozen_of_row w9 w5.heap.size 2 _ _ hC9.box
            have f0 := frozen_of_row _ (w.heap.size + 1) 0 _ _ hR10
            have z0 := hR10.cell 0
            have f1 := frozen_of_row _ (w.heap.size + 1) 1 _ _ hR10
            have z1 := hR10.cell 1
            have f2 := frozen_of_row _ (w.heap.size + 1) 2 _ _ hR10
            have z2 := hR10.cell 2
            have f3 := frozen_of_row _ (w.heap.size + 1) 3 _ _ hR10
            have z3 := hR10.cell 3
            have f4 := frozen_of_row _ (w.heap.size + 1) 4 _ _ hR10
            have z4 := hR10.cell 4
            have HC10 := hide C10
            have HCR10 := hide hR10
            have HL := hide HXW.out
            clear C10 hC9 hR9 hR10 hb9 hoc haw b1 hbv CE
            go_wp2
            exact bodyPost_ret (ret_disk (w.heap.size + 1) _ _ _ _ _ _ rfl rfl (set_disk _ _ _ _ _ HCR10.out)) rfl (disk_yes HR'.out HC10.out (by omega) (by omega) HL.out rfl)
end Go.Proofs.YtpccongphchagaaGreatDoor
