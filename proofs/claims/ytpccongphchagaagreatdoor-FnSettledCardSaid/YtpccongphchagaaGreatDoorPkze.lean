import Derived.Test.YtpccongphchagaaGreatDoorPku
namespace Go.Proofs.YtpccongphchagaaGreatDoor
open Go.RowKit
/-- The call in whatever order, and what it keeps. -/
theorem node_callB (f : FuncId) (hf : ∀ (a : Option Addr) (cap : Nat) (l : List Nat) (w : World), l.length ≤ 1048576 → RowAt w a l → Calls Tryz.prog f #[.slice a l.length cap] w fun e w' => ∃ v, e = .returned v ∧ OwnB w' w.heap.size v l ∧ Below w.heap.size w w')
    {w5 W0 : World} {o : Nat} {q : Int} {v1 v2 v3 : Value} {vs : List (Value × Value)} {N : List NdM} {E K : List EN} {R : List Nat} {a : Option Addr} (z : Int) (C : CrL w5 W0 o q v1 v2 v3 vs N E K) (jr : RowAt W0 a R) (n cap : Nat) (hn : n = R.length) (hR : R.length ≤ 1048576) :
    ∀ W : World, W.heap = W0.heap → W.os = W0.os → W.tape = W0.tape → W.output = W0.output → Calls Tryz.prog f #[.slice a n cap] W fun e w2 => ∃ a2 c2, e = .returned (.slice a2 R.length c2) ∧ (∀ y ∈ vs.map (·.1), awayV y (.slice a2 R.length c2)) ∧
      (∀ Y : World, Y.heap = (w2.alloc (.cells #[.slice a2 R.length c2, .int .i64 z] 49)).heap → Y.os = w2.os → Y.tape = w2.tape → Y.output = w2.output → NOk w5 W0 Y o w2.heap.size q z v1 v2 v3 (.slice a2 R.length c2) vs N E K R) ∧ w2.cell? ⟨o, 0, none⟩ = some v1 ∧ o < w2.heap.size ∧ (∀ p : Addr, p.block < W0.heap.size → w2.cell? p = W0.cell? p) := by
  intro W e1 e2 e3 e4
  subst hn
  have jr' : RowAt W a R := by
    intro hp
    obtain ⟨b, off, rfl, hc⟩ := jr hp
    refine ⟨b, off, rfl, fun i hi => ?_⟩
    rw [← hc i hi]
    exact World.cell?_of_block (by rw [e1])
  refine (hf a cap R W hR jr').mono ?_
  rintro e w2 ⟨v2', rfl, ho2, hb2⟩
  obtain ⟨a2, c2, rfl⟩ := ho2.slice
  have hb : Below W0.heap.size W0 w2 := ⟨hb2.os.trans e2, hb2.tape.trans e3, hb2.output.trans e4, by rw [← e1]; exact hb2.size, fun k hk => by rw [← e1]; exact hb2.block k (by rw [e1]; exact hk)⟩
  refine ⟨a2, c2, rfl, fun y hy => ?_, fun Y y1 y2 y3 y4 => node_arm z C e1 e2 e3 e4 hb2 ho2 y1 y2 y3 y4, (C.box.below hb C.box.lt).cell 0, Nat.lt_of_lt_of_le C.box.lt hb.size, fun p hp => hb.cell hp⟩
  cases hby : y.ownBlock with
  | none => exact .inl hby
  | some g =>
    refine .inr fun e => ?_
    have h1 := (C.n.lo (.inr ⟨y, hy, hby⟩)).2
    rw [hby] at e
    have h2 := (own_ge ho2 e.symm).1
    rw [e1] at h2
    omega
theorem setN_succ (ns : List NdM) (es : List EN) (j : Nat) (h : j < es.length) : (es.take (j + 1)).map (nodeOf ns) = (es.take j).map (nodeOf ns) ++ [nodeOf ns es[j]] := by
  rw [List.take_add_one, List.getElem?_eq_getElem h, List.map_append]
  rfl
set_option maxRecDepth 20000 in
set_option maxHeartbeats 4000000 in
theorem l1Settle_any (v : Value) (D : MDisk) (w : World) (hW : Wkd D) (hd : DiskAt w v D) :
    Calls Tryz.prog 39 #[v] w (DiskPost (settleD D) w) := by
  obtain ⟨a1, c1, a2, c2, a3, c3, a4, c4, rfl, hN, hE, -, -⟩ := hd
  obtain ⟨L1, L2, hA, hz⟩ := boxes2 w #[.slice a1 D.nodes.length c1, .slice a2 D.names.length c2, .slice a3 D.kept.length c3, .slice a4 D.pend.length c4, .int .i64 D.quota] #[.slice none 0 0, .slice none 0 0, .slice none 0 0, .slice none 0 0, .int .i64 0] 27 27
  have hln := hW.fine.ln
  have hnn := hW.nn
  have HND := hide hW.fine.nd
  have HDT := hide hW.data
  clear hW
  have HR' := hide (show settleD D = ⟨(D.names.take D.names.length).map (nodeOf D.nodes), outE D.names D.names.length, outE D.names D.names.length, [], D.quota⟩ from by rw [List.take_length]; rfl)
  go_enter Tryz.func39, Tryz.ntmps39
  have t4 : ((w.alloc (.cells #[.slice a1 D.nodes.length c1, .slice a2 D.names.length c2, .slice a3 D.kept.length c3, .slice a4 D.pend.length c4, .int .i64 D.quota] 27)).alloc (.cells #[.slice none 0 0, .slice none 0 0, .slice none 0 0, .slice none 0 0, .int .i64 0] 27)).cell? ⟨w.heap.size, 4, none⟩ = some (.int .i64 D.quota) := L1.cell 4
  have t1 : ((w.alloc (.cells #[.slice a1 D.nodes.length c1, .slice a2 D.names.length c2, .slice a3 D.kept.length c3, .slice a4 D.pend.length c4, .int .i64 D.quota] 27)).alloc (.cells #[.slice none 0 0, .slice none 0 0, .slice none 0 0, .slice none 0 0, .int .i64 0] 27)).cell? ⟨w.heap.size, 1, none⟩ = some (.slice a2 D.names.length c2) := L1.cell 1
  have HL1 := hide L1
  have HL2 := hide L2
  have HN0 := hide (hN.below hA)
  have HE0 := hide (hE.below hA)
  have HA := hide hA
  have HCS := hide (CrL.start ((w.alloc (.cells #[.slice a1 D.nodes.length c1, .slice a2 D.names.length c2, .slice a3 D.kept.length c3, .slice a4 D.pend.length c4, .int .i64 D.quota] 27)).alloc (.cells #[.slice none 0 0, .slice none 0 0, .slice none 0 0, .slice none 0 0, .int .i64 0] 27)) D.quota)
  rw [hz] at HCS
  clear hN hE hA L1 L2
  go_wp2
  generalize (w.alloc (.cells #[.slice a1 D.nodes.length c1, .slice a2 D.names.length c2, .slice a3 D.kept.length c3, .slice a4 D.pend.length c4, .int .i64 D.quota] 27)).alloc (.cells #[.slice none 0 0, .slice none 0 0, .slice none 0 0, .slice none 0 0, .int .i64 0] 27) = w5 at HL1 HL2 HN0 HE0 HA HCS hz t4 t1 ⊢
  clear t4 t1
  have hzl : w5.heap.size = w.heap.size + 2 := hz
  generalize w5.alloc (.cells #[.slice none 0 0, .slice none 0 0, .slice none 0 0, .slice none 0 0, .int .i64 D.quota] 27) = W7 at HCS ⊢
  have HRx := hide HR'.out
  generalize hns : D.nodes = ns at hnn HND HDT HN0 HL1 HRx ⊢
  generalize hes : D.names = es at hln HND HE0 HL1 HRx ⊢
  clear hns hes
  go_loopw [4, 5, 6, 13] (fun _ _ _ i wv => ∃ (j : Nat) (v1 v2 v3 : Value) (vs : List (Value × Value)), j ≤ es.length ∧ i = .int .i64 (j : Int) ∧ CrL w5 wv (w.heap.size + 2) D.quota v1 v2 v3 vs ((es.take j).map (nodeOf ns)) (outE es j) (outE es j)) (fun _ _ _ i _ => es.length - (intOf i).toNat)
  case atStart => exact ⟨0, _, _, _, [], Nat.zero_le _, rfl, HCS.out⟩
  case round =>
    obtain ⟨j, v1, v2, v3, vs, hj, rfl, hC⟩ := hrel
    have hbv := hC.bel
    have hbv5 : Below w5.heap.size w5 wr := by rw [hzl]; exact hbv
    have Lv := HL1.out.below hbv5 HL1.out.lt
    have y0 : wr.cell? ⟨w.heap.size, 0, none⟩ = some (.slice a1 ns.length c1) := Lv.cell 0
    have hsv := hC.sz
    have HC := hide hC
    clear hC Lv HCS
    by_cases hlt : j < es.length
    · obtain ⟨b, off, rfl, hc⟩ := (HE0.out.below hbv5) (by omega)
      obtain ⟨d0, d1⟩ := hc j hlt
      obtain ⟨hn0, hn1⟩ := HND.out _ (List.getElem_mem hlt)
      obtain ⟨kk, hkk⟩ := Int.eq_ofNat_of_zero_le hn0
      have hkl2 : kk < ns.length := by omega
      obtain ⟨b1, off1, rfl, hcn⟩ := (HN0.out.below hbv5) (by omega)
      obtain ⟨ai, ci, g0, g1, hri⟩ := hcn kk hkl2
      have hdl := HDT.out _ (List.getElem_mem hkl2)
      have hnof : nodeOf ns es[j] = ns[kk] := by
        unfold nodeOf
        rw [hkk]
        simp [List.getD_eq_getElem?_getD, List.getElem?_eq_getElem hkl2]
      have HSN := hide (setN_succ ns es j hlt)
      have HSE := hide (outE_succ es j hlt)
      rw [hnof] at HSN
      rw [hkk] at d1
      have hnp : ns[kk] = (ns[kk].1, ns[kk].2) := rfl
      rw [hnp] at HSN
      clear hnp
      generalize hdd : ns[kk].1 = dd at g0 hri hdl HSN
      generalize ns[kk].2 = sf at g1 HSN
      have HSZ := hide hsv
      generalize es[j].1 = nm0 at d0 HSE
      have hA8 := ((Below.refl wr.heap.size wr).alloc (Nat.le_refl _) (.cells #[.string nm0, .int .i64 (kk : Int)] 37)).alloc (by simp) (.cells #[.slice ai dd.length ci, .int .i64 sf] 49)
      have LE8 := (Laid.new wr #[.string nm0, .int .i64 (kk : Int)] 37).below (B := wr.heap.size + 1) (((Below.refl _ _).alloc (by simp) (.cells #[.slice ai dd.length ci, .int .i64 sf] 49))) (by omega)
      have LN8 := Laid.new (wr.alloc (.cells #[.string nm0, .int .i64 (kk : Int)] 37)) #[.slice ai dd.length ci, .int .i64 sf] 49
      rw [show (wr.alloc (.cells #[.string nm0, .int .i64 (kk : Int)] 37)).heap.size = wr.heap.size + 1 from World.size_alloc ..] at LN8
      have C8 := HC.out.below hA8
      have HV1 := hide (fun b (hb : v1.ownBlock = some b) => (own_ge HC.out.n.row hb).2)
      have HV2 := hide (fun b (hb : v2.ownBlock = some b) => (own_ge HC.out.e hb).2)
      have CALL := hide (node_callB 47 bytes_w (z := sf) C8 (hri.below hA8) dd.length ci rfl (by omega))
      have hA7 := (Below.refl wr.heap.size wr).alloc (Nat.le_refl _) (.cells #[.string nm0, .int .i64 (kk : Int)] 37)
      have y0a := (hA7.cell (p := ⟨w.heap.size, 0, none⟩) (lt_of_cell0 y0)).trans y0
      have g0a := (hA7.cell (p := ⟨b1, off1 + kk * 2, none⟩) (lt_of_cell0 g0)).trans g0
      have g1a := (hA7.cell (p := ⟨b1, off1 + kk * 2 + 1, none⟩) (lt_of_cell0 g1)).trans g1
      clear hA7
      have n0 := LN8.cell 0
      have n1 := LN8.cell 1
      have o0 := C8.box.cell 0
      have HLE := hide LE8
      have HC8 := hide C8
      have HA8 := hide hA8
      clear hc hcn hri hdd hnof hkk hn0 hn1 C8 LE8 LN8 HC
      have hNl : ((es.take j).map (nodeOf ns)).length = j := by simp; omega
      have hEl := outE_length es j
      generalize (es.take j).map (nodeOf ns) = N0 at HC8 CALL HSN hNl
      generalize outE es j = E0 at HC8 CALL HSE hEl
      have hNb : N0.length ≤ 1048576 := by omega
      have hEb : E0.length ≤ 1048576 := by omega
      clear hNl hEl hbv hbv5 hA8
      go_wp2
      generalize (wr.alloc (.cells #[.string nm0, .int .i64 (kk : Int)] 37)).alloc (.cells #[.slice ai dd.length ci, .int .i64 sf] 49) = W8 at HLE HC8 HA8 CALL n0 n1 o0 ⊢
      clear y0a g0a g1a
      go_region_law (first
        | (refine step_call_one 47 run_enterB (.tmp 27) #[22] (by rfl) (by rfl) (.slice ai dd.length ci) (by rfl) ?_; refine (CALL.out _ ?_ ?_ ?_ ?_).mono ?_; (exact rfl); (exact rfl); (exact rfl); (exact rfl); rintro e w9 ⟨a9, c9, rfl, hkn, ha, p1, l2, hcl⟩; have p2 := (hcl ⟨wr.heap.size + 1, 1, none⟩ (lt_of_cell0 n1)).trans n1; have HKN := hide hkn; have HA := hide ha; clear hkn ha hcl; refine ⟨_, rfl, ?_⟩)
        | (refine step_append_node _ (by rfl) (.tmp 25) (.tmp 32) (by rfl) (w.heap.size + 2 + 1) v1 vs N0 (.slice a9 dd.length c9) dd sf w9.heap.size 1 (by rfl) (by rfl) ?_ ?_ ?_ ?_ ?_ ?_ ?_ ?_; (refine (HA.out _ ?_ ?_ ?_ ?_).n <;> rfl); (refine (HA.out _ ?_ ?_ ?_ ?_).c0 <;> rfl); (refine (HA.out _ ?_ ?_ ?_ ?_).c1 <;> rfl); (refine (HA.out _ ?_ ?_ ?_ ?_).ow <;> rfl); (exact HKN.out); (exact hNb); (refine (HA.out _ ?_ ?_ ?_ ?_).sz <;> rfl); intro v9 w10 ho9 hg9; have hz := n_next HA.out ho9 hg9; obtain ⟨a10, c10, rfl⟩ := ho9.slice; have p3 := hz.2.1; have f3 := hz.2.2.1))
      all_goals
        have hE11 : Laid (w10.setCell ⟨w.heap.size + 2, 0, none⟩ (.slice a10 (N0 ++ [(dd, sf)]).length c10)) wr.heap.size #[.string nm0, .int .i64 (kk : Int)] 37 := Laid.other ((hz.2.2.2 _ HLE.out.lt (fun e => by have := HV1.out _ e; omega)).trans HLE.out) (by show wr.heap.size ≠ w.heap.size + 2; have := HSZ.out; omega) _
        have HC11 := hide hz.1
        rw [show (N0 ++ [(dd, sf)]).length = N0.length + 1 from by simp] at hE11 HC11
        clear hz p3 f3 HA HKN p1 l2 hg9 ho9
        generalize w10.setCell ⟨w.heap.size + 2, 0, none⟩ (.slice a10 (N0.length + 1) c10) = W11 at hE11 HC11 ⊢
        have e0 := hE11.cell 0
        have b1 := HC11.out.box.cell 1
        have A11 := hide (HC11.out.app (nm0, (j : Int)))
        have HE11 := hide hE11
        clear hE11 n0 n1 o0 HLE HC8 HA8 CALL
        obtain ⟨x2, cx2, rfl⟩ := HC11.out.e.slice
        obtain ⟨x3, cx3, rfl⟩ := HC11.out.k.slice
        go_wp2_with (first
          | (at_builtin; refine wpList_append_entry_at _ rfl (.tmp 36) (.tmp 41) rfl (w.heap.size + 2 + 1) (.slice x2 E0.length cx2) E0 (nm0, (j : Int)) W11.heap.size 1 rfl rfl ?_ ?_ ?_ hEb ?_ ?_; (exact A11.out.2.1); (exact A11.out.2.2.2.1); (exact A11.out.2.2.2.2.1); (exact A11.out.2.2.2.2.2); intro v12 w12 ho12 hg12 hat12; have hq := HC11.out.appE ho12 hg12 hat12; obtain ⟨a12, c12, rfl⟩ := ho12.slice; have q1 := hq.2.1; have q2 := hq.2.2.1; have q3 := hq.2.2.2.1; have q4 : w12.cell? ⟨wr.heap.size, 0, none⟩ = some (.string nm0) := (Laid.cell (show Laid w12 wr.heap.size #[.string nm0, .int .i64 (kk : Int)] 37 from (hq.2.2.2.2.2 _ HE11.out.lt (fun e => by have := HV2.out _ e; omega)).trans HE11.out) 0); have HQ := hide hq.1; rw [show (E0 ++ [(nm0, (j : Int))]).length = E0.length + 1 from by simp] at HQ; have AQ := hide (HQ.out.app (nm0, (j : Int))); rw [show (w12.setCell ⟨w.heap.size + 2, 1, none⟩ (.slice a12 (E0.length + 1) c12)).heap.size = w12.heap.size from by simp] at AQ; clear hq ho12 hg12 hat12 b1 e0)
          | (at_builtin; refine wpList_append_entry_at _ rfl (.tmp 45) (.tmp 50) rfl (w.heap.size + 2 + 1) (.slice x3 E0.length cx3) E0 (nm0, (j : Int)) w12.heap.size 1 rfl rfl ?_ ?_ ?_ hEb ?_ ?_; (exact AQ.out.2.2.1); (exact AQ.out.2.2.2.1); (exact AQ.out.2.2.2.2.1); (exact AQ.out.2.2.2.2.2); intro v14 w14 ho14 hg14 hat14; have hs := HQ.out.appK ho14 hg14 hat14; obtain ⟨a14, c14, rfl⟩ := ho14.slice; have s1 := hs.2.1; have s2 := hs.2.2; have HS := hide hs.1; rw [show (E0 ++ [(nm0, (j : Int))]).length = E0.length + 1 from by simp] at HS; clear hs ho14 hg14 hat14 q1 q2 q3 q4)
          | go_in)
        exact ⟨⟨j + 1, _, _, _, _, by omega, by go_num, by rw [HSN.out, HSE.out]; exact HS.out⟩, by simp [intOf]; omega⟩
    · obtain rfl : j = es.length := by omega
      obtain ⟨x1, cx1, rfl⟩ := HC.out.n.slice
      obtain ⟨x2, cx2, rfl⟩ := HC.out.e.slice
      obtain ⟨x3, cx3, rfl⟩ := HC.out.k.slice
      have b0 := HC.out.box.cell 0
      have b1 := HC.out.box.cell 1
      have b2 := HC.out.box.cell 2
      have b3 := HC.out.box.cell 3
      have b4 := HC.out.box.cell 4
      have hCr : Laid wr (w.heap.size + 1) #[.slice none 0 0, .slice none 0 0, .slice none 0 0, .slice none 0 0, .int .i64 0] 27 := HL2.out.below hbv5 HL2.out.lt
      have f0 := frozen_of_row wr (w.heap.size + 1) 0 _ _ hCr
      have f1 := frozen_of_row wr (w.heap.size + 1) 1 _ _ hCr
      have f2 := frozen_of_row wr (w.heap.size + 1) 2 _ _ hCr
      have f3 := frozen_of_row wr (w.heap.size + 1) 3 _ _ hCr
      have f4 := frozen_of_row wr (w.heap.size + 1) 4 _ _ hCr
      have z0 := hCr.cell 0
      have z1 := hCr.cell 1
      have z2 := hCr.cell 2
      have z3 := hCr.cell 3
      have z4 := hCr.cell 4
      have HCR := hide hCr
      have hml : ((es.take es.length).map (nodeOf ns)).length = es.length := by simp
      simp only [hml, outE_length] at b0 b1 b2 HC
      clear hCr hbv hbv5 hlt hml
      go_wp2
      exact bodyPost_ret (ret_disk (w.heap.size + 1) _ _ _ _ _ _ rfl rfl (set_disk _ _ _ _ _ HCR.out)) rfl (disk_yes HRx.out HC.out (by omega) (by omega) HA.out hzl)
end Go.Proofs.YtpccongphchagaaGreatDoor
