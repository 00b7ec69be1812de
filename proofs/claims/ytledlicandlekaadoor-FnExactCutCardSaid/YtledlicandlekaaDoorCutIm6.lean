import Derived.Test.YtledlicandlekaaDoorCutIm5
namespace Go.Proofs.YtledlicandlekaaDoor
open Go.RowKit
theorem next_lit {g b off c k o' : Nat} {lits : Bool} {d l m : List Nat} {w W : World} {v v' : Value} (h : oneOf lits d = some ((l, m, true, false), k)) (hb : Two g g w W) (hv : OwnB W (w.heap.size + 1) v l) (hv' : OwnB W (w.heap.size + 1) v' m) (ha : v.ownBlock = none ∨ v.ownBlock ≠ v'.ownBlock) (hg : BlkC W g (.slice (some ⟨b, o', none⟩) (d.length - k) (c - k)) lits) (ho : k = d.length ∨ o' = off + k) :
    NextPost g b off c lits d w (.returned (.tuple #[.agg #[v, v', .bool true, .bool false], .bool true])) W := by
  unfold NextPost
  rw [h]
  exact ⟨hb, _, _, o', rfl, hv, hv', ha, hg, ho⟩
theorem begE_at {d : List Nat} {j : Nat} (h : j + 1 < d.length) : begE (d.drop j) = decide (d.getD j 0 = 13 ∧ d.getD (j + 1) 0 = 10) := by
  unfold begE
  rw [List.drop_eq_getElem_cons (by omega), List.drop_eq_getElem_cons h, List.head?_cons, List.tail_cons, List.head?_cons, getD_at (by omega), getD_at h]
  simp
set_option maxRecDepth 20000 in
set_option maxHeartbeats 2000000 in
theorem next_body (g b off c : Nat) (lits : Bool) (d : List Nat) (w : World) (hE : Env w) (h256 : ∀ x ∈ d, x < 256) (hd : d.length ≤ 1048576) (hcap : d.length ≤ c) (hT : Tx w b off d) (hg : BlkC w g (.slice (some ⟨b, off, none⟩) d.length c) lits) (hbg : b ≠ g)
    (e n i : Nat) (hfe : findEnd d = some e) (hlo : litOf (d.take e) = some (n, i)) (hl : lits = true) (h3 : e ≤ 300) (h8 : n ≤ 8000) (hsz : e + 2 + n + 2 ≤ d.length) :
    Calls Tryd.prog 23 #[.pointer (some ⟨g, 0, none⟩)] w (NextPost g b off c lits d w) := by
  have h0 := blk_new w unZ 44
  have hb0 := (Below.refl w.heap.size w).alloc (Nat.le_refl _) (.cells unZ 44)
  have hgl := hg.lt
  have hg0 := hg.below hb0 hgl
  have q0 : (w.alloc (.cells unZ 44)).cell? ⟨g, 0, none⟩ = some (.slice (some ⟨b, off, none⟩) d.length c) := hg0.cell 0
  have HE := hide hE
  have H256 := hide h256
  have HT := hide hT
  have HG := hide hg
  have HFE := hide hfe
  have HLO := hide hlo
  have H0 := hide h0
  have HB0 := hide hb0
  have hs0 : (w.alloc (.cells unZ 44)).heap.size = w.heap.size + 1 := by simp
  have hkc := Lib.run_convert_bytes_const (P := Tryd.prog) (w.alloc (.cells unZ 44)) 22 5 #[.int .u8 13, .int .u8 10] 2 2 Tryd.underlying22 Tryd.underlying5
  rw [hs0] at hkc
  clear hE h256 hT hg h0 hb0 hg0 hs0 hfe hlo
  unfold unZ at *
  go_enter Tryd.func23, Tryd.ntmps23
  go_wp2_with fail
  have hN0 : NX w ((w.alloc (.cells #[.slice none 0 0, .slice none 0 0, .bool false, .bool false] 44)).alloc (.cells #[.int .u8 13, .int .u8 10] 5 (2, 3))) := by
    have hbb : Below (w.alloc (.cells #[.slice none 0 0, .slice none 0 0, .bool false, .bool false] 44)).heap.size (w.alloc (.cells #[.slice none 0 0, .slice none 0 0, .bool false, .bool false] 44)) ((w.alloc (.cells #[.slice none 0 0, .slice none 0 0, .bool false, .bool false] 44)).alloc (.cells #[.int .u8 13, .int .u8 10] 5 (2, 3))) := (Below.refl _ _).alloc (Nat.le_refl _) _
    exact NX.below ⟨HB0.out, H0.out⟩ hbb
  have c0 : ((w.alloc (.cells #[.slice none 0 0, .slice none 0 0, .bool false, .bool false] 44)).alloc (.cells #[.int .u8 13, .int .u8 10] 5 (2, 3))).cell? ⟨w.heap.size + 1, 0, none⟩ = some (.int .u8 13) := by
    have h := World.cell?_alloc_mark (w.alloc (.cells #[.slice none 0 0, .slice none 0 0, .bool false, .bool false] 44)) #[.int .u8 13, .int .u8 10] 5 (2, 3) 0
    simpa using h
  have c1 : ((w.alloc (.cells #[.slice none 0 0, .slice none 0 0, .bool false, .bool false] 44)).alloc (.cells #[.int .u8 13, .int .u8 10] 5 (2, 3))).cell? ⟨w.heap.size + 1, 1, none⟩ = some (.int .u8 10) := by
    have h := World.cell?_alloc_mark (w.alloc (.cells #[.slice none 0 0, .slice none 0 0, .bool false, .bool false] 44)) #[.int .u8 13, .int .u8 10] 5 (2, 3) 1
    simpa using h
  clear hkc q0 H0 HB0
  generalize ((w.alloc (.cells #[.slice none 0 0, .slice none 0 0, .bool false, .bool false] 44)).alloc (.cells #[.int .u8 13, .int .u8 10] 5 (2, 3))) = W0 at hN0 c0 c1 ⊢
  refine (bcut_any b off c d (w.heap.size + 1) 2 W0 H256.out hd hcap (HT.out.below hN0.bel) (HE.out.below hN0.bel).max c0 c1).mono ?_
  rintro e' W1 ⟨rfl, q, rfl⟩
  have HN1 := hide (hN0.below (below_drewN (Below.refl W0.heap.size W0) q))
  clear c0 c1 hN0
  generalize W0.drewN q = W1 at HN1 ⊢
  have HG1 := hide (HG.out.below HN1.out.bel hgl)
  have g0 : W1.cell? ⟨g, 0, none⟩ = some (.slice (some ⟨b, off, none⟩) d.length c) := HG1.out.cell 0
  have g1 : W1.cell? ⟨g, 1, none⟩ = some (.bool lits) := HG1.out.cell 1
  have gf := fun j => HG1.out.fz j
  have u0 : W1.cell? ⟨w.heap.size, 0, none⟩ = some (.slice none 0 0) := HN1.out.u.cell 0
  have u1 : W1.cell? ⟨w.heap.size, 1, none⟩ = some (.slice none 0 0) := HN1.out.u.cell 1
  have u2 : W1.cell? ⟨w.heap.size, 2, none⟩ = some (.bool false) := HN1.out.u.cell 2
  have u3 : W1.cell? ⟨w.heap.size, 3, none⟩ = some (.bool false) := HN1.out.u.cell 3
  have uf := fun j => HN1.out.u.fz j
  have hgz : ¬ g = w.heap.size := by omega
  have hzg : ¬ w.heap.size = g := by omega
  have hv : cutR b off c d = .tuple #[.slice (some ⟨b, off, none⟩) e c, .slice (some ⟨b, off + (e + 2), none⟩) (d.length - (e + 2)) (c - (e + 2)), .bool true] := by unfold cutR; rw [HFE.out]; simp only []; rw [if_neg (by omega)]
  rw [hv]
  clear hv
  have h3i : ¬ (300 : Int) < (e : Int) := by omega
  have hte : (d.take e).length = e := by rw [List.length_take]; omega
  have hie := (litOf_lt HLO.out).1
  rw [hte] at hie
  have HL := hide (literalOf_any b off c (d.take e) W1 (HE.out.below HN1.out.bel) (fun x hx => H256.out x (List.mem_of_mem_take hx)) (by omega) (by omega) ((HT.out.below HN1.out.bel).take e))
  rw [hte, HLO.out] at HL
  clear u0 u1 u2 u3 uf g0 g1 gf hte
  subst hl
  go_wp2_with fail
  refine HL.out.mono ?_
  rintro e2 W2 ⟨rfl, hb2⟩
  have HN2 := hide (HN1.out.below hb2)
  have HG2 := hide (HG1.out.below hb2 HG1.out.lt)
  clear HL hb2 HN1 HG1
  have g0 : W2.cell? ⟨g, 0, none⟩ = some (.slice (some ⟨b, off, none⟩) d.length c) := HG2.out.cell 0
  have g1 : W2.cell? ⟨g, 1, none⟩ = some (.bool true) := HG2.out.cell 1
  have gf := fun j => HG2.out.fz j
  have h8i : ¬ (8000 : Int) < (n : Int) := by omega
  have hwy : IntKind.i64.wrap ((n : Int) + 2) = (n : Int) + 2 := by rw [IntKind.wrap_i64]; omega
  have hrl : (d.drop (e + 2 + n)).length = d.length - (e + 2) - n := by rw [List.length_drop]; omega
  have HS := hide (fun W (hb : Below w.heap.size w W) k0 k1 => bpre_any b (off + (e + 2 + n)) (c - (e + 2) - n) (d.drop (e + 2 + n)) W2.heap.size 2 W (fun x hx => H256.out x (List.mem_of_mem_drop hx)) (by rw [hrl]; omega) ((HT.out.below hb).drop (e + 2 + n)) k0 k1)
  rw [hrl, begE_at (by omega), show off + (e + 2 + n) = off + (e + 2) + n from by omega] at HS
  have HX := hide (show d.length - (e + 2 + n) = d.length - (e + 2) - n ∧ c - (e + 2 + n) = c - (e + 2) - n by omega)
  generalize hD : d.length - (e + 2) = D at HS HX ⊢
  generalize hC : c - (e + 2) = C at HS HX ⊢
  have hDn : n + 2 ≤ D := by omega
  have hDC : D ≤ C := by omega
  have hDi : ¬ (D : Int) < (n : Int) + 2 := by omega
  have hnD : (n : Int) ≤ (D : Int) := by omega
  have hCn : ¬ C = n := by omega
  have hkc : (convert 22 22 (.slice (some ⟨W2.heap.size, 0, none⟩) 2 2)).run Tryd.prog (W2.alloc (.cells #[.int .u8 13, .int .u8 10] 5)) = .ok (.slice (some ⟨W2.heap.size, 0, none⟩) 2 2) (W2.alloc (.cells #[.int .u8 13, .int .u8 10] 5 (2, 3))) := Lib.run_convert_bytes_const (P := Tryd.prog) W2 22 5 #[.int .u8 13, .int .u8 10] 2 2 Tryd.underlying22 Tryd.underlying5
  have HC0 := hide (show (W2.alloc (.cells #[.int .u8 13, .int .u8 10] 5 (2, 3))).cell? ⟨W2.heap.size, 0, none⟩ = some (.int .u8 13) from World.cell?_alloc_mark W2 #[.int .u8 13, .int .u8 10] 5 (2, 3) 0)
  have HC1 := hide (show (W2.alloc (.cells #[.int .u8 13, .int .u8 10] 5 (2, 3))).cell? ⟨W2.heap.size, 1, none⟩ = some (.int .u8 10) from World.cell?_alloc_mark W2 #[.int .u8 13, .int .u8 10] 5 (2, 3) 1)
  have hal : Below W2.heap.size W2 (W2.alloc (.cells #[.int .u8 13, .int .u8 10] 5 (2, 3))) := (Below.refl _ _).alloc (Nat.le_refl _) _
  have HN3 := hide (HN2.out.below hal)
  have HG3 := hide (HG2.out.below hal HG2.out.lt)
  have HHD := hide hD
  have HHC := hide hC
  have HSZ := hide hsz
  have HHD2 := hide (And.intro hd hcap)
  clear hal hD hC hrl hsz hd hcap
  unfold litR
  simp only []
  go_wp2_with fail
  clear hkc g0 g1 gf HN2 HG2
  generalize W2.alloc (.cells #[.int .u8 13, .int .u8 10] 5 (2, 3)) = W3 at HC0 HC1 HN3 HG3 ⊢
  refine (HS.out W3 HN3.out.bel HC0.out HC1.out).mono ?_
  rintro e3 W4 ⟨rfl, rfl⟩
  clear HS HC0 HC1
  have g0 : W4.cell? ⟨g, 0, none⟩ = some (.slice (some ⟨b, off, none⟩) d.length c) := HG3.out.cell 0
  have gf := fun j => HG3.out.fz j
  have u0 : W4.cell? ⟨w.heap.size, 0, none⟩ = some (.slice none 0 0) := HN3.out.u.cell 0
  have u1 : W4.cell? ⟨w.heap.size, 1, none⟩ = some (.slice none 0 0) := HN3.out.u.cell 1
  have u2 : W4.cell? ⟨w.heap.size, 2, none⟩ = some (.bool false) := HN3.out.u.cell 2
  have u3 : W4.cell? ⟨w.heap.size, 3, none⟩ = some (.bool false) := HN3.out.u.cell 3
  have uf := fun j => HN3.out.u.fz j
  have HONE := hide (show oneOf true d = (if d.getD (e + 2 + n) 0 = 13 ∧ d.getD (e + 2 + n + 1) 0 = 10 then some ((d.take i, (d.drop (e + 2)).take n, true, false), e + 2 + n + 2) else some (badU, e + 2 + n)) by
    unfold oneOf
    rw [HFE.out]
    simp only [if_true]
    rw [if_neg (by omega), HLO.out]
    simp only []
    rw [if_neg (by omega), if_neg (by have := HSZ.out; omega)])
  by_cases hbe : d.getD (e + 2 + n) 0 = 13 ∧ d.getD (e + 2 + n + 1) 0 = 10
  · have HR := hide (HONE.out.trans (if_pos hbe))
    rw [decide_eq_true hbe, if_pos rfl]
    have HO := hide (show e + 2 + n + 2 = d.length ∨ (if C - n = 2 then off + (e + 2) + n else off + (e + 2) + n + 2) = off + (e + 2 + n + 2) by
      have h1 := HHD.out; have h2 := HHC.out; have h4 := HHD2.out.2
      split <;> omega)
    generalize (if C - n = 2 then off + (e + 2) + n else off + (e + 2) + n + 2) = o3 at HO ⊢
    have HX2 := hide (show d.length - (e + 2 + n + 2) = D - n - 2 ∧ c - (e + 2 + n + 2) = C - n - 2 by have := HX.out; omega)
    clear hbe HONE
    go_wp2_with fail
    have HU5 := hide (HN3.out.u.other (j := 0) hzg (.slice (some ⟨b, o3, none⟩) (D - n - 2) (C - n - 2)))
    have HG5 := hide (HG3.out.set 0 (.slice (some ⟨b, o3, none⟩) (D - n - 2) (C - n - 2)))
    have HT5 := hide ((Two.of_below HN3.out.bel).set1 (b1 := g) (b2 := g) (j := 0) (.slice (some ⟨b, o3, none⟩) (D - n - 2) (C - n - 2)))
    have HX5 := hide ((HT.out.below HN3.out.bel).other (g := g) (j := 0) hbg (.slice (some ⟨b, o3, none⟩) (D - n - 2) (C - n - 2)))
    clear g0 gf u0 u1 u2 u3 uf HN3 HG3 HG
    generalize W4.setCell ⟨g, 0, none⟩ (.slice (some ⟨b, o3, none⟩) (D - n - 2) (C - n - 2)) = w5 at HU5 HG5 HT5 HX5 ⊢
    have hl1 : (d.take i).length = i := by rw [List.length_take]; have := HSZ.out; omega
    have hl2 : ((d.drop (e + 2)).take n).length = n := by rw [List.length_take, List.length_drop]; have := HSZ.out; omega
    have HA := hide (fun W (h : Below w5.heap.size w5 W) => clone_own (some ⟨b, off, none⟩) c (d.take i) W (by omega) ((HX5.out.below h).take i).row)
    have HD := hide (fun W (h : Below w5.heap.size w5 W) => clone_own (some ⟨b, off + (e + 2), none⟩) C ((d.drop (e + 2)).take n) W (by omega) (((HX5.out.below h).drop (e + 2)).take n).row)
    rw [hl1] at HA
    rw [hl2] at HD
    have HL1 := hide hl1
    have HL2 := hide hl2
    have hz5 : w.heap.size + 1 ≤ w5.heap.size := HU5.out.lt
    have HZ5 := hide hz5
    have hic : (i : Int) ≤ (c : Int) := by have := HHD2.out.2; have := HSZ.out; omega
    have hnc : (n : Int) ≤ (C : Int) := by omega
    clear hl1 hl2 hz5
    go_region_with (first
      | (go_at_call 24; have _x := HBWP; refine (HD.out _ ?_).mono ?_; (first | exact HBWP.out | exact below_drewN HBWP.out _ | exact HBWP.out.drew); rintro eq wq ⟨vq, rfl, hoq, hbq⟩; obtain ⟨aq, cq, hvq⟩ := hoq.slice; rw [HL2.out] at hvq; subst hvq; have HBWQ : Hid (Below w5.heap.size w5 wq) := (by first | exact hide (below_on HBWP.out hbq) | exact hide (below_on (below_drewN HBWP.out _) hbq)); have KQ := hide (HU5.out.below HBWQ.out HU5.out.lt); have HOQ := hide hoq; have HOP2 := hide (HOP.out.below hbq (Nat.le_refl _)); have q0 : wq.cell? ⟨w.heap.size, 0, none⟩ = some (.slice none 0 0) := KQ.out.cell 0; have q1 : wq.cell? ⟨w.heap.size, 1, none⟩ = some (.slice none 0 0) := KQ.out.cell 1; have q2 : wq.cell? ⟨w.heap.size, 2, none⟩ = some (.bool false) := KQ.out.cell 2; have q3 : wq.cell? ⟨w.heap.size, 3, none⟩ = some (.bool false) := KQ.out.cell 3; have qf := fun j => KQ.out.fz j; clear hoq hbq)
      | (go_at_call 24; refine (HA.out _ ?_).mono ?_; (first | exact Below.refl _ _ | exact below_drewN (Below.refl _ _) _ | exact (Below.refl _ _).drew); rintro ep wp ⟨vp, rfl, hop, hbp⟩; obtain ⟨ap, cp, hvp⟩ := hop.slice; rw [HL1.out] at hvp; subst hvp; have HBWP : Hid (Below w5.heap.size w5 wp) := (by first | exact hide hbp | exact hide (below_on (below_drewN (Below.refl _ _) _) hbp)); have HOP := hide hop; clear hop hbp))
    all_goals
      have HAP := hide (show (Value.slice ap i cp).ownBlock = none ∨ (Value.slice ap i cp).ownBlock ≠ (Value.slice aq n cq).ownBlock by
        cases hb : (Value.slice ap i cp).ownBlock with
        | none => exact .inl rfl
        | some k =>
          refine .inr fun e => ?_
          have h1 := (World.ownsRow.lt HOP.out k hb).2
          have h2 := (World.ownsRow.lt HOQ.out k e.symm).1
          omega)
      have HO1 := hide (HOP2.out.mono (show w.heap.size + 1 ≤ _ from HZ5.out))
      have HO2 := hide (HOQ.out.mono (Nat.le_trans HZ5.out HBWP.out.size))
      clear HOP HOP2 HOQ HA HD
      go_wp2
      refine bodyPost_ret (ret_unit w.heap.size _ #[.slice ap i cp, .slice aq n cq, .bool true, .bool false] (.bool true) rfl rfl rfl (set4 KQ.out _ _ _ _) rfl) rfl (next_lit (o' := o3) HR.out (two4 (HT5.out.on HBWQ.out) _ _ _ _) (own4 HO1.out (Nat.lt_succ_self _) _ _ _ _) (own4 HO2.out (Nat.lt_succ_self _) _ _ _ _) HAP.out ?_ HO.out)
      rw [HX2.out.1, HX2.out.2]
      exact blkC4 (HG5.out.below HBWQ.out HG5.out.lt) hgz _ _ _ _
  · have HR := hide (HONE.out.trans (if_neg hbe))
    rw [decide_eq_false hbe, if_neg (by simp)]
    clear hbe HONE
    go_wp2
    refine bodyPost_ret (ret_unit w.heap.size _ #[.slice none 0 0, .slice none 0 0, .bool false, .bool true] (.bool true) rfl rfl rfl (set4 (HN3.out.u.other hzg _) _ _ _ _) rfl) rfl (next_bad (o' := off + (e + 2) + n) HR.out (two4 ((Two.of_below HN3.out.bel).set1 _) _ _ _ _) ?_ (.inr (by omega)))
    rw [HX.out.1, HX.out.2]
    exact blkC4 (HG3.out.set 0 _) hgz _ _ _ _
theorem next_any (g b off c : Nat) (lits : Bool) (d : List Nat) (w : World) (hE : Env w) (h256 : ∀ x ∈ d, x < 256) (hd : d.length ≤ 1048576) (hcap : d.length ≤ c) (hT : Tx w b off d) (hg : BlkC w g (.slice (some ⟨b, off, none⟩) d.length c) lits) (hbg : b ≠ g) :
    Calls Tryd.prog 23 #[.pointer (some ⟨g, 0, none⟩)] w (NextPost g b off c lits d w) := by
  by_cases h : ∃ e n i, findEnd d = some e ∧ litOf (d.take e) = some (n, i) ∧ lits = true ∧ e ≤ 300 ∧ n ≤ 8000 ∧ e + 2 + n + 2 ≤ d.length
  · obtain ⟨e, n, i, h1, h2, h3, h4, h5, h6⟩ := h
    exact next_body g b off c lits d w hE h256 hd hcap hT hg hbg e n i h1 h2 h3 h4 h5 h6
  · refine next_easy g b off c lits d w hE h256 hd hcap hT hg hbg fun e n i h1 h2 h3 h4 h5 => ?_
    rcases Nat.lt_or_ge d.length (e + 2 + n + 2) with h' | h'
    · exact h'
    · exact absurd ⟨e, n, i, h1, h2, h3, h4, h5, h'⟩ h
end Go.Proofs.YtledlicandlekaaDoor
