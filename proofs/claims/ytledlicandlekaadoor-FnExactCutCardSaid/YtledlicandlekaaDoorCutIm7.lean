import Derived.Test.YtledlicandlekaaDoorCutIm6
import Derived.Test.YtledlicandlekaaDoorCutSp5
namespace Go.Proofs.YtledlicandlekaaDoor
open Go.RowKit
theorem OwnU.keep {lo : Nat} {w w' : World} {v : Value} {vs : List U4} {us : List UnitM} (h : OwnU w lo v vs us) (hk : ∀ g, lo ≤ g → g < w.heap.size → w'.heap[g]? = w.heap[g]?) : OwnU w' lo v vs us := by
  refine ⟨h.len, ownsK h.row hk, fun i hi => ?_, h.apart⟩
  obtain ⟨x, hx, p1, p2, e⟩ := h.body i hi
  exact ⟨x, hx, ownsK p1 hk, ownsK p2 hk, e⟩
structure ILoop (w wr : World) (x : Value) (lits : Bool) (v : Value) (vs : List U4) (us : List UnitM) : Prop where
  b0 : BlkN wr w.heap.size (.slice none 0 0) (.slice none 0 0)
  bc : BlkC wr (w.heap.size + 1) x lits
  b1 : BlkN wr (w.heap.size + 2) v (.slice none 0 0)
  ow : OwnU wr (w.heap.size + 3) v vs us
  bel : Below w.heap.size w wr
  sz : w.heap.size + 3 ≤ wr.heap.size
theorem ILoop.below {w wr W : World} {x v : Value} {lits : Bool} {vs : List U4} {us : List UnitM} (h : ILoop w wr x lits v vs us) (hb : Below wr.heap.size wr W) : ILoop w W x lits v vs us :=
  ⟨h.b0.below hb h.b0.lt, h.bc.below hb h.bc.lt, h.b1.below hb h.b1.lt, h.ow.below hb (Nat.le_refl _), h.bel.trans (hb.mono h.bel.size), Nat.le_trans h.sz hb.size⟩
theorem ILoop.two {w wr W : World} {x x' v : Value} {lits : Bool} {vs : List U4} {us : List UnitM} (h : ILoop w wr x lits v vs us) (ht : Two (w.heap.size + 1) (w.heap.size + 1) wr W) (hc : BlkC W (w.heap.size + 1) x' lits) : ILoop w W x' lits v vs us :=
  ⟨h.b0.two ht (by omega) (by omega), hc, h.b1.two ht (by omega) (by omega), h.ow.keep (fun g h1 h2 => ht.block g h2 (by omega) (by omega)), h.bel.trans (ht.below (by omega) (by omega) h.bel.size), Nat.le_trans h.sz ht.size⟩
theorem ILoop.push {w W W' : World} {x v v' : Value} {lits : Bool} {vs vs' : List U4} {us us' : List UnitM} (h : ILoop w W x lits v vs us) (ho : OwnU W' (w.heap.size + 3) v' vs' us') (hg : W.grownBy W' v.ownBlock) : ILoop w (W'.setCell ⟨w.heap.size + 2, 0, none⟩ v') x lits v' vs' us' := by
  have hlo : ∀ b, v.ownBlock = some b → w.heap.size + 3 ≤ b := fun b hb => (World.ownsRow.lt h.ow.row b hb).1
  have ne : ∀ b, b < w.heap.size + 3 → some b ≠ v.ownBlock := fun b hb e => by have := hlo b e.symm; omega
  have k0 : BlkN W' w.heap.size (.slice none 0 0) (.slice none 0 0) := (hg.block _ h.b0.lt (ne _ (by omega))).trans h.b0
  have kc : BlkC W' (w.heap.size + 1) x lits := (hg.block _ h.bc.lt (ne _ (by omega))).trans h.bc
  have k1 : BlkN W' (w.heap.size + 2) v (.slice none 0 0) := (hg.block _ h.b1.lt (ne _ (by omega))).trans h.b1
  refine ⟨k0.other (by omega) _, kc.other (by omega) _, k1.set 0 v', ho.other (by omega) _, (h.bel.grown hg (by have := h.bel.size; omega) (fun k e => by have := hlo k e; omega)).setCell (p := ⟨w.heap.size + 2, 0, none⟩) (by simp) _, by have := hg.size; have := h.sz; simp; omega⟩
theorem ILoop.blk1 {w W W' : World} {x v : Value} {lits : Bool} {vs : List U4} {us : List UnitM} (h : ILoop w W x lits v vs us) (hg : W.grownBy W' v.ownBlock) : BlkN W' (w.heap.size + 2) v (.slice none 0 0) :=
  (hg.block _ h.b1.lt (fun e => by have := (World.ownsRow.lt h.ow.row _ e.symm).1; omega)).trans h.b1
set_option maxRecDepth 20000 in
set_option maxHeartbeats 2000000 in
theorem implCut_any (lits : Bool) (b off cap : Nat) (d : List Nat) (w : World) (hE : Env w) (h256 : ∀ x ∈ d, x < 256) (hd : d.length ≤ 1048576) (hcap : d.length ≤ cap) (hT : Tx w b off d) (hbw : b < w.heap.size) :
    Calls Tryd.prog 8 #[.bool lits, .slice (some ⟨b, off, none⟩) d.length cap] w (CutsPost (cutOf lits d.length d) w) := by
  have hI0 : ILoop w (((w.alloc (.cells #[.slice none 0 0, .slice none 0 0] 25)).alloc (.cells #[.slice (some ⟨b, off, none⟩) d.length cap, .bool lits] 48)).alloc (.cells #[.slice none 0 0, .slice none 0 0] 25)) (.slice (some ⟨b, off, none⟩) d.length cap) lits (.slice none 0 0) [] [] := by
    have z1 : (w.alloc (.cells #[.slice none 0 0, .slice none 0 0] 25)).heap.size = w.heap.size + 1 := by simp
    have z2 : ((w.alloc (.cells #[.slice none 0 0, .slice none 0 0] 25)).alloc (.cells #[.slice (some ⟨b, off, none⟩) d.length cap, .bool lits] 48)).heap.size = w.heap.size + 2 := by simp
    have k1 : Below (w.heap.size + 1) (w.alloc (.cells #[.slice none 0 0, .slice none 0 0] 25)) ((w.alloc (.cells #[.slice none 0 0, .slice none 0 0] 25)).alloc (.cells #[.slice (some ⟨b, off, none⟩) d.length cap, .bool lits] 48)) := (Below.refl _ _).alloc (by omega) _
    have k2 : Below (w.heap.size + 2) ((w.alloc (.cells #[.slice none 0 0, .slice none 0 0] 25)).alloc (.cells #[.slice (some ⟨b, off, none⟩) d.length cap, .bool lits] 48)) (((w.alloc (.cells #[.slice none 0 0, .slice none 0 0] 25)).alloc (.cells #[.slice (some ⟨b, off, none⟩) d.length cap, .bool lits] 48)).alloc (.cells #[.slice none 0 0, .slice none 0 0] 25)) := (Below.refl _ _).alloc (by omega) _
    have n1 : BlkC ((w.alloc (.cells #[.slice none 0 0, .slice none 0 0] 25)).alloc (.cells #[.slice (some ⟨b, off, none⟩) d.length cap, .bool lits] 48)) (w.heap.size + 1) (.slice (some ⟨b, off, none⟩) d.length cap) lits := by have h := blk_new (w.alloc (.cells #[.slice none 0 0, .slice none 0 0] 25)) #[.slice (some ⟨b, off, none⟩) d.length cap, .bool lits] 48; rwa [z1] at h
    have n2 : BlkN (((w.alloc (.cells #[.slice none 0 0, .slice none 0 0] 25)).alloc (.cells #[.slice (some ⟨b, off, none⟩) d.length cap, .bool lits] 48)).alloc (.cells #[.slice none 0 0, .slice none 0 0] 25)) (w.heap.size + 2) (.slice none 0 0) (.slice none 0 0) := by have h := blk_new ((w.alloc (.cells #[.slice none 0 0, .slice none 0 0] 25)).alloc (.cells #[.slice (some ⟨b, off, none⟩) d.length cap, .bool lits] 48)) #[.slice none 0 0, .slice none 0 0] 25; rwa [z2] at h
    exact ⟨((blk_new w _ _).below k1 (by omega)).below k2 (by omega), n1.below k2 (by omega), n2, OwnU.nil _ _, (((Below.refl w.heap.size w).alloc (Nat.le_refl _) _).alloc (by omega) _).alloc (by omega) _, by simp⟩
  have HI0 := hide hI0
  have HT := hide hT
  have HE := hide hE
  have H256 := hide h256
  clear hI0 hT hE h256
  go_enter Tryd.func8, Tryd.ntmps8
  go_wp2
  generalize ((w.alloc (.cells #[.slice none 0 0, .slice none 0 0] 25)).alloc (.cells #[.slice (some ⟨b, off, none⟩) d.length cap, .bool lits] 48)).alloc (.cells #[.slice none 0 0, .slice none 0 0] 25) = W0 at HI0 ⊢
  rw [show w.heap.size + 1 + 1 = w.heap.size + 2 from rfl]
  go_loopw [7, 8] (fun _ _ wr => ∃ (o c : Nat) (r : List Nat) (v : Value) (vs : List U4) (us : List UnitM), r.length ≤ c ∧ us.length + r.length ≤ d.length ∧ (∀ x ∈ r, x < 256) ∧ Tx w b o r ∧ CutTo lits d us r ∧ ILoop w wr (.slice (some ⟨b, o, none⟩) r.length c) lits v vs us) (fun _ _ wr => match wr.cell? ⟨w.heap.size + 1, 0, none⟩ with | some (.slice _ n _) => n | _ => 0)
  case atStart => exact ⟨off, cap, d, _, [], [], hcap, by simp, H256.out, HT.out, cutTo_start lits d, HI0.out⟩
  case round =>
    obtain ⟨o, c, r, v, vs, us, hrc, hul, hr2, hTr, hct, hI⟩ := hrel
    have HL := hide (next_any (w.heap.size + 1) b o c lits r wr (HE.out.below hI.bel) hr2 (by omega) hrc (fun i hi => by rw [hI.bel.cell (p := ⟨b, o + i, none⟩) hbw]; exact hTr i hi) hI.bc (by omega))
    have hme : (match wr.cell? ⟨w.heap.size + 1, 0, none⟩ with | some (.slice _ n _) => n | _ => 0) = r.length := by rw [hI.bc.cell 0]; rfl
    have HME := hide hme
    have HTX := hide hTr
    have HR2 := hide hr2
    have HCT := hide hct
    have HI := hide hI
    clear hTr hct hI HI0 hr2 hme
    go_wp2_with fail
    refine HL.out.mono ?_
    rintro e w2 ⟨ht2, hpost⟩
    cases hone : oneOf lits r with
    | none =>
      rw [hone] at hpost
      obtain ⟨rfl, hbc⟩ := hpost
      have hI2 := HI.out.two ht2 hbc
      have HR := hide (HCT.out.stop hone)
      have hal := (Below.refl w2.heap.size w2).alloc (Nat.le_refl _) (.cells unZ 44)
      have hI3 := hI2.below hal
      have q2 : w2.cell? ⟨w.heap.size + 1, 0, none⟩ = some (.slice (some ⟨b, o, none⟩) r.length c) := hI2.bc.cell 0
      have q3 : (w2.alloc (.cells unZ 44)).cell? ⟨w.heap.size + 1, 0, none⟩ = some (.slice (some ⟨b, o, none⟩) r.length c) := hI3.bc.cell 0
      have HI3 := hide hI3
      have HB := hide (fun W (h : Below w.heap.size w W) => clone_own (some ⟨b, o, none⟩) c r W (by omega) (fun _ => ⟨b, o, rfl, fun i hi => by rw [h.cell (p := ⟨b, o + i, none⟩) hbw]; exact HTX.out i hi⟩))
      clear hal hI3 hI2 ht2 hbc hone HL HCT HI HME
      unfold unZ at HI3 q3 ⊢
      simp only []
      go_wp2_with fail
      generalize w2.alloc (.cells #[.slice none 0 0, .slice none 0 0, .bool false, .bool false] 44) = w3 at HI3 q3 ⊢
      refine (HB.out w3 HI3.out.bel).mono ?_
      rintro e w4 ⟨rv, rfl, ho4, hb4⟩
      have hI4 := HI3.out.below hb4
      have z3 := HI3.out.sz
      obtain ⟨ra, rc, hre⟩ := ho4.slice
      have HAP := hide (show ∀ y ∈ slicesU vs, apartV y rv from fun y hy => by
        cases hyb : y.ownBlock with
        | none => exact .inl hyb
        | some g => exact .inr (fun e => by have h1 := HI3.out.ow.lt y hy g hyb; rw [hyb] at e; have h2 := (World.ownsRow.lt ho4 g e.symm).1; omega))
      obtain ⟨va, vc, hve⟩ := hI4.ow.slice
      have HO4 := hide ho4
      have K0 := hide hI4.b0
      have K1 := hide hI4.b1
      have HBEL := hide hI4.bel
      have HOW := hide hI4.ow
      have a10 : w4.cell? ⟨w.heap.size + 2, 0, none⟩ = some v := hI4.b1.cell 0
      have a11 : w4.cell? ⟨w.heap.size + 2, 1, none⟩ = some (.slice none 0 0) := hI4.b1.cell 1
      have a00 : w4.cell? ⟨w.heap.size, 0, none⟩ = some (.slice none 0 0) := hI4.b0.cell 0
      have a01 : w4.cell? ⟨w.heap.size, 1, none⟩ = some (.slice none 0 0) := hI4.b0.cell 1
      have f1 := fun j => hI4.b1.fz j
      have f0 := fun j => hI4.b0.fz j
      have Z3 := hide z3
      clear hI4 hb4 ho4 z3 HI3 HB q2 q3
      subst hve hre
      go_wp2
      refine bodyPost_ret (ret_units w.heap.size _ _ _ rfl rfl (((K0.out.other (g' := w.heap.size + 2) (j := 1) (by omega) _).set 0 _).set 1 _)) rfl ?_
      rw [HR.out]
      have z3 := Z3.out
      exact ⟨_, vs, _, rfl, (((HOW.out.other (show w.heap.size + 2 < w.heap.size + 3 by omega) _).other (show w.heap.size < w.heap.size + 3 by omega) _).other (show w.heap.size < w.heap.size + 3 by omega) _).mono (by omega), (ownB_low (ownB_low (ownB_low HO4.out (p := ⟨w.heap.size + 2, 1, none⟩) (by simp; omega) _) (p := ⟨w.heap.size, 0, none⟩) (by simp; omega) _) (p := ⟨w.heap.size, 1, none⟩) (by simp; omega) _).mono (by omega), HAP.out, ((HBEL.out.setCell (p := ⟨w.heap.size + 2, 1, none⟩) (by simp) _).setCell (p := ⟨w.heap.size, 0, none⟩) (by simp) _).setCell (p := ⟨w.heap.size, 1, none⟩) (by simp) _⟩
    | some q =>
      obtain ⟨u, k⟩ := q
      rw [hone] at hpost
      obtain ⟨lv, bv, o', rfl, o1, o2, hap, hbc, hoo⟩ := hpost
      obtain ⟨hk1, hk2⟩ := oneOf_size hone
      have HCT2 := hide (HCT.out.step hone)
      have hI2 := HI.out.two ht2 hbc
      have hsz2 := ht2.size
      obtain ⟨la, lc, hlv⟩ := o1.slice
      obtain ⟨ba, bc, hbv⟩ := o2.slice
      subst hlv hbv
      have hal := ((Below.refl w2.heap.size w2).alloc (Nat.le_refl _) (.cells #[.slice la u.1.length lc, .slice ba u.2.1.length bc, .bool u.2.2.1, .bool u.2.2.2] 44)).alloc (by simp) (.cells #[.slice la u.1.length lc, .slice ba u.2.1.length bc, .bool u.2.2.1, .bool u.2.2.2] 44)
      have hI4 := hI2.below hal
      have HO1 := hide ((o1.mono (Nat.le_succ _)).below hal (Nat.le_refl _))
      have HO2 := hide ((o2.mono (Nat.le_succ _)).below hal (Nat.le_refl _))
      have HAP := hide hap
      have hU4 : BlkU ((w2.alloc (.cells #[.slice la u.1.length lc, .slice ba u.2.1.length bc, .bool u.2.2.1, .bool u.2.2.2] 44)).alloc (.cells #[.slice la u.1.length lc, .slice ba u.2.1.length bc, .bool u.2.2.1, .bool u.2.2.2] 44)) (w2.heap.size + 1) #[.slice la u.1.length lc, .slice ba u.2.1.length bc, .bool u.2.2.1, .bool u.2.2.2] := heap_alloc2_new w2 _ _
      have HU4 := hide hU4
      have q1 : w2.cell? ⟨w.heap.size + 2, 0, none⟩ = some v := hI2.b1.cell 0
      have hlt2 : w.heap.size + 2 < w2.heap.size := hI2.b1.lt
      have q3 : (w2.alloc (.cells #[.slice la u.1.length lc, .slice ba u.2.1.length bc, .bool u.2.2.1, .bool u.2.2.2] 44)).cell? ⟨w.heap.size + 2, 0, none⟩ = some v := by
        have hh : Below w2.heap.size w2 (w2.alloc (.cells #[.slice la u.1.length lc, .slice ba u.2.1.length bc, .bool u.2.2.1, .bool u.2.2.2] 44)) := (Below.refl w2.heap.size w2).alloc (Nat.le_refl _) _
        rw [hh.cell (p := ⟨w.heap.size + 2, 0, none⟩) hlt2]; exact q1
      obtain ⟨va, vc, hve⟩ := hI2.ow.slice
      have HI4 := hide hI4
      have HSZ := hide (show wr.heap.size ≤ ((w2.alloc (.cells #[.slice la u.1.length lc, .slice ba u.2.1.length bc, .bool u.2.2.1, .bool u.2.2.2] 44)).alloc (.cells #[.slice la u.1.length lc, .slice ba u.2.1.length bc, .bool u.2.2.1, .bool u.2.2.2] 44)).heap.size from by simp; omega)
      have hul2 : us.length ≤ 1048576 := by omega
      have HOO := hide hoo
      clear hal hI4 hI2 o1 o2 hap ht2 hsz2 hone HL HCT hU4 hbc hoo
      simp only []
      subst hve
      go_wp2_with (first
        | (at_builtin; refine wpList_append_unit wr _ rfl (.tmp 24) (.tmp 26) rfl (w.heap.size + 3) _ (.slice la u.1.length lc) (.slice ba u.2.1.length bc) vs us u (w2.heap.size + 1) 1 rfl rfl HI.out.ow HI4.out.ow HO1.out HO2.out HI.out.sz HSZ.out HAP.out (HU4.out.cell 0) (HU4.out.cell 1) (HU4.out.cell 2) (HU4.out.cell 3) hul2 ?_; intro v7 w7 ho7 hg7; obtain ⟨a7, c7, rfl⟩ := ho7.slice; have HP7 := hide (HI4.out.push ho7 hg7); have q7 := (HI4.out.blk1 hg7).cell 0; have f7 := (HI4.out.blk1 hg7).fz 0; clear ho7 hg7)
        | go_in)
      have h8 : ILoop w (w7.setCell ⟨w.heap.size + 2, 0, none⟩ (.slice a7 (us.length + 1) c7)) (.slice (some ⟨b, o', none⟩) (r.length - k) (c - k)) lits (.slice a7 (us.length + 1) c7) (vs ++ [(.slice la u.1.length lc, .slice ba u.2.1.length bc, u.2.2)]) (us ++ [u]) := by
        have h := HP7.out
        rw [List.length_append, List.length_singleton] at h
        exact h
      have hlen : (r.drop k).length = r.length - k := List.length_drop
      refine ⟨⟨o', c - k, r.drop k, _, _, us ++ [u], by omega, by rw [List.length_append, List.length_singleton, hlen]; omega, fun x hx => HR2.out x (List.mem_of_mem_drop hx), ?_, HCT2.out, by rw [hlen]; exact h8⟩, ?_⟩
      · intro i h
        rw [hlen] at h
        rcases HOO.out with h1 | h1
        · omega
        · rw [h1, Nat.add_assoc, HTX.out (k + i) (by omega)]
          simp
      · rw [HME.out, h8.bc.cell 0]
        show r.length - k < r.length
        omega
end Go.Proofs.YtledlicandlekaaDoor
