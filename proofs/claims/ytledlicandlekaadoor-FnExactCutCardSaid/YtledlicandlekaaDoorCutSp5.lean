import Derived.Test.YtledlicandlekaaDoorUnitW
namespace Go.Proofs.YtledlicandlekaaDoor
open Go.RowKit
abbrev BlkN (w : World) (g : Nat) (x y : Value) : Prop := Blk w g #[x, y] 25
theorem ret_units {fn : Func} {tmps : Array Value} {p : Tmp} (B : Nat) (W : World) (x y : Value) (hf : fn.results = #[.cell p 25]) (hp : tmps.getD p undef = .pointer (some ⟨B, 0, none⟩)) (hb : BlkN W B x y) :
    (results fn tmps).run Tryd.prog W = .ok (.agg #[x, y]) W :=
  results_cell_row (P := Tryd.prog) hf _ _ B _ _ _ _ hp hb Tryd.underlying25 rfl (by kernel_rfl)
/-- What both Cuts answer. -/
def CutsPost (r : List UnitM × List Nat) (w : World) (e : Ending) (w' : World) : Prop := ∃ v vs rv, e = .returned (.agg #[v, rv]) ∧ OwnU w' w.heap.size v vs r.1 ∧ OwnB w' w.heap.size rv r.2 ∧ (∀ y ∈ slicesU vs, apartV y rv) ∧ Below w.heap.size w w'
structure CLoop (w wr : World) (v : Value) (vs : List U4) (us : List UnitM) : Prop where
  b0 : BlkN wr w.heap.size (.slice none 0 0) (.slice none 0 0)
  b1 : BlkN wr (w.heap.size + 1) v (.slice none 0 0)
  ow : OwnU wr (w.heap.size + 2) v vs us
  bel : Below w.heap.size w wr
  sz : w.heap.size + 2 ≤ wr.heap.size
theorem CLoop.below {w wr W : World} {v : Value} {vs : List U4} {us : List UnitM} (h : CLoop w wr v vs us) (hb : Below wr.heap.size wr W) : CLoop w W v vs us :=
  ⟨h.b0.below hb h.b0.lt, h.b1.below hb h.b1.lt, h.ow.below hb (Nat.le_refl _), h.bel.trans (hb.mono h.bel.size), Nat.le_trans h.sz hb.size⟩
theorem CLoop.push {w W W' : World} {v v' : Value} {vs vs' : List U4} {us us' : List UnitM} (h : CLoop w W v vs us) (ho : OwnU W' (w.heap.size + 2) v' vs' us') (hg : W.grownBy W' v.ownBlock) : CLoop w (W'.setCell ⟨w.heap.size + 1, 0, none⟩ v') v' vs' us' := by
  have hlo : ∀ b, v.ownBlock = some b → w.heap.size + 2 ≤ b := fun b hb => (World.ownsRow.lt h.ow.row b hb).1
  have ne : ∀ b, b < w.heap.size + 2 → some b ≠ v.ownBlock := fun b hb e => by have := hlo b e.symm; omega
  have k0 : BlkN W' w.heap.size (.slice none 0 0) (.slice none 0 0) := (hg.block _ h.b0.lt (ne _ (by omega))).trans h.b0
  have k1 : BlkN W' (w.heap.size + 1) v (.slice none 0 0) := (hg.block _ h.b1.lt (ne _ (by omega))).trans h.b1
  refine ⟨k0.other (by omega) _, k1.set 0 v', ho.other (by omega) _, (h.bel.grown hg (by have := h.bel.size; omega) (fun k e => by have := hlo k e; omega)).setCell (p := ⟨w.heap.size + 1, 0, none⟩) (by simp) _, by have := hg.size; have := h.sz; simp; omega⟩
theorem CLoop.blk1 {w W W' : World} {v : Value} {vs : List U4} {us : List UnitM} (h : CLoop w W v vs us) (hg : W.grownBy W' v.ownBlock) : BlkN W' (w.heap.size + 1) v (.slice none 0 0) :=
  (hg.block _ h.b1.lt (fun e => by have := (World.ownsRow.lt h.ow.row _ e.symm).1; omega)).trans h.b1
theorem cut_stop {lits : Bool} {f : Nat} {r : List Nat} (h : oneOf lits r = none) : cutOf lits f r = ([], r) := by
  cases f with
  | zero => rfl
  | succ f => rw [cutOf, h]
theorem cut_go {lits : Bool} {f : Nat} {r : List Nat} {u : UnitM} {k : Nat} (h : oneOf lits r = some (u, k)) : cutOf lits (f + 1) r = (u :: (cutOf lits f (r.drop k)).1, (cutOf lits f (r.drop k)).2) := by
  rw [cutOf, h]
/-- How far the cutting has come: us are cut off, r is left. -/
def CutTo (lits : Bool) (d : List Nat) (us : List UnitM) (r : List Nat) : Prop := ∃ f, r.length ≤ f ∧ (cutOf lits d.length d) = (us ++ (cutOf lits f r).1, (cutOf lits f r).2)
theorem cutTo_start (lits : Bool) (d : List Nat) : CutTo lits d [] d := ⟨d.length, Nat.le_refl _, by simp⟩
theorem CutTo.step {lits : Bool} {d r : List Nat} {us : List UnitM} {u : UnitM} {k : Nat} (h : CutTo lits d us r) (ho : oneOf lits r = some (u, k)) : CutTo lits d (us ++ [u]) (r.drop k) := by
  obtain ⟨f, hf, e⟩ := h
  obtain ⟨h1, h2⟩ := oneOf_size ho
  cases f with
  | zero => omega
  | succ f =>
    refine ⟨f, by rw [List.length_drop]; omega, ?_⟩
    rw [e, cut_go ho]
    simp
theorem CutTo.stop {lits : Bool} {d r : List Nat} {us : List UnitM} (h : CutTo lits d us r) (ho : oneOf lits r = none) : cutOf lits d.length d = (us, r) := by
  obtain ⟨f, hf, e⟩ := h
  rw [e, cut_stop ho]
  simp
set_option maxRecDepth 20000 in
set_option maxHeartbeats 2000000 in
theorem specCut_any (lits : Bool) (b off cap : Nat) (d : List Nat) (w : World) (hd : d.length ≤ 1048576) (hcap : d.length ≤ cap) (hT : Tx w b off d) (hbw : b < w.heap.size) :
    Calls Tryd.prog 6 #[.bool lits, .slice (some ⟨b, off, none⟩) d.length cap] w (CutsPost (cutOf lits d.length d) w) := by
  have hz : ((w.alloc (.cells #[.slice none 0 0, .slice none 0 0] 25)).alloc (.cells #[.slice none 0 0, .slice none 0 0] 25)).heap.size = w.heap.size + 2 := by simp
  have hb2 : Below w.heap.size w ((w.alloc (.cells #[.slice none 0 0, .slice none 0 0] 25)).alloc (.cells #[.slice none 0 0, .slice none 0 0] 25)) := ((Below.refl _ _).alloc (Nat.le_refl _) _).alloc (by simp) _
  have hC0 : CLoop w ((w.alloc (.cells #[.slice none 0 0, .slice none 0 0] 25)).alloc (.cells #[.slice none 0 0, .slice none 0 0] 25)) (.slice none 0 0) [] [] :=
    ⟨(blk_new w _ _).below (B := w.heap.size + 1) ((Below.refl _ _).alloc (by simp) _) (by omega), heap_alloc2_new w _ _, OwnU.nil _ _, hb2, by omega⟩
  have HC0 := hide hC0
  have HT := hide hT
  clear hC0 hb2 hz hT
  go_enter Tryd.func6, Tryd.ntmps6
  go_wp2
  generalize (w.alloc (.cells #[.slice none 0 0, .slice none 0 0] 25)).alloc (.cells #[.slice none 0 0, .slice none 0 0] 25) = W0 at HC0 ⊢
  go_loopw [6, 7, 8] (fun rv _ _ wr => ∃ (o c : Nat) (r : List Nat) (v : Value) (vs : List U4) (us : List UnitM), rv = .slice (some ⟨b, o, none⟩) r.length c ∧ r.length ≤ c ∧ us.length + r.length ≤ d.length ∧ (∀ i (h : i < r.length), w.cell? ⟨b, o + i, none⟩ = some (.int .u8 (r[i] : Int))) ∧ CutTo lits d us r ∧ CLoop w wr v vs us) (fun rv _ _ _ => match rv with | .slice _ n _ => n | _ => 0)
  case atStart => exact ⟨off, cap, d, _, [], [], rfl, hcap, by simp, HT.out, cutTo_start lits d, HC0.out⟩
  case round =>
    obtain ⟨o, c, r, v, vs, us, rfl, hrc, hul, hTr, hct, hC⟩ := hrel
    have hTx : Tx w b o r := hTr
    have HL := hide (l6One_any lits b o c r wr (by omega) hrc (fun i hi => by rw [hC.bel.cell (p := ⟨b, o + i, none⟩) hbw]; exact hTx i hi))
    have HTX := hide hTx
    have HCT := hide hct
    have HC := hide hC
    clear hTr hTx hct hC HC0
    go_wp2_with fail
    refine HL.out.mono ?_
    rintro e w2 ⟨cs, rfl, hU, hb2⟩
    have hC2 := HC.out.below hb2
    cases hone : oneOf lits r with
    | none =>
      rw [hone] at hU
      have hcs : cs = unZ := hU
      subst hcs
      have HR := hide (HCT.out.stop hone)
      have hal := (Below.refl w2.heap.size w2).alloc (Nat.le_refl _) (.cells unZ 44)
      have hC3 := hC2.below hal
      have HC3 := hide hC3
      have HB := hide (fun W (h : Below w.heap.size w W) => l1Bytes_any (some ⟨b, o, none⟩) c r W (by omega) (fun _ => ⟨b, o, rfl, fun i hi => by rw [h.cell (p := ⟨b, o + i, none⟩) hbw]; exact HTX.out i hi⟩))
      clear hal hC3 hC2 hU hb2 hone HL HCT HC
      unfold unZ at HC3 ⊢
      simp only []
      go_wp2_with fail
      generalize w2.alloc (.cells #[.slice none 0 0, .slice none 0 0, .bool false, .bool false] 44) = w3 at HC3 ⊢
      refine (HB.out w3 HC3.out.bel).mono ?_
      rintro e w4 ⟨rfl, ho4, hb4⟩
      have hC4 := HC3.out.below hb4
      have z3 := HC3.out.sz
      have HAP := hide (show ∀ y ∈ slicesU vs, apartV y (.slice (some ⟨w3.heap.size, 0, none⟩) r.length r.length) from fun y hy => by
        cases hyb : y.ownBlock with
        | none => exact .inl hyb
        | some g => exact .inr (fun e => by have h1 := HC3.out.ow.lt y hy g hyb; rw [hyb] at e; simp only [Value.ownBlock, Option.some.injEq] at e; omega))
      obtain ⟨va, vc, hve⟩ := hC4.ow.slice
      have HO4 := hide ho4
      have k1 : BlkN (w4.setCell ⟨w.heap.size + 1, 1, none⟩ (.slice (some ⟨w3.heap.size, 0, none⟩) r.length r.length)) (w.heap.size + 1) v (.slice (some ⟨w3.heap.size, 0, none⟩) r.length r.length) := hC4.b1.set 1 _
      have k0 : BlkN (w4.setCell ⟨w.heap.size + 1, 1, none⟩ (.slice (some ⟨w3.heap.size, 0, none⟩) r.length r.length)) w.heap.size (.slice none 0 0) (.slice none 0 0) := hC4.b0.other (by omega) _
      have HBEL := hide hC4.bel
      have HOW := hide hC4.ow
      have a10 : w4.cell? ⟨w.heap.size + 1, 0, none⟩ = some v := hC4.b1.cell 0
      have a11 : w4.cell? ⟨w.heap.size + 1, 1, none⟩ = some (.slice none 0 0) := hC4.b1.cell 1
      have a00 : w4.cell? ⟨w.heap.size, 0, none⟩ = some (.slice none 0 0) := hC4.b0.cell 0
      have a01 : w4.cell? ⟨w.heap.size, 1, none⟩ = some (.slice none 0 0) := hC4.b0.cell 1
      have f1 := fun j => hC4.b1.fz j
      have f0 := fun j => hC4.b0.fz j
      have K0 := hide k0
      have Z3 := hide z3
      clear k0 k1 hC4 hb4 ho4 z3 HC3 HB
      subst hve
      go_wp2
      refine bodyPost_ret (ret_units w.heap.size _ _ _ rfl rfl ((K0.out.set 0 _).set 1 _)) rfl ?_
      rw [HR.out]
      have z3 := Z3.out
      exact ⟨_, vs, _, rfl, (((HOW.out.other (show w.heap.size + 1 < w.heap.size + 2 by omega) _).other (show w.heap.size < w.heap.size + 2 by omega) _).other (show w.heap.size < w.heap.size + 2 by omega) _).mono (by omega), (ownB_low (ownB_low (ownB_low HO4.out (p := ⟨w.heap.size + 1, 1, none⟩) (by simp; omega) _) (p := ⟨w.heap.size, 0, none⟩) (by simp; omega) _) (p := ⟨w.heap.size, 1, none⟩) (by simp; omega) _).mono (by omega), HAP.out, ((HBEL.out.setCell (p := ⟨w.heap.size + 1, 1, none⟩) (by simp) _).setCell (p := ⟨w.heap.size, 0, none⟩) (by simp) _).setCell (p := ⟨w.heap.size, 1, none⟩) (by simp) _⟩
    | some q =>
      obtain ⟨u, k⟩ := q
      rw [hone] at hU
      obtain ⟨lv, bv, hcs, o1, o2, hap⟩ := hU
      subst hcs
      obtain ⟨hk1, hk2⟩ := oneOf_size hone
      have HCT2 := hide (HCT.out.step hone)
      have hsz2 := hb2.size
      obtain ⟨la, lc, hlv⟩ := o1.slice
      obtain ⟨ba, bc, hbv⟩ := o2.slice
      subst hlv hbv
      have hal := ((Below.refl w2.heap.size w2).alloc (Nat.le_refl _) (.cells #[.slice la u.1.length lc, .slice ba u.2.1.length bc, .bool u.2.2.1, .bool u.2.2.2] 44)).alloc (by simp) (.cells #[.slice la u.1.length lc, .slice ba u.2.1.length bc, .bool u.2.2.1, .bool u.2.2.2] 44)
      have hC4 := hC2.below hal
      have HO1 := hide ((o1.mono (Nat.le_succ _)).below hal (Nat.le_refl _))
      have HO2 := hide ((o2.mono (Nat.le_succ _)).below hal (Nat.le_refl _))
      have HAP := hide hap
      have hU4 : BlkU ((w2.alloc (.cells #[.slice la u.1.length lc, .slice ba u.2.1.length bc, .bool u.2.2.1, .bool u.2.2.2] 44)).alloc (.cells #[.slice la u.1.length lc, .slice ba u.2.1.length bc, .bool u.2.2.1, .bool u.2.2.2] 44)) (w2.heap.size + 1) #[.slice la u.1.length lc, .slice ba u.2.1.length bc, .bool u.2.2.1, .bool u.2.2.2] := heap_alloc2_new w2 _ _
      have HU4 := hide hU4
      have hkb : ((k : Int) == 0) = false := by simp; omega
      have q1 : w2.cell? ⟨w.heap.size + 1, 0, none⟩ = some v := hC2.b1.cell 0
      have hlt2 : w.heap.size + 1 < w2.heap.size := hC2.b1.lt
      have q3 : (w2.alloc (.cells #[.slice la u.1.length lc, .slice ba u.2.1.length bc, .bool u.2.2.1, .bool u.2.2.2] 44)).cell? ⟨w.heap.size + 1, 0, none⟩ = some v := by
        have hh : Below w2.heap.size w2 (w2.alloc (.cells #[.slice la u.1.length lc, .slice ba u.2.1.length bc, .bool u.2.2.1, .bool u.2.2.2] 44)) := (Below.refl w2.heap.size w2).alloc (Nat.le_refl _) _
        rw [hh.cell (p := ⟨w.heap.size + 1, 0, none⟩) hlt2]; exact q1
      obtain ⟨va, vc, hve⟩ := hC2.ow.slice
      have HC4 := hide hC4
      have HSZ := hide (show wr.heap.size ≤ ((w2.alloc (.cells #[.slice la u.1.length lc, .slice ba u.2.1.length bc, .bool u.2.2.1, .bool u.2.2.2] 44)).alloc (.cells #[.slice la u.1.length lc, .slice ba u.2.1.length bc, .bool u.2.2.1, .bool u.2.2.2] 44)).heap.size from by simp; omega)
      have hul2 : us.length ≤ 1048576 := by omega
      have hkr : (k : Int) ≤ (c : Int) := by omega
      clear hal hC4 hC2 o1 o2 hap hb2 hsz2 hone HL HCT hU4
      simp only []
      subst hve
      go_wp2_with (first
        | (at_builtin; refine wpList_append_unit wr _ rfl (.tmp 23) (.tmp 25) rfl (w.heap.size + 2) _ (.slice la u.1.length lc) (.slice ba u.2.1.length bc) vs us u (w2.heap.size + 1) 1 rfl rfl HC.out.ow HC4.out.ow HO1.out HO2.out HC.out.sz HSZ.out HAP.out (HU4.out.cell 0) (HU4.out.cell 1) (HU4.out.cell 2) (HU4.out.cell 3) hul2 ?_; intro v7 w7 ho7 hg7; obtain ⟨a7, c7, rfl⟩ := ho7.slice; have HP7 := hide (HC4.out.push ho7 hg7); have q7 := (HC4.out.blk1 hg7).cell 0; have f7 := (HC4.out.blk1 hg7).fz 0; clear ho7 hg7)
        | go_in)
      have h8 : CLoop w (w7.setCell ⟨w.heap.size + 1, 0, none⟩ (.slice a7 (us.length + 1) c7)) (.slice a7 (us.length + 1) c7) (vs ++ [(.slice la u.1.length lc, .slice ba u.2.1.length bc, u.2.2)]) (us ++ [u]) := by
        have h := HP7.out
        rw [List.length_append, List.length_singleton] at h
        exact h
      have hlen : (r.drop k).length = r.length - k := List.length_drop
      refine ⟨⟨if c = k then o else o + k, c - k, r.drop k, _, _, us ++ [u], ?_, by omega, by rw [List.length_append, List.length_singleton, hlen]; omega, ?_, HCT2.out, h8⟩, by simp only []; omega⟩
      · rw [hlen]; split <;> rfl
      · intro i h
        rw [hlen] at h
        rw [if_neg (by omega), Nat.add_assoc, HTX.out (k + i) (by omega)]
        simp
end Go.Proofs.YtledlicandlekaaDoor
