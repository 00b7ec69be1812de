import Derived.Test.YtledlicandlekaaDoorCutIm4
import Derived.Test.YtledlicandlekaaDoorCloneB
namespace Go.Proofs.YtledlicandlekaaDoor
open Go.RowKit
/-- A cutter's block. -/
abbrev BlkC (w : World) (g : Nat) (x : Value) (lits : Bool) : Prop := Blk w g #[x, .bool lits] 48
/-- What next answers, and what the cutter holds behind it. -/
def NextPost (g b off c : Nat) (lits : Bool) (d : List Nat) (w : World) (e : Ending) (w' : World) : Prop := Two g g w w' ∧ match oneOf lits d with
  | none => e = .returned (.tuple #[.agg unZ, .bool false]) ∧ BlkC w' g (.slice (some ⟨b, off, none⟩) d.length c) lits
  | some (u, k) => ∃ lv bv o', e = .returned (.tuple #[.agg #[lv, bv, .bool u.2.2.1, .bool u.2.2.2], .bool true]) ∧ OwnB w' (w.heap.size + 1) lv u.1 ∧ OwnB w' (w.heap.size + 1) bv u.2.1 ∧ (lv.ownBlock = none ∨ lv.ownBlock ≠ bv.ownBlock) ∧ BlkC w' g (.slice (some ⟨b, o', none⟩) (d.length - k) (c - k)) lits ∧ (k = d.length ∨ o' = off + k)
theorem next_none {g b off c : Nat} {lits : Bool} {d : List Nat} {w W : World} (h : oneOf lits d = none) (hb : Two g g w W) (hg : BlkC W g (.slice (some ⟨b, off, none⟩) d.length c) lits) : NextPost g b off c lits d w (.returned (.tuple #[.agg unZ, .bool false])) W := by
  unfold NextPost
  rw [h]
  exact ⟨hb, rfl, hg⟩
theorem next_bad {g b off c k o' : Nat} {lits : Bool} {d : List Nat} {w W : World} (h : oneOf lits d = some (badU, k)) (hb : Two g g w W) (hg : BlkC W g (.slice (some ⟨b, o', none⟩) (d.length - k) (c - k)) lits) (ho : k = d.length ∨ o' = off + k) :
    NextPost g b off c lits d w (.returned (.tuple #[.agg #[.slice none 0 0, .slice none 0 0, .bool false, .bool true], .bool true])) W := by
  unfold NextPost
  rw [h]
  exact ⟨hb, _, _, o', rfl, OwnB.nil _ _, OwnB.nil _ _, .inl rfl, hg, ho⟩
theorem next_line {g b off c k o' : Nat} {lits : Bool} {d l : List Nat} {w W : World} {v : Value} (h : oneOf lits d = some ((l, [], false, false), k)) (hb : Two g g w W) (hv : OwnB W (w.heap.size + 1) v l) (hg : BlkC W g (.slice (some ⟨b, o', none⟩) (d.length - k) (c - k)) lits) (ho : k = d.length ∨ o' = off + k) :
    NextPost g b off c lits d w (.returned (.tuple #[.agg #[v, .slice none 0 0, .bool false, .bool false], .bool true])) W := by
  unfold NextPost
  rw [h]
  exact ⟨hb, _, _, o', rfl, hv, OwnB.nil _ _, apart_nil hv, hg, ho⟩
/-- How next stands: nothing old has changed, its result's block is as it was made. -/
structure NX (w W : World) : Prop where
  bel : Below w.heap.size w W
  u : BlkU W w.heap.size #[.slice none 0 0, .slice none 0 0, .bool false, .bool false]
theorem NX.below {w W W' : World} (h : NX w W) (hb : Below W.heap.size W W') : NX w W' := ⟨below_on h.bel hb, h.u.below hb h.u.lt⟩
theorem two_new {g k j : Nat} {w W : World} (h : Two g g w W) (hk : w.heap.size ≤ k) (v : Value) : Two g g w (W.setCell ⟨k, j, none⟩ v) :=
  ⟨h.os, h.tape, h.output, by simpa using h.size, fun i hi h1 h2 => (heap_setCell_other W ⟨k, j, none⟩ i v (by simp; omega)).trans (h.block i hi h1 h2)⟩
theorem two4 {g : Nat} {w W : World} (h : Two g g w W) (u0 u1 u2 u3 : Value) : Two g g w ((((W.setCell ⟨w.heap.size, 0, none⟩ u0).setCell ⟨w.heap.size, 1, none⟩ u1).setCell ⟨w.heap.size, 2, none⟩ u2).setCell ⟨w.heap.size, 3, none⟩ u3) :=
  two_new (two_new (two_new (two_new h (Nat.le_refl _) _) (Nat.le_refl _) _) (Nat.le_refl _) _) (Nat.le_refl _) _
theorem blkC4 {g k : Nat} {W : World} {x : Value} {lits : Bool} (h : BlkC W g x lits) (hk : g ≠ k) (u0 u1 u2 u3 : Value) : BlkC ((((W.setCell ⟨k, 0, none⟩ u0).setCell ⟨k, 1, none⟩ u1).setCell ⟨k, 2, none⟩ u2).setCell ⟨k, 3, none⟩ u3) g x lits :=
  (((h.other hk _).other hk _).other hk _).other hk _
theorem Two.on {g : Nat} {w W W' : World} (h : Two g g w W) (hb : Below W.heap.size W W') : Two g g w W' := h.trans (Two.of_below hb)
theorem Tx.other {w : World} {b off g j : Nat} {d : List Nat} (h : Tx w b off d) (hne : b ≠ g) (v : Value) : Tx (w.setCell ⟨g, j, none⟩ v) b off d := fun i hi => by
  rw [← h i hi]
  simp [World.cell?, heap_setCell_other w ⟨g, j, none⟩ b v (by simpa using hne)]
theorem litR_form (r : Option (Nat × Nat)) : ∃ (x y : Nat) (z : Bool), litR r = .tuple #[.int .i64 (x : Int), .int .i64 (y : Int), .bool z] ∧ (z = false → r = none) ∧ (z = true → r = some (y, x)) := by
  cases r with
  | none => exact ⟨0, 0, false, rfl, fun _ => rfl, fun h => by cases h⟩
  | some q => exact ⟨q.2, q.1, true, rfl, fun h => by (cases h), fun _ => rfl⟩
set_option maxRecDepth 20000 in
set_option maxHeartbeats 2000000 in
theorem next_easy (g b off c : Nat) (lits : Bool) (d : List Nat) (w : World) (hE : Env w) (h256 : ∀ x ∈ d, x < 256) (hd : d.length ≤ 1048576) (hcap : d.length ≤ c) (hT : Tx w b off d) (hg : BlkC w g (.slice (some ⟨b, off, none⟩) d.length c) lits) (hbg : b ≠ g)
    (hEz : ∀ e n i, findEnd d = some e → litOf (d.take e) = some (n, i) → lits = true → e ≤ 300 → n ≤ 8000 → d.length < e + 2 + n + 2) :
    Calls Tryd.prog 23 #[.pointer (some ⟨g, 0, none⟩)] w (NextPost g b off c lits d w) := by
  have h0 := blk_new w unZ 44
  have hb0 := (Below.refl w.heap.size w).alloc (Nat.le_refl _) (.cells unZ 44)
  have hgl := hg.lt
  have hg0 := hg.below hb0 hgl
  have q0 : (w.alloc (.cells unZ 44)).cell? ⟨g, 0, none⟩ = some (.slice (some ⟨b, off, none⟩) d.length c) := hg0.cell 0
  have HE := hide hE
  have H256 := hide h256
  have HT := hide hT
  have HG := hide hg
  have HEZ := hide hEz
  have H0 := hide h0
  have HB0 := hide hb0
  have hs0 : (w.alloc (.cells unZ 44)).heap.size = w.heap.size + 1 := by simp
  have hkc := Lib.run_convert_bytes_const (P := Tryd.prog) (w.alloc (.cells unZ 44)) 22 5 #[.int .u8 13, .int .u8 10] 2 2 Tryd.underlying22 Tryd.underlying5
  rw [hs0] at hkc
  clear hE h256 hT hg h0 hb0 hg0 hs0 hEz
  unfold unZ at *
  go_enter Tryd.func23, Tryd.ntmps23
  go_wp2_with fail
  have hN0 : NX w ((w.alloc (.cells #[.slice none 0 0, .slice none 0 0, .bool false, .bool false] 44)).alloc (.cells #[.int .u8 13, .int .u8 10] 5 (2, 3))) := by
    have hbb : Below (w.alloc (.cells #[.slice none 0 0, .slice none 0 0, .bool false, .bool false] 44)).heap.size (w.alloc (.cells #[.slice none 0 0, .slice none 0 0, .bool false, .bool false] 44)) ((w.alloc (.cells #[.slice none 0 0, .slice none 0 0, .bool false, .bool false] 44)).alloc (.cells #[.int .u8 13, .int .u8 10] 5 (2, 3))) := (Below.refl _ _).alloc (Nat.le_refl _) _
    exact NX.below ⟨HB0.out, H0.out⟩ hbb
  have c0 : ((w.alloc (.cells #[.slice none 0 0, .slice none 0 0, .bool false, .bool false] 44)).alloc (.cells #[.int .u8 13, .int .u8 10] 5 (2, 3))).cell? ⟨w.heap.size + 1, 0, none⟩ = some (.int .u8 13) := by
    have h := World.cell?_alloc_mark (w.alloc (.cells #[.slice none 0 0, .slice none 0 0, .bool false, .bool false] 44)) #[.int .u8 13, .int .u8 10] 5 (2, 3) 0
    simpa using h
  have c1 : ((w.alloc (.cells #[.slice none 0 0, .slice none 0 0, .bool false, .bool false] 44)).alloc (.cells #[.int .u8 13, .int .u8 10] 5 (2, 3))).cell? ⟨w.heap.size + 1, 1, none⟩ = some (.int .u8 10) := by
    have h := World.cell?_alloc_mark (w.alloc (.cells #[.slice none 0 0, .slice none 0 0, .bool false, .bool false] 44)) #[.int .u8 13, .int .u8 10] 5 (2, 3) 1
    simpa using h
  clear hkc q0 H0 HB0
  generalize ((w.alloc (.cells #[.slice none 0 0, .slice none 0 0, .bool false, .bool false] 44)).alloc (.cells #[.int .u8 13, .int .u8 10] 5 (2, 3))) = W0 at hN0 c0 c1 ⊢
  refine (bcut_any b off c d (w.heap.size + 1) 2 W0 H256.out hd hcap (HT.out.below hN0.bel) (HE.out.below hN0.bel).max c0 c1).mono ?_
  rintro e W1 ⟨rfl, q, rfl⟩
  have HN1 := hide (hN0.below (below_drewN (Below.refl W0.heap.size W0) q))
  clear c0 c1 hN0
  generalize W0.drewN q = W1 at HN1 ⊢
  have HG1 := hide (HG.out.below HN1.out.bel hgl)
  have g0 : W1.cell? ⟨g, 0, none⟩ = some (.slice (some ⟨b, off, none⟩) d.length c) := HG1.out.cell 0
  have g1 : W1.cell? ⟨g, 1, none⟩ = some (.bool lits) := HG1.out.cell 1
  have gf := fun j => HG1.out.fz j
  have u0 : W1.cell? ⟨w.heap.size, 0, none⟩ = some (.slice none 0 0) := HN1.out.u.cell 0
  have u1 : W1.cell? ⟨w.heap.size, 1, none⟩ = some (.slice none 0 0) := HN1.out.u.cell 1
  have u2 : W1.cell? ⟨w.heap.size, 2, none⟩ = some (.bool false) := HN1.out.u.cell 2
  have u3 : W1.cell? ⟨w.heap.size, 3, none⟩ = some (.bool false) := HN1.out.u.cell 3
  have uf := fun j => HN1.out.u.fz j
  have hgz : ¬ g = w.heap.size := by omega
  have hzg : ¬ w.heap.size = g := by omega
  cases hfe : findEnd d with
  | none =>
    have hv : cutR b off c d = .tuple #[.slice (some ⟨b, off, none⟩) d.length c, .slice none 0 0, .bool false] := by unfold cutR; rw [hfe]
    have HR := hide (show oneOf lits d = none by unfold oneOf; rw [hfe])
    rw [hv]
    clear hv hfe
    go_wp2
    exact bodyPost_ret (ret_unit w.heap.size _ #[.slice none 0 0, .slice none 0 0, .bool false, .bool false] (.bool false) rfl rfl rfl (set4 HN1.out.u _ _ _ _) rfl) rfl (next_none HR.out (two4 (Two.of_below HN1.out.bel) _ _ _ _) (blkC4 HG1.out hgz _ _ _ _))
  | some e =>
    obtain ⟨he, -, -⟩ := findEnd_lt hfe
    have hv : cutR b off c d = .tuple #[.slice (some ⟨b, off, none⟩) e c, .slice (some ⟨b, if c = e + 2 then off else off + (e + 2), none⟩) (d.length - (e + 2)) (c - (e + 2)), .bool true] := by unfold cutR; rw [hfe]
    rw [hv]
    have HOO := hide (show e + 2 = d.length ∨ (if c = e + 2 then off else off + (e + 2)) = off + (e + 2) by split <;> omega)
    generalize (if c = e + 2 then off else off + (e + 2)) = o2 at HOO ⊢
    have HFE := hide hfe
    clear hv hfe
    by_cases h3 : 300 < e
    · have h3i : (300 : Int) < (e : Int) := by omega
      have HR := hide (show oneOf lits d = some (badU, e + 2) by unfold oneOf; rw [HFE.out]; simp only []; rw [if_pos h3])
      go_wp2
      exact bodyPost_ret (ret_unit w.heap.size _ #[.slice none 0 0, .slice none 0 0, .bool false, .bool true] (.bool true) rfl rfl rfl (set4 (HN1.out.u.other hzg _) _ _ _ _) rfl) rfl (next_bad HR.out (two4 ((Two.of_below HN1.out.bel).set1 _) _ _ _ _) (blkC4 (HG1.out.set 0 _) hgz _ _ _ _) HOO.out)
    · have h3i : ¬ (300 : Int) < (e : Int) := by omega
      have hte : (d.take e).length = e := by rw [List.length_take]; omega
      have HL := hide (literalOf_any b off c (d.take e) W1 (HE.out.below HN1.out.bel) (fun x hx => H256.out x (List.mem_of_mem_take hx)) (by omega) (by omega) ((HT.out.below HN1.out.bel).take e))
      rw [hte] at HL
      clear u0 u1 u2 u3 uf g0 g1 gf
      go_wp2_with fail
      refine HL.out.mono ?_
      rintro e2 W2 ⟨rfl, hb2⟩
      have HN2 := hide (HN1.out.below hb2)
      have HG2 := hide (HG1.out.below hb2 HG1.out.lt)
      clear HL hb2 HN1 HG1
      have g0 : W2.cell? ⟨g, 0, none⟩ = some (.slice (some ⟨b, off, none⟩) d.length c) := HG2.out.cell 0
      have g1 : W2.cell? ⟨g, 1, none⟩ = some (.bool lits) := HG2.out.cell 1
      have gf := fun j => HG2.out.fz j
      obtain ⟨x, y, z, hxyz, hz0, hz1⟩ := litR_form (litOf (d.take e))
      rw [hxyz]
      have HZ0 := hide hz0
      have HZ1 := hide hz1
      clear hxyz hz0 hz1
      by_cases hA : lits = false ∨ z = false
      · have HR := hide (show oneOf lits d = some ((d.take e, [], false, false), e + 2) by
          unfold oneOf
          rw [HFE.out]
          simp only []
          rw [if_neg h3]
          rcases hA with rfl | hz
          · rfl
          · rw [HZ0.out hz]
            cases lits <;> rfl)
        have hT3 := ((HT.out.below HN2.out.bel).other (g := g) (j := 0) hbg (.slice (some ⟨b, o2, none⟩) (d.length - (e + 2)) (c - (e + 2)))).take e
        have HCL := hide (clone_own (some ⟨b, off, none⟩) c (d.take e) _ (by omega) hT3.row)
        rw [hte] at HCL
        have HTE := hide hte
        clear hT3 hte
        cases lits <;> cases z
        case true.true => rcases hA with h | h <;> cases h
        all_goals
          clear hA
          go_wp2_with fail
          refine HCL.out.mono ?_
          rintro e3 W4 ⟨v, rfl, hov, hb4⟩
          obtain ⟨va, vc, hve⟩ := hov.slice
          rw [HTE.out] at hve
          subst hve
          have hz4 : w.heap.size + 1 ≤ (W2.setCell ⟨g, 0, none⟩ (.slice (some ⟨b, o2, none⟩) (d.length - (e + 2)) (c - (e + 2)))).heap.size := by have := HN2.out.u.lt; simp; omega
          have HOV := hide (hov.mono hz4)
          have HU4 := hide ((HN2.out.u.other (j := 0) hzg (.slice (some ⟨b, o2, none⟩) (d.length - (e + 2)) (c - (e + 2)))).below hb4 hz4)
          have HG4 := hide ((HG2.out.set 0 (.slice (some ⟨b, o2, none⟩) (d.length - (e + 2)) (c - (e + 2)))).below hb4 (by omega))
          have HT4 := hide (((Two.of_below HN2.out.bel).set1 (b1 := g) (b2 := g) (j := 0) (.slice (some ⟨b, o2, none⟩) (d.length - (e + 2)) (c - (e + 2)))).on hb4)
          clear HCL hov hb4 g0 g1 gf hz4
          have u0 : W4.cell? ⟨w.heap.size, 0, none⟩ = some (.slice none 0 0) := HU4.out.cell 0
          have u1 : W4.cell? ⟨w.heap.size, 1, none⟩ = some (.slice none 0 0) := HU4.out.cell 1
          have u2 : W4.cell? ⟨w.heap.size, 2, none⟩ = some (.bool false) := HU4.out.cell 2
          have u3 : W4.cell? ⟨w.heap.size, 3, none⟩ = some (.bool false) := HU4.out.cell 3
          have uf := fun j => HU4.out.fz j
          go_wp2
          exact bodyPost_ret (ret_unit w.heap.size _ #[_, .slice none 0 0, .bool false, .bool false] (.bool true) rfl rfl rfl (set4 HU4.out _ _ _ _) rfl) rfl (next_line HR.out (two4 HT4.out _ _ _ _) (own4 HOV.out (Nat.lt_succ_self _) _ _ _ _) (blkC4 HG4.out hgz _ _ _ _) HOO.out)
      · have hl : lits = true := by cases lits <;> simp_all
        have hz : z = true := by cases z <;> simp_all
        subst hl hz
        have hLO := HZ1.out rfl
        have u0 : W2.cell? ⟨w.heap.size, 0, none⟩ = some (.slice none 0 0) := HN2.out.u.cell 0
        have u1 : W2.cell? ⟨w.heap.size, 1, none⟩ = some (.slice none 0 0) := HN2.out.u.cell 1
        have u2 : W2.cell? ⟨w.heap.size, 2, none⟩ = some (.bool false) := HN2.out.u.cell 2
        have u3 : W2.cell? ⟨w.heap.size, 3, none⟩ = some (.bool false) := HN2.out.u.cell 3
        have uf := fun j => HN2.out.u.fz j
        clear hA HZ0 HZ1
        by_cases h8 : 8000 < y
        · have h8i : (8000 : Int) < (y : Int) := by omega
          have HR := hide (show oneOf true d = some (badU, e + 2) by
            unfold oneOf
            rw [HFE.out]
            simp only [if_true]
            rw [if_neg h3, hLO]
            simp only []
            rw [if_pos h8])
          clear hLO hte
          go_wp2
          exact bodyPost_ret (ret_unit w.heap.size _ #[.slice none 0 0, .slice none 0 0, .bool false, .bool true] (.bool true) rfl rfl rfl (set4 (HN2.out.u.other hzg _) _ _ _ _) rfl) rfl (next_bad HR.out (two4 ((Two.of_below HN2.out.bel).set1 _) _ _ _ _) (blkC4 (HG2.out.set 0 _) hgz _ _ _ _) HOO.out)
        · have h8i : ¬ (8000 : Int) < (y : Int) := by omega
          have hsh := HEZ.out e y x HFE.out hLO rfl (by omega) (by omega)
          have HR := hide (show oneOf true d = none by
            unfold oneOf
            rw [HFE.out]
            simp only [if_true]
            rw [if_neg h3, hLO]
            simp only []
            rw [if_neg h8, if_pos hsh])
          have hwy : IntKind.i64.wrap ((y : Int) + 2) = (y : Int) + 2 := by rw [IntKind.wrap_i64]; omega
          have hshi : ((d.length - (e + 2) : Nat) : Int) < (y : Int) + 2 := by omega
          clear hLO hte hsh
          go_wp2
          exact bodyPost_ret (ret_unit w.heap.size _ #[.slice none 0 0, .slice none 0 0, .bool false, .bool false] (.bool false) rfl rfl rfl (set4 HN2.out.u _ _ _ _) rfl) rfl (next_none HR.out (two4 (Two.of_below HN2.out.bel) _ _ _ _) (blkC4 HG2.out hgz _ _ _ _))
end Go.Proofs.YtledlicandlekaaDoor
