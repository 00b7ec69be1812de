import Derived.Test.YtledlicandlekabDataOf
namespace Go.Proofs.Ytledlicandlekab
open Go.RowKit
/-- What DiskRead answers. -/
def ReadPost (w : World) (r : Bool × List Nat) (e : Ending) (w' : World) : Prop := ∃ v, e = .returned (.agg #[.bool r.1, v]) ∧ OwnB w' w.heap.size v r.2 ∧ Below w.heap.size w w'
open Classical in
noncomputable def rdOf (D : MDisk) (nm : ByteArray) : Bool × List Nat := if ValidD D then readD D nm else (false, [])
theorem rdOf_no {D : MDisk} {nm : ByteArray} (h : ¬ ValidD D) : rdOf D nm = (false, []) := by unfold rdOf; rw [if_neg h]
theorem rdOf_yes {D : MDisk} {nm : ByteArray} (h : ValidD D) : rdOf D nm = readD D nm := by unfold rdOf; rw [if_pos h]
theorem readD_len {D : MDisk} {nm : ByteArray} (hM : Modest D) : (readD D nm).2.length ≤ 1048576 := by
  unfold readD
  split
  · rename_i n _
    by_cases h : n.toNat < D.nodes.length
    · have := node_le D.nodes (D.nodes[n.toNat]) (List.getElem_mem h)
      have hs := hM.sum
      simp [List.getD, h]
      omega
    · simp [List.getD, List.getElem?_eq_none (by omega : D.nodes.length ≤ n.toNat)]
  · simp
theorem ret_content {fn : Func} {tmps : Array Value} {p : Tmp} (B : Nat) (W : World) (x y : Value) (hf : fn.results = #[.cell p 30]) (hp : tmps.getD p undef = .pointer (some ⟨B, 0, none⟩)) (hb : Laid W B #[x, y] 30) :
    (results fn tmps).run Try.prog W = .ok (.agg #[x, y]) W :=
  results_cell_row (P := Try.prog) hf _ _ B _ _ _ _ hp hb Try.underlying30 rfl (by kernel_rfl)
theorem set_content {W : World} {B : Nat} {x y x' y' : Value} (h : Laid W B #[x, y] 30) : Laid ((W.setCell ⟨B, 0, none⟩ x').setCell ⟨B, 1, none⟩ y') B #[x', y'] 30 := (h.set 0 x').set 1 y'
theorem read_no {w W : World} {r : Bool × List Nat} (hr : r = (false, [])) (hb : Below w.heap.size w W) : ReadPost w r (.returned (.agg #[.bool false, .slice none 0 0])) ((W.setCell ⟨w.heap.size + 1, 0, none⟩ (.bool false)).setCell ⟨w.heap.size + 1, 1, none⟩ (.slice none 0 0)) := by
  subst hr
  exact ⟨_, rfl, OwnB.nil _ _, (hb.setCell (p := ⟨w.heap.size + 1, 0, none⟩) (by simp) _).setCell (p := ⟨w.heap.size + 1, 1, none⟩) (by simp) _⟩
theorem read_yes {w W : World} {v : Value} {B : Nat} {r : Bool × List Nat} {f : Bool} {l : List Nat} (hr : r = (f, l)) (ho : OwnB W B v l) (hB : w.heap.size + 2 ≤ B) (hb : Below w.heap.size w W) : ReadPost w r (.returned (.agg #[.bool f, v])) ((W.setCell ⟨w.heap.size + 1, 0, none⟩ (.bool f)).setCell ⟨w.heap.size + 1, 1, none⟩ v) := by
  subst hr
  exact ⟨_, rfl, ((ho.set_low (p := ⟨w.heap.size + 1, 0, none⟩) (by simp; omega) _).set_low (p := ⟨w.heap.size + 1, 1, none⟩) (by simp; omega) _).mono (by omega), (hb.setCell (p := ⟨w.heap.size + 1, 0, none⟩) (by simp) _).setCell (p := ⟨w.heap.size + 1, 1, none⟩) (by simp) _⟩
set_option maxRecDepth 20000 in
set_option maxHeartbeats 1000000 in
theorem implRead_any (v : Value) (D : MDisk) (nm : ByteArray) (w : World) (hM : Modest D) (hw : ∀ o ∈ D.pend, (Lit.int .i64 o.2.2.2).wf = true) (hd : DiskAt w v D) :
    Calls Try.prog 8 #[v, .string nm] w (ReadPost w (rdOf D nm)) := by
  have HAT := hide (fun w' (hb : Below w.heap.size w w') => hd.below hb)
  obtain ⟨a1, m1, c1, a2, m2, c2, a3, m3, c3, a4, m4, c4, q, hv⟩ := hd.shape
  clear hd
  subst hv
  have hA : Below w.heap.size w ((w.alloc (.cells #[.slice a1 m1 c1, .slice a2 m2 c2, .slice a3 m3 c3, .slice a4 m4 c4, .int .i64 q] 36)).alloc (.cells #[.bool false, .slice none 0 0] 30)) := ((Below.refl _ _).alloc (Nat.le_refl _) _).alloc (by simp) _
  have hz : ((w.alloc (.cells #[.slice a1 m1 c1, .slice a2 m2 c2, .slice a3 m3 c3, .slice a4 m4 c4, .int .i64 q] 36)).alloc (.cells #[.bool false, .slice none 0 0] 30)).heap.size = w.heap.size + 2 := by simp
  have L0 : Laid ((w.alloc (.cells #[.slice a1 m1 c1, .slice a2 m2 c2, .slice a3 m3 c3, .slice a4 m4 c4, .int .i64 q] 36)).alloc (.cells #[.bool false, .slice none 0 0] 30)) w.heap.size #[.slice a1 m1 c1, .slice a2 m2 c2, .slice a3 m3 c3, .slice a4 m4 c4, .int .i64 q] 36 := Laid.below (B := w.heap.size + 1) (Laid.new w _ _) ((Below.refl _ _).alloc (by simp) _) (by omega)
  have C0 := Laid.new (w.alloc (.cells #[.slice a1 m1 c1, .slice a2 m2 c2, .slice a3 m3 c3, .slice a4 m4 c4, .int .i64 q] 36)) #[.bool false, .slice none 0 0] 30
  rw [show (w.alloc (.cells #[.slice a1 m1 c1, .slice a2 m2 c2, .slice a3 m3 c3, .slice a4 m4 c4, .int .i64 q] 36)).heap.size = w.heap.size + 1 from World.size_alloc ..] at C0
  have HM := hide hM
  have HWF := hide hw
  have HLN := hide (readD_len (nm := nm) hM)
  clear hM hw
  go_enter Try.func8, Try.ntmps8
  go_wp2_with fail
  generalize (w.alloc (.cells #[.slice a1 m1 c1, .slice a2 m2 c2, .slice a3 m3 c3, .slice a4 m4 c4, .int .i64 q] 36)).alloc (.cells #[.bool false, .slice none 0 0] 30) = w0 at hA L0 C0 hz ⊢
  refine (implValid_v (HAT.out w0 hA) HM.out HWF.out).mono ?_
  rintro e w1 ⟨r, rfl, hrr, hb1⟩
  have HB1 := hide (hA.trans (hb1.mono hA.size))
  have L1 := L0.below hb1 L0.lt
  have C1 := C0.below hb1 C0.lt
  have hsz1 : w.heap.size + 2 ≤ w1.heap.size := by have := hb1.size; omega
  cases r with
  | false =>
    have HR := hide (rdOf_no (nm := nm) (fun h => by have := hrr.2 h; cases this))
    have f0 : w1.frozen? ⟨w.heap.size + 1, 0, none⟩ = false := frozen_of_row w1 (w.heap.size + 1) 0 _ _ C1
    have f1 : w1.frozen? ⟨w.heap.size + 1, 1, none⟩ = false := frozen_of_row w1 (w.heap.size + 1) 1 _ _ C1
    have z0 : w1.cell? ⟨w.heap.size + 1, 0, none⟩ = some (.bool false) := C1.cell 0
    have z1 : w1.cell? ⟨w.heap.size + 1, 1, none⟩ = some (.slice none 0 0) := C1.cell 1
    have HC := hide C1
    clear hA L0 C0 hb1 L1 C1 hrr
    go_wp2
    exact bodyPost_ret (ret_content (w.heap.size + 1) _ _ _ rfl rfl (set_content HC.out)) rfl (read_no HR.out HB1.out)
  | true =>
    have HV := hide (hrr.1 rfl)
    have HR := hide (rdOf_yes (nm := nm) (hrr.1 rfl))
    have t0 : w1.cell? ⟨w.heap.size, 0, none⟩ = some (.slice a1 m1 c1) := L1.cell 0
    have t1 : w1.cell? ⟨w.heap.size, 1, none⟩ = some (.slice a2 m2 c2) := L1.cell 1
    have t2 : w1.cell? ⟨w.heap.size, 2, none⟩ = some (.slice a3 m3 c3) := L1.cell 2
    have t3 : w1.cell? ⟨w.heap.size, 3, none⟩ = some (.slice a4 m4 c4) := L1.cell 3
    have t4 : w1.cell? ⟨w.heap.size, 4, none⟩ = some (.int .i64 q) := L1.cell 4
    have HL := hide L1
    have HC := hide C1
    clear hA L0 C0 hb1 L1 C1 hrr
    go_wp2_with fail
    refine (dataOf_any _ D nm w1 HV.out (HAT.out w1 HB1.out)).mono ?_
    rintro e w2 ⟨⟨da, dc, rfl, hrow⟩, hb2⟩
    have HB2 := hide (HB1.out.trans (hb2.mono HB1.out.size))
    have C2 := HC.out.below hb2 HC.out.lt
    have hsz2 : w.heap.size + 2 ≤ w2.heap.size := by have := hb2.size; omega
    have HCL := hide (fun (W : World) (hW : Below w2.heap.size w2 W) => clone_own da dc (readD D nm).2 W HLN.out (hrow.below hW))
    have HR2 := hide (show rdOf D nm = ((readD D nm).1, (readD D nm).2) from HR.out)
    generalize (readD D nm).1 = f at HR2 ⊢
    generalize (readD D nm).2 = l at HR2 HCL ⊢
    clear hrow hb2 t0 t1 t2 t3 t4 HR HL HC HV HLN
    have HC2 := hide C2
    clear C2
    go_wp2_with fail
    refine (HCL.out w2 (Below.refl _ _)).mono ?_
    rintro e w3 ⟨v3, rfl, ho3, hb3⟩
    obtain ⟨va, vc, rfl⟩ := ho3.slice
    have C3 := HC2.out.below hb3 HC2.out.lt
    have f0 : w3.frozen? ⟨w.heap.size + 1, 0, none⟩ = false := frozen_of_row w3 (w.heap.size + 1) 0 _ _ C3
    have f1 : w3.frozen? ⟨w.heap.size + 1, 1, none⟩ = false := frozen_of_row w3 (w.heap.size + 1) 1 _ _ C3
    have z0 : w3.cell? ⟨w.heap.size + 1, 0, none⟩ = some (.bool false) := C3.cell 0
    have z1 : w3.cell? ⟨w.heap.size + 1, 1, none⟩ = some (.slice none 0 0) := C3.cell 1
    have HC3 := hide C3
    have HO3 := hide ho3
    have HB3 := hide (HB2.out.trans (hb3.mono HB2.out.size))
    clear C3 ho3 hb3 HCL HC2
    go_wp2
    exact bodyPost_ret (ret_content (w.heap.size + 1) _ _ _ rfl rfl (set_content HC3.out)) rfl (read_yes HR2.out HO3.out hsz2 HB3.out)
theorem bytes_v (a : Option Addr) (cap : Nat) (l : List Nat) (w : World) (hl : l.length ≤ 1048576) (hr : RowAt w a l) :
    Calls Try.prog 25 #[.slice a l.length cap] w fun e w' => ∃ v, e = .returned v ∧ OwnB w' w.heap.size v l ∧ Below w.heap.size w w' :=
  (l1Bytes_any a cap l w hl hr).mono fun _ _ ⟨h1, h2, h3⟩ => ⟨_, h1, h2, h3⟩
set_option maxRecDepth 20000 in
set_option maxHeartbeats 1000000 in
theorem specRead_any (v : Value) (D : MDisk) (nm : ByteArray) (w : World) (hM : Modest D) (hd : DiskAt w v D) :
    Calls Try.prog 6 #[v, .string nm] w (ReadPost w (rdOf D nm)) := by
  have HAT := hide (fun w' (hb : Below w.heap.size w w') => hd.below hb)
  obtain ⟨a1, m1, c1, a2, m2, c2, a3, m3, c3, a4, m4, c4, q, hv⟩ := hd.shape
  clear hd
  subst hv
  have hA : Below w.heap.size w ((w.alloc (.cells #[.slice a1 m1 c1, .slice a2 m2 c2, .slice a3 m3 c3, .slice a4 m4 c4, .int .i64 q] 36)).alloc (.cells #[.bool false, .slice none 0 0] 30)) := ((Below.refl _ _).alloc (Nat.le_refl _) _).alloc (by simp) _
  have hz : ((w.alloc (.cells #[.slice a1 m1 c1, .slice a2 m2 c2, .slice a3 m3 c3, .slice a4 m4 c4, .int .i64 q] 36)).alloc (.cells #[.bool false, .slice none 0 0] 30)).heap.size = w.heap.size + 2 := by simp
  have L0 : Laid ((w.alloc (.cells #[.slice a1 m1 c1, .slice a2 m2 c2, .slice a3 m3 c3, .slice a4 m4 c4, .int .i64 q] 36)).alloc (.cells #[.bool false, .slice none 0 0] 30)) w.heap.size #[.slice a1 m1 c1, .slice a2 m2 c2, .slice a3 m3 c3, .slice a4 m4 c4, .int .i64 q] 36 := Laid.below (B := w.heap.size + 1) (Laid.new w _ _) ((Below.refl _ _).alloc (by simp) _) (by omega)
  have C0 := Laid.new (w.alloc (.cells #[.slice a1 m1 c1, .slice a2 m2 c2, .slice a3 m3 c3, .slice a4 m4 c4, .int .i64 q] 36)) #[.bool false, .slice none 0 0] 30
  rw [show (w.alloc (.cells #[.slice a1 m1 c1, .slice a2 m2 c2, .slice a3 m3 c3, .slice a4 m4 c4, .int .i64 q] 36)).heap.size = w.heap.size + 1 from World.size_alloc ..] at C0
  have HM := hide hM
  have HLN := hide (readD_len (nm := nm) hM)
  clear hM
  go_enter Try.func6, Try.ntmps6
  go_wp2_with fail
  generalize (w.alloc (.cells #[.slice a1 m1 c1, .slice a2 m2 c2, .slice a3 m3 c3, .slice a4 m4 c4, .int .i64 q] 36)).alloc (.cells #[.bool false, .slice none 0 0] 30) = w0 at hA L0 C0 hz ⊢
  refine (specValid_v (HAT.out w0 hA) HM.out).mono ?_
  rintro e w1 ⟨r, rfl, hrr, hb1⟩
  have HB1 := hide (hA.trans (hb1.mono hA.size))
  have L1 := L0.below hb1 L0.lt
  have C1 := C0.below hb1 C0.lt
  have hsz1 : w.heap.size + 2 ≤ w1.heap.size := by have := hb1.size; omega
  cases r with
  | false =>
    have HR := hide (rdOf_no (nm := nm) (fun h => by have := hrr.2 h; cases this))
    have f0 : w1.frozen? ⟨w.heap.size + 1, 0, none⟩ = false := frozen_of_row w1 (w.heap.size + 1) 0 _ _ C1
    have f1 : w1.frozen? ⟨w.heap.size + 1, 1, none⟩ = false := frozen_of_row w1 (w.heap.size + 1) 1 _ _ C1
    have z0 : w1.cell? ⟨w.heap.size + 1, 0, none⟩ = some (.bool false) := C1.cell 0
    have z1 : w1.cell? ⟨w.heap.size + 1, 1, none⟩ = some (.slice none 0 0) := C1.cell 1
    have HC := hide C1
    clear hA L0 C0 hb1 L1 C1 hrr
    go_wp2
    exact bodyPost_ret (ret_content (w.heap.size + 1) _ _ _ rfl rfl (set_content HC.out)) rfl (read_no HR.out HB1.out)
  | true =>
    have HV := hide (hrr.1 rfl)
    have HR := hide (rdOf_yes (nm := nm) (hrr.1 rfl))
    have t0 : w1.cell? ⟨w.heap.size, 0, none⟩ = some (.slice a1 m1 c1) := L1.cell 0
    have t1 : w1.cell? ⟨w.heap.size, 1, none⟩ = some (.slice a2 m2 c2) := L1.cell 1
    have t2 : w1.cell? ⟨w.heap.size, 2, none⟩ = some (.slice a3 m3 c3) := L1.cell 2
    have t3 : w1.cell? ⟨w.heap.size, 3, none⟩ = some (.slice a4 m4 c4) := L1.cell 3
    have t4 : w1.cell? ⟨w.heap.size, 4, none⟩ = some (.int .i64 q) := L1.cell 4
    obtain ⟨e1, k1, e2, k2, e3, k3, e4, k4, hsh, r1, r2, r3, r4⟩ := HAT.out w1 HB1.out
    simp only [Value.agg.injEq, Array.mk.injEq, List.cons.injEq, Value.slice.injEq, Value.int.injEq, and_true, true_and] at hsh
    obtain ⟨⟨rfl, rfl, rfl⟩, ⟨rfl, rfl, rfl⟩, ⟨rfl, rfl, rfl⟩, ⟨rfl, rfl, rfl⟩, rfl⟩ := hsh
    have hok : okList (D.nodes.length : Int) D.names = true := HV.out.2.2.2.2.1
    obtain ⟨hap, hso, hle, hnd⟩ := okList_apart hok
    have hnl : D.nodes.length ≤ 600 := by have h := HV.out.2.2.2.1; unfold okNodes at h; exact (of_decide_eq_true h).1
    have HC := hide C1
    have HR1 := hide r1
    have HND := hide hnd
    have FN := hide (l1Find_n a2 c2 D.names nm w1 (by omega) r2)
    have HR2 := hide r2
    clear hA L0 C0 hb1 L1 C1 hrr r1 r2 r3 r4 hap hso hnd hok
    go_wp2_with fail
    refine FN.out.mono ?_
    rintro e w2 ⟨hor, rfl⟩
    rcases hor with ⟨i, nd, hi, hnn, hcell, rfl⟩ | ⟨hnn, rfl⟩
    · obtain ⟨hn0, hn1⟩ := HND.out _ (nodeIn_of hnn)
      obtain ⟨k, hk⟩ := Int.eq_ofNat_of_zero_le hn0
      simp only at hk hn1
      subst hk
      have hkl : k < D.nodes.length := by omega
      have HRD := hide (HR.out.trans (readD_some hnn rfl hkl))
      obtain ⟨b2, o2, rfl, -⟩ := HR2.out (by omega)
      obtain ⟨b1, o1, rfl, hc1⟩ := HR1.out (by omega)
      obtain ⟨ai, ci, k0, k1, krow⟩ := hc1 k hkl
      have g1 := hcell b2 o2 rfl
      have hii : (i : Int) < (D.names.length : Int) := by omega
      have hkk : (k : Int) < (D.nodes.length : Int) := by omega
      have hbl : (D.nodes[k]).1.length ≤ 1048576 := by have := node_le D.nodes _ (List.getElem_mem hkl); have := HM.out.sum; omega
      have HCL := hide (fun (W : World) (hW : Below w2.heap.size w2 W) => bytes_v ai ci (D.nodes[k]).1 W hbl (krow.below hW))
      generalize (D.nodes[k]).1 = bl at k0 HRD HCL hbl
      generalize (D.nodes[k]).2 = sf at k1
      clear hn0 hn1 hc1 krow hcell HND HR1 HR2 hnn FN HR HLN
      have hsl : w.heap.size + 1 < w2.drew.heap.size := show w.heap.size + 1 < w2.heap.size by omega
      go_wp2
      go_region_with (go_at_call 25; refine (HCL.out _ (Below.refl _ _).drew).mono ?_; rintro e w3 ⟨v3, rfl, ho3, hb3⟩; obtain ⟨va, vc, rfl⟩ := ho3.slice; have C3 : Laid w3 (w.heap.size + 1) #[.bool false, .slice none 0 0] 30 := (hb3.block (w.heap.size + 1) hsl).trans HC.out; have f0 : w3.frozen? ⟨w.heap.size + 1, 0, none⟩ = false := frozen_of_row w3 (w.heap.size + 1) 0 _ _ C3; have f1 : w3.frozen? ⟨w.heap.size + 1, 1, none⟩ = false := frozen_of_row w3 (w.heap.size + 1) 1 _ _ C3; have z0 : w3.cell? ⟨w.heap.size + 1, 0, none⟩ = some (.bool false) := C3.cell 0; have z1 : w3.cell? ⟨w.heap.size + 1, 1, none⟩ = some (.slice none 0 0) := C3.cell 1; have HC3 := hide C3; have HO3 := hide ho3; have HB3 := hide (HB1.out.trans (((Below.refl w2.heap.size w2).drew.trans hb3).mono HB1.out.size)); clear C3 ho3 hb3)
      all_goals
        go_wp2
        exact bodyPost_ret (ret_content (w.heap.size + 1) _ _ _ rfl rfl (set_content HC3.out)) rfl (read_yes HRD.out HO3.out hsz1 HB3.out)
    · have HN := hide (HR.out.trans (readD_none hnn))
      have f0 : w2.frozen? ⟨w.heap.size + 1, 0, none⟩ = false := frozen_of_row w2 (w.heap.size + 1) 0 _ _ HC.out
      have f1 : w2.frozen? ⟨w.heap.size + 1, 1, none⟩ = false := frozen_of_row w2 (w.heap.size + 1) 1 _ _ HC.out
      have z0 : w2.cell? ⟨w.heap.size + 1, 0, none⟩ = some (.bool false) := HC.out.cell 0
      have z1 : w2.cell? ⟨w.heap.size + 1, 1, none⟩ = some (.slice none 0 0) := HC.out.cell 1
      clear FN
      go_wp2
      exact bodyPost_ret (ret_content (w.heap.size + 1) _ _ _ rfl rfl (set_content HC.out)) rfl (read_no HN.out HB1.out)
end Go.Proofs.Ytledlicandlekab
