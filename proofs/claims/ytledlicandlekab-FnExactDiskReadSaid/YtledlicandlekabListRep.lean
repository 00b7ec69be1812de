import Derived.Test.YtledlicandlekabListMap2
import Derived.Deep.Cut
namespace Go.Proofs.Ytledlicandlekab
open Go.RowKit Go.Maps
theorem nodeIn_of {es : List EN} {s : ByteArray} {n : Int} (h : nodeIn es s = some n) : (s, n) ∈ es := by
  unfold nodeIn at h
  cases hf : es.find? (fun e => decide (e.1 = s)) with
  | none => rw [hf] at h; cases h
  | some e =>
    rw [hf] at h
    have h1 := List.find?_some hf
    have h2 := List.mem_of_find?_eq_some hf
    simp at h h1
    rw [← h1, ← h]
    exact h2
theorem nodeIn_no {es : List EN} {s : ByteArray} (h : nodeIn es s = none) : ∀ n, (s, n) ∉ es := by
  intro n hn
  unfold nodeIn at h
  simp only [Option.map_eq_none_iff] at h
  have := List.find?_eq_none.1 h _ hn
  simp at this
theorem nodeIn_iff {es : List EN} (g : Good es) {s : ByteArray} {n : Int} : nodeIn es s = some n ↔ (s, n) ∈ es := by
  refine ⟨nodeIn_of, fun h => ?_⟩
  cases e : nodeIn es s with
  | none => exact absurd h (nodeIn_no e n)
  | some m => rw [g.g1 s m n (nodeIn_of e) h]
theorem rep_good {nodes : Int} {es l : List EN} {o : DO} (g : Apart es) (h : repE nodes es o = some l) : Apart l := by
  unfold repE at h
  split at h
  · split at h
    · next c =>
      simp only [Option.some.injEq] at h
      subst h
      exact (g.noName _).ins (fun n hn => (mem_noName.1 hn).2 rfl) (fun s hs => c.2.2.2.2 _ (mem_noName.1 hs).1 rfl)
    · cases h
  · split at h
    · split at h
      · cases h
      · next n0 hn0 =>
        split at h
        · simp only [Option.some.injEq] at h
          subst h
          refine ((g.noName _).noName _).ins (fun n hn => (mem_noName.1 hn).2 rfl) (fun s hs => ?_)
          obtain ⟨h1, _⟩ := mem_noName.1 hs
          obtain ⟨h3, h4⟩ := mem_noName.1 h1
          exact h4 (g.good.g2 s _ n0 h3 (nodeIn_of hn0))
        · cases h
    · split at h
      · split at h
        · cases h
        · split at h
          · simp only [Option.some.injEq] at h
            subst h
            exact g.noName _
          · cases h
      · cases h
/-- What takes tells. -/
def TakePost (w : World) (R : Option (List EN)) (e : Ending) (w' : World) : Prop := ∃ r : Bool, e = .returned (.bool r) ∧ r = R.isSome ∧ Below w.heap.size w w'
theorem take_no {w w' : World} {R : Option (List EN)} (h : R = none) (hb : Below w.heap.size w w') : TakePost w R (.returned (.bool false)) w' := ⟨false, rfl, by rw [h]; rfl, hb⟩
theorem take_yes {w w' : World} {R : Option (List EN)} {l : List EN} (h : R = some l) (hb : Below w.heap.size w w') : TakePost w R (.returned (.bool true)) w' := ⟨true, rfl, by rw [h]; rfl, hb⟩
set_option maxRecDepth 20000 in
set_option maxHeartbeats 1000000 in
theorem takes_list (b1 b2 n : Nat) (es : List EN) (kd : Int) (nm to : ByteArray) (nd nodes : Int) (w : World) (hs1 : nm.size ≤ 1048576) (hs2 : to.size ≤ 1048576) (hw : (Lit.int .i64 nd).wf = true) (hL : LstAt w b1 b2 n es) (g : Apart es) :
    Calls Try.prog 74 #[lstV b1 b2, .agg #[.int .i64 kd, .string nm, .string to, .int .i64 nd], .int .i64 nodes] w (TakePost w (repE nodes es (kd, nm, to, nd))) := by
  have hkn := keyN nd hw
  have hA : Below w.heap.size w ((w.alloc (.cells #[.map (some b1), .map (some b2)] 80)).alloc (.cells #[.int .i64 kd, .string nm, .string to, .int .i64 nd] 74)) := ((Below.refl _ _).alloc (Nat.le_refl _) _).alloc (by simp) _
  have hlt : b1 < w.heap.size ∧ b2 < w.heap.size := by obtain ⟨D1, D2, hl, _⟩ := hL; exact ⟨hl.o1.lt, hl.o2.lt⟩
  have hLA : LstAt ((w.alloc (.cells #[.map (some b1), .map (some b2)] 80)).alloc (.cells #[.int .i64 kd, .string nm, .string to, .int .i64 nd] 74)) b1 b2 n es := by
    obtain ⟨D1, D2, hl, hr⟩ := hL
    exact ⟨D1, D2, hl.below hA hlt.1 hlt.2, hr⟩
  have hz : ((w.alloc (.cells #[.map (some b1), .map (some b2)] 80)).alloc (.cells #[.int .i64 kd, .string nm, .string to, .int .i64 nd] 74)).heap.size = w.heap.size + 2 := by simp
  have L0 : Laid ((w.alloc (.cells #[.map (some b1), .map (some b2)] 80)).alloc (.cells #[.int .i64 kd, .string nm, .string to, .int .i64 nd] 74)) w.heap.size #[.map (some b1), .map (some b2)] 80 := Laid.below (B := w.heap.size + 1) (Laid.new w _ _) ((Below.refl _ _).alloc (by simp) _) (by omega)
  have L1 := Laid.new (w.alloc (.cells #[.map (some b1), .map (some b2)] 80)) #[.int .i64 kd, .string nm, .string to, .int .i64 nd] 74
  rw [show (w.alloc (.cells #[.map (some b1), .map (some b2)] 80)).heap.size = w.heap.size + 1 from World.size_alloc ..] at L1
  unfold lstV
  go_enter Try.func74, Try.ntmps74
  go_upto_region 1 with fail
  generalize (w.alloc (.cells #[.map (some b1), .map (some b2)] 80)).alloc (.cells #[.int .i64 kd, .string nm, .string to, .int .i64 nd] 74) = W at hA hLA hz L0 L1 ⊢
  have q0 : W.cell? ⟨w.heap.size, 0, none⟩ = some (.map (some b1)) := L0.cell 0
  have q1 : W.cell? ⟨w.heap.size, 1, none⟩ = some (.map (some b2)) := L0.cell 1
  have p0 : W.cell? ⟨w.heap.size + 1, 0, none⟩ = some (.int .i64 kd) := L1.cell 0
  have p1 : W.cell? ⟨w.heap.size + 1, 1, none⟩ = some (.string nm) := L1.cell 1
  have p2 : W.cell? ⟨w.heap.size + 1, 2, none⟩ = some (.string to) := L1.cell 2
  have p3 : W.cell? ⟨w.heap.size + 1, 3, none⟩ = some (.int .i64 nd) := L1.cell 3
  have HHS := hide (fun s (hs : s.size ≤ 1048576) => has_list b1 b2 n es s W hs hLA)
  obtain ⟨D1, D2, hl, hr⟩ := hLA
  have HTW := hide (hr.r3 nd)
  have HL := hide hl
  have HA := hide hA
  have HL1 := hide L1
  have HG := hide g
  clear hA hl hr L0 L1 hL g
  by_cases k1 : kd = 1
  · subst k1
    have hR := rep1 nodes es nm to nd
    have HR := hide hR
    clear hR HHS
    generalize htw : Maps.has D2 (kN nd) = tw at HTW
    go_wp2_with (at_lookup; refine wpList_lookup_own_unit _ rfl _ _ 78 rfl 3 113 lawInt Try.underlying78 (zeroUnit _) b2 n D2 rfl HL.out.o2 _ _ rfl hkn ?_)
    refine (goodName_any nm _ (by omega)).mono ?_
    rintro e w2 ⟨rfl, hb2⟩
    have hX2 : Below W.heap.size W w2 := ((Below.refl W.heap.size W).alloc (Nat.le_refl _) _).trans (hb2.mono (by simp))
    have hL2 := HL1.out.below hX2 (by omega)
    have t2 : w2.cell? ⟨w.heap.size + 1, 2, none⟩ = some (.string to) := hL2.cell 2
    have t3 : w2.cell? ⟨w.heap.size + 1, 3, none⟩ = some (.int .i64 nd) := hL2.cell 3
    have HX2 := hide (HA.out.trans (hX2.mono HA.out.size))
    clear hb2 hX2 hL2 q0 q1 p0 p1 p2 p3
    by_cases c1 : okName nm = true
    · rw [c1]
      by_cases c2 : to.toList = []
      · have c2' : (to.toList == []) = true := by simpa using c2
        by_cases c3 : 0 ≤ nd
        · by_cases c4 : nd < nodes
          · cases tw with
            | true =>
              have HN := hide (show repE nodes es (1, nm, to, nd) = none by
                rw [HR.out, if_neg]
                intro h
                obtain ⟨s, hs⟩ := HTW.out.1 rfl
                exact h.2.2.2.2 _ hs rfl)
              go_wp2
              go_ret
              exact take_no HN.out HX2.out
            | false =>
              have HN := hide (show repE nodes es (1, nm, to, nd) = some (insE (noName es nm) nm nd) by
                rw [HR.out, if_pos ⟨c1, c2, c3, c4, fun e he e2 => by
                  have := HTW.out.2 ⟨e.1, by rw [← e2]; exact he⟩
                  cases this⟩])
              go_wp2
              go_ret
              exact take_yes HN.out HX2.out
          · have HN := hide (HR.out.trans (if_neg (fun h => c4 h.2.2.2.1)))
            go_wp2
            go_ret
            exact take_no HN.out HX2.out
        · have HN := hide (HR.out.trans (if_neg (fun h => c3 h.2.2.1)))
          go_wp2
          go_ret
          exact take_no HN.out HX2.out
      · have c2' : (to.toList == []) = false := by simpa using c2
        have HN := hide (HR.out.trans (if_neg (fun h => c2 h.2.1)))
        go_wp2
        go_ret
        exact take_no HN.out HX2.out
    · have c1' : okName nm = false := by simpa using c1
      rw [c1']
      have HN := hide (HR.out.trans (if_neg (fun h => c1 h.1)))
      go_wp2
      go_ret
      exact take_no HN.out HX2.out
  · have k1' : (kd == 1) = false := by simpa using k1
    by_cases k4 : kd = 4
    · subst k4
      have HR := hide (rep4 nodes es nm to nd)
      go_wp2_with fail
      refine (HHS.out nm hs1).mono ?_
      rintro e w2 ⟨⟨r, rfl, hrr⟩, hb2⟩
      have hL2 := HL1.out.below hb2 (by omega)
      have t1 : w2.cell? ⟨w.heap.size + 1, 1, none⟩ = some (.string nm) := hL2.cell 1
      have t2 : w2.cell? ⟨w.heap.size + 1, 2, none⟩ = some (.string to) := hL2.cell 2
      have t3 : w2.cell? ⟨w.heap.size + 1, 3, none⟩ = some (.int .i64 nd) := hL2.cell 3
      have HX2 := hide (HA.out.trans (hb2.mono HA.out.size))
      have HL2 := hide hL2
      have hs2' := hb2.size
      have HRR := hide hrr
      clear hb2 hL2 q0 q1 p0 p1 p2 p3 hrr HHS
      cases r with
      | false =>
        have HN := hide (show repE nodes es (4, nm, to, nd) = none by
          rw [HR.out]
          cases e : nodeIn es nm with
          | none => rfl
          | some m => exact absurd (HRR.out.2 ⟨m, nodeIn_of e⟩) (by simp))
        go_wp2
        go_ret
        exact take_no HN.out HX2.out
      | true =>
        obtain ⟨m, hm⟩ := HRR.out.1 rfl
        have HN := hide (show repE nodes es (4, nm, to, nd) = if okName to = true ∧ to ≠ nm ∧ nd = 0 then some (insE (noName (noName es nm) to) to m) else none by rw [HR.out, (nodeIn_iff HG.out.good).2 hm])
        clear hm
        go_wp2_with fail
        refine (goodName_any to w2 (by omega)).mono ?_
        rintro e w3 ⟨rfl, hb3⟩
        have hL3 := HL2.out.below hb3 (by omega)
        have s1 : w3.cell? ⟨w.heap.size + 1, 1, none⟩ = some (.string nm) := hL3.cell 1
        have s2 : w3.cell? ⟨w.heap.size + 1, 2, none⟩ = some (.string to) := hL3.cell 2
        have s3 : w3.cell? ⟨w.heap.size + 1, 3, none⟩ = some (.int .i64 nd) := hL3.cell 3
        have HX3 := hide (HX2.out.trans (hb3.mono HX2.out.size))
        clear hb3 hL3 t1 t2 t3
        by_cases c1 : okName to = true
        · rw [c1]
          by_cases c2 : to = nm
          · have hq := beq_of_eq c2
            have HN2 := hide (HN.out.trans (if_neg (fun h => h.2.1 c2)))
            clear c2
            go_wp2
            go_ret
            exact take_no HN2.out HX3.out
          · have hq := beq_of_ne c2
            by_cases c3 : nd = 0
            · have HN2 := hide (HN.out.trans (if_pos ⟨c1, c2, c3⟩))
              have hz0 : (nd == 0) = true := by simpa using c3
              clear c2 c3
              go_wp2
              go_ret
              exact take_yes HN2.out HX3.out
            · have HN2 := hide (HN.out.trans (if_neg (fun h => c3 h.2.2)))
              have hz0 : (nd == 0) = false := by simpa using c3
              clear c2
              go_wp2
              go_ret
              exact take_no HN2.out HX3.out
        · have c1' : okName to = false := by simpa using c1
          rw [c1']
          have HN2 := hide (HN.out.trans (if_neg (fun h => c1 h.1)))
          go_wp2
          go_ret
          exact take_no HN2.out HX3.out
    · have k4' : (kd == 4) = false := by simpa using k4
      by_cases k5 : kd = 5
      · subst k5
        have HR := hide (rep5 nodes es nm to nd)
        go_wp2_with fail
        refine (HHS.out nm hs1).mono ?_
        rintro e w2 ⟨⟨r, rfl, hrr⟩, hb2⟩
        have hL2 := HL1.out.below hb2 (by omega)
        have t2 : w2.cell? ⟨w.heap.size + 1, 2, none⟩ = some (.string to) := hL2.cell 2
        have t3 : w2.cell? ⟨w.heap.size + 1, 3, none⟩ = some (.int .i64 nd) := hL2.cell 3
        have HX2 := hide (HA.out.trans (hb2.mono HA.out.size))
        have HRR := hide hrr
        clear hb2 hL2 q0 q1 p0 p1 p2 p3 hrr HHS
        cases r with
        | false =>
          have HN := hide (show repE nodes es (5, nm, to, nd) = none by
            rw [HR.out]
            cases e : nodeIn es nm with
            | none => rfl
            | some m => exact absurd (HRR.out.2 ⟨m, nodeIn_of e⟩) (by simp))
          go_wp2
          go_ret
          exact take_no HN.out HX2.out
        | true =>
          obtain ⟨m, hm⟩ := HRR.out.1 rfl
          have HN := hide (show repE nodes es (5, nm, to, nd) = if to.toList = [] ∧ nd = 0 then some (noName es nm) else none by rw [HR.out, (nodeIn_iff HG.out.good).2 hm])
          clear hm
          by_cases c2 : to.toList = []
          · have c2' : (to.toList == []) = true := by simpa using c2
            by_cases c3 : nd = 0
            · have HN2 := hide (HN.out.trans (if_pos ⟨c2, c3⟩))
              have hz0 : (nd == 0) = true := by simpa using c3
              clear c3
              go_wp2
              go_ret
              exact take_yes HN2.out HX2.out
            · have HN2 := hide (HN.out.trans (if_neg (fun h => c3 h.2)))
              have hz0 : (nd == 0) = false := by simpa using c3
              go_wp2
              go_ret
              exact take_no HN2.out HX2.out
          · have c2' : (to.toList == []) = false := by simpa using c2
            have HN2 := hide (HN.out.trans (if_neg (fun h => c2 h.1)))
            go_wp2
            go_ret
            exact take_no HN2.out HX2.out
      · have k5' : (kd == 5) = false := by simpa using k5
        have HN := hide (show repE nodes es (kd, nm, to, nd) = none by unfold repE; simp only; rw [if_neg k1, if_neg k4, if_neg k5])
        go_wp2
        go_ret
        exact take_no HN.out HA.out
end Go.Proofs.Ytledlicandlekab
