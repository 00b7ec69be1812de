import Derived.Test.YtledlicandlekabListRep
namespace Go.Proofs.Ytledlicandlekab
open Go.RowKit Go.Maps
def RplPost (w : World) (b1 b2 n : Nat) (es : List EN) : Option (List EN) → Ending → World → Prop
  | none, e, w' => e = .returned (.bool false) ∧ LstAt w' b1 b2 (n + 1) es ∧ Off b1 b2 w w'
  | some l, e, w' => e = .returned (.bool true) ∧ LstAt w' b1 b2 (n + 1) l ∧ Off b1 b2 w w'
theorem rpl_no {w w' : World} {b1 b2 n : Nat} {es : List EN} {R : Option (List EN)} (h : R = none) (hl : LstAt w' b1 b2 (n + 1) es) (ho : Off b1 b2 w w') : RplPost w b1 b2 n es R (.returned (.bool false)) w' := by subst h; exact ⟨rfl, hl, ho⟩
theorem rpl_yes {w w' : World} {b1 b2 n : Nat} {es l : List EN} {R : Option (List EN)} (h : R = some l) (hl : LstAt w' b1 b2 (n + 1) l) (ho : Off b1 b2 w w') : RplPost w b1 b2 n es R (.returned (.bool true)) w' := by subst h; exact ⟨rfl, hl, ho⟩
theorem LstAt.below {B : Nat} {w w' : World} {b1 b2 n : Nat} {es : List EN} (h : LstAt w b1 b2 n es) (hb : Below B w w') (h1 : b1 < B) (h2 : b2 < B) : LstAt w' b1 b2 n es := by
  obtain ⟨D1, D2, hl, hr⟩ := h
  exact ⟨D1, D2, hl.below hb h1 h2, hr⟩
theorem LstAt.mono {w : World} {b1 b2 n m : Nat} {es : List EN} (h : LstAt w b1 b2 n es) (hn : n ≤ m) : LstAt w b1 b2 m es := by
  obtain ⟨D1, D2, hl, hr⟩ := h
  exact ⟨D1, D2, hl.mono hn, hr⟩
theorem LstAt.lt {w : World} {b1 b2 n : Nat} {es : List EN} (h : LstAt w b1 b2 n es) : b1 < w.heap.size ∧ b2 < w.heap.size := by
  obtain ⟨D1, D2, hl, _⟩ := h
  exact ⟨hl.o1.lt, hl.o2.lt⟩
theorem some1 {nodes : Int} {es : List EN} {nm to : ByteArray} {nd : Int} (h : (repE nodes es (1, nm, to, nd)).isSome = true) : repE nodes es (1, nm, to, nd) = some (insE (noName es nm) nm nd) := by
  rw [rep1] at h ⊢
  split at h
  · next c => rw [if_pos c]
  · cases h
theorem some4 {nodes : Int} {es : List EN} {nm to : ByteArray} {nd : Int} (h : (repE nodes es (4, nm, to, nd)).isSome = true) : ∃ m, nodeIn es nm = some m ∧ repE nodes es (4, nm, to, nd) = some (insE (noName (noName es nm) to) to m) := by
  rw [rep4] at h ⊢
  cases e : nodeIn es nm with
  | none => rw [e] at h; cases h
  | some m =>
    rw [e] at h
    simp only at h ⊢
    split at h
    · next c => exact ⟨m, rfl, by rw [if_pos c]⟩
    · cases h
theorem some5 {nodes : Int} {es : List EN} {nm to : ByteArray} {nd : Int} (h : (repE nodes es (5, nm, to, nd)).isSome = true) : repE nodes es (5, nm, to, nd) = some (noName es nm) := by
  rw [rep5] at h ⊢
  cases e : nodeIn es nm with
  | none => rw [e] at h; cases h
  | some m =>
    rw [e] at h
    simp only at h ⊢
    split at h
    · next c => rw [if_pos c]
    · cases h
theorem some_kd {nodes : Int} {es : List EN} {kd : Int} {nm to : ByteArray} {nd : Int} (h : (repE nodes es (kd, nm, to, nd)).isSome = true) : kd = 1 ∨ kd = 4 ∨ kd = 5 := by
  unfold repE at h
  simp only at h
  by_cases k1 : kd = 1
  · exact .inl k1
  · by_cases k4 : kd = 4
    · exact .inr (.inl k4)
    · by_cases k5 : kd = 5
      · exact .inr (.inr k5)
      · rw [if_neg k1, if_neg k4, if_neg k5] at h; cases h
set_option maxRecDepth 20000 in
set_option maxHeartbeats 1000000 in
theorem replay_list (b1 b2 n : Nat) (es : List EN) (kd : Int) (nm to : ByteArray) (nd nodes : Int) (w : World) (hs1 : nm.size ≤ 1048576) (hs2 : to.size ≤ 1048576) (hn : n ≤ 1048570) (hw : (Lit.int .i64 nd).wf = true) (hL : LstAt w b1 b2 n es) (g : Apart es) :
    Calls Try.prog 45 #[lstV b1 b2, .agg #[.int .i64 kd, .string nm, .string to, .int .i64 nd], .int .i64 nodes] w (RplPost w b1 b2 n es (repE nodes es (kd, nm, to, nd))) := by
  have hA : Below w.heap.size w ((w.alloc (.cells #[.map (some b1), .map (some b2)] 80)).alloc (.cells #[.int .i64 kd, .string nm, .string to, .int .i64 nd] 74)) := ((Below.refl _ _).alloc (Nat.le_refl _) _).alloc (by simp) _
  obtain ⟨hlt1, hlt2⟩ := hL.lt
  have hLA := hL.below hA hlt1 hlt2
  have hz : ((w.alloc (.cells #[.map (some b1), .map (some b2)] 80)).alloc (.cells #[.int .i64 kd, .string nm, .string to, .int .i64 nd] 74)).heap.size = w.heap.size + 2 := by simp
  have L0 : Laid ((w.alloc (.cells #[.map (some b1), .map (some b2)] 80)).alloc (.cells #[.int .i64 kd, .string nm, .string to, .int .i64 nd] 74)) w.heap.size #[.map (some b1), .map (some b2)] 80 := Laid.below (B := w.heap.size + 1) (Laid.new w _ _) ((Below.refl _ _).alloc (by simp) _) (by omega)
  have L1 := Laid.new (w.alloc (.cells #[.map (some b1), .map (some b2)] 80)) #[.int .i64 kd, .string nm, .string to, .int .i64 nd] 74
  rw [show (w.alloc (.cells #[.map (some b1), .map (some b2)] 80)).heap.size = w.heap.size + 1 from World.size_alloc ..] at L1
  unfold lstV
  go_enter Try.func45, Try.ntmps45
  go_wp2_with fail
  generalize (w.alloc (.cells #[.map (some b1), .map (some b2)] 80)).alloc (.cells #[.int .i64 kd, .string nm, .string to, .int .i64 nd] 74) = W at hA hLA hz L0 L1 ⊢
  refine (takes_list b1 b2 n es kd nm to nd nodes W hs1 hs2 hw hLA g).mono ?_
  rintro e w2 ⟨r, rfl, hrr, hb2⟩
  have hL2 := hLA.below hb2 (by omega) (by omega)
  have K0 := L0.below hb2 (by omega)
  have K1 := L1.below hb2 (by omega)
  have hof : Off b1 b2 w w2 := (Off.of_below hA).trans (Off.of_below hb2)
  have q0 : w2.cell? ⟨w.heap.size, 0, none⟩ = some (.map (some b1)) := K0.cell 0
  have q1 : w2.cell? ⟨w.heap.size, 1, none⟩ = some (.map (some b2)) := K0.cell 1
  have p0 : w2.cell? ⟨w.heap.size + 1, 0, none⟩ = some (.int .i64 kd) := K1.cell 0
  have p1 : w2.cell? ⟨w.heap.size + 1, 1, none⟩ = some (.string nm) := K1.cell 1
  have p2 : w2.cell? ⟨w.heap.size + 1, 2, none⟩ = some (.string to) := K1.cell 2
  have p3 : w2.cell? ⟨w.heap.size + 1, 3, none⟩ = some (.int .i64 nd) := K1.cell 3
  have HG := hide g
  have HL2 := hide hL2
  have HOF := hide hof
  have HK0 := hide K0
  have HK1 := hide K1
  clear hA hLA L0 L1 hL g hb2 hL2 hof K0 K1
  cases r with
  | false =>
    have HN := hide (show repE nodes es (kd, nm, to, nd) = none by
      cases e : repE nodes es (kd, nm, to, nd) with
      | none => rfl
      | some l => rw [e] at hrr; cases hrr)
    clear hrr
    go_wp2
    go_ret
    exact rpl_no HN.out (HL2.out.mono (by omega)) HOF.out
  | true =>
    have hsome := hrr.symm
    clear hrr
    rcases some_kd hsome with k | k | k
    · subst k
      have HN := hide (some1 hsome)
      have BL := hide (bind_list b1 b2 n es nm nd w2 hs1 hw (by omega) HL2.out HG.out)
      unfold lstV at BL
      clear hsome
      go_wp2_with fail
      refine (BL.out).mono ?_
      rintro e w3 ⟨⟨v, rfl⟩, hl3, hof3⟩
      have HL3 := hide hl3
      have HOF3 := hide (HOF.out.trans hof3)
      clear hl3 hof3 BL
      go_wp2
      go_ret
      exact rpl_yes HN.out HL3.out HOF3.out
    · subst k
      obtain ⟨m, hm, hrep⟩ := some4 hsome
      have HN := hide hrep
      have HM := hide (nodeIn_of hm)
      clear hsome hm hrep
      have hk := keyS nm (by unfold maxLen; omega)
      have DL := hide (drop_list b1 b2 n es nm w2 hs1 HL2.out HG.out)
      unfold lstV at DL
      obtain ⟨D1, D2, hl, hr⟩ := HL2.out
      have HATM := hide (hr.r1 nm m HM.out).2
      have HO1 := hide hl.o1
      clear hl hr
      go_wp2_with (at_lookup; refine wpList_lookup_own_int _ rfl _ _ 77 rfl 9 3 .i64 lawStr Try.underlying77 Try.underlying3 (zeroInt _) b1 n D1 rfl HO1.out _ _ rfl hk ?_; intro c hat hwc; have HCM := hide (show m = c by have h := HATM.out; rw [hat] at h; simp at h; exact h.symm); clear hat)
      refine (DL.out).mono ?_
      rintro e w3 ⟨⟨v, rfl⟩, hl3, hof3⟩
      have J0 := HK0.out.off hof3 (by omega) (by omega)
      have J1 := HK1.out.off hof3 (by omega) (by omega)
      have s0 : w3.cell? ⟨w.heap.size, 0, none⟩ = some (.map (some b1)) := J0.cell 0
      have s1 : w3.cell? ⟨w.heap.size, 1, none⟩ = some (.map (some b2)) := J0.cell 1
      have s2 : w3.cell? ⟨w.heap.size + 1, 2, none⟩ = some (.string to) := J1.cell 2
      have BL := hide (bind_list b1 b2 n (noName es nm) to c w3 hs2 hwc (by omega) hl3 (HG.out.noName nm))
      unfold lstV at BL
      have HOF3 := hide (HOF.out.trans hof3)
      clear hl3 hof3 DL J0 J1 q0 q1 p0 p1 p2 p3
      go_wp2_with fail
      refine (BL.out).mono ?_
      rintro e w4 ⟨⟨v4, rfl⟩, hl4, hof4⟩
      have HL4 := hide hl4
      have HOF4 := hide (HOF3.out.trans hof4)
      clear hl4 hof4 BL
      go_wp2
      go_ret
      exact rpl_yes (by rw [HN.out, HCM.out]) HL4.out HOF4.out
    · subst k
      have HN := hide (some5 hsome)
      have DL := hide (drop_list b1 b2 n es nm w2 hs1 HL2.out HG.out)
      unfold lstV at DL
      clear hsome
      go_wp2_with fail
      refine (DL.out).mono ?_
      rintro e w3 ⟨⟨v, rfl⟩, hl3, hof3⟩
      have HL3 := hide (hl3.mono (show n ≤ n + 1 by omega))
      have HOF3 := hide (HOF.out.trans hof3)
      clear hl3 hof3 DL
      go_wp2
      go_ret
      exact rpl_yes HN.out HL3.out HOF3.out
end Go.Proofs.Ytledlicandlekab
