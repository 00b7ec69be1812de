import Derived.Test.YtledlicandlekabPka
import Derived.Test.YtledlicandlekabPkb
import Derived.Test.YtledlicandlekabPkc
import Derived.Test.YtledlicandlekabPkd
import Derived.Test.YtledlicandlekabPke
namespace Go.Proofs.Ytledlicandlekab
open Go.RowKit Go.Maps
def RplPost (w : World) (b1 b2 n : Nat) (es : List EN) : Option (List EN) → Ending → World → Prop
  | none, e, w' => e = .returned (.bool false) ∧ LstAt w' b1 b2 (n + 1) es ∧ Off b1 b2 w w'
  | some l, e, w' => e = .returned (.bool true) ∧ LstAt w' b1 b2 (n + 1) l ∧ Off b1 b2 w w'
theorem rpl_no {w w' : World} {b1 b2 n : Nat} {es : List EN} {R : Option (List EN)} (h : R = none) (hl : LstAt w' b1 b2 (n + 1) es) (ho : Off b1 b2 w w') : RplPost w b1 b2 n es R (.returned (.bool false)) w' := by subst h; exact ⟨rfl, hl, ho⟩
theorem rpl_yes {w w' : World} {b1 b2 n : Nat} {es l : List EN} {R : Option (List EN)} (h : R = some l) (hl : LstAt w' b1 b2 (n + 1) l) (ho : Off b1 b2 w w') : RplPost w b1 b2 n es R (.returned (.bool true)) w' := by subst h; exact ⟨rfl, hl, ho⟩
theorem LstAt.below {B : Nat} {w w' : World} {b1 b2 n : Nat} {es : List EN} (h : LstAt w b1 b2 n es) (hb : Below B w w') (h1 : b1 < B) (h2 : b2 < B) : LstAt w' b1 b2 n es := by
  obtain ⟨D1, D2, hl, hr⟩ := h
  exact ⟨D1, D2, hl.below hb h1 h2, hr⟩
theorem LstAt.mono {w : World} {b1 b2 n m : Nat} {es : List EN} (h : LstAt w b1 b2 n es) (hn : n ≤ m) : LstAt w b1 b2 m es := by
  obtain ⟨D1, D2, hl, hr⟩ := h
  exact ⟨D1, D2, hl.mono hn, hr⟩
theorem LstAt.lt {w : World} {b1 b2 n : Nat} {es : List EN} (h : LstAt w b1 b2 n es) : b1 < w.heap.size ∧ b2 < w.heap.size := by
  obtain ⟨D1, D2, hl, _⟩ := h
  exact ⟨hl.o1.lt, hl.o2.lt⟩
theorem some1 {nodes : Int} {es : List EN} {nm to : ByteArray} {nd : Int} (h : (repE nodes es (1, nm, to, nd)).isSome = true) : repE nodes es (1, nm, to, nd) = some (insE (noName es nm) nm nd) := by
  rw [rep1] at h ⊢
  split at h
  · next c => rw [if_pos c]
  · cases h
theorem some4 {nodes : Int} {es : List EN} {nm to : ByteArray} {nd : Int} (h : (repE nodes es (4, nm, to, nd)).isSome = true) : ∃ m, nodeIn es nm = some m ∧ repE nodes es (4, nm, to, nd) = some (insE (noName (noName es nm) to) to m) := by
  rw [rep4] at h ⊢
  cases e : nodeIn es nm with
  | none => rw [e] at h; cases h
  | some m =>
    rw [e] at h
    simp only at h ⊢
    split at h
    · next c => exact ⟨m, rfl, by rw [if_pos c]⟩
    · cases h
theorem some5 {nodes : Int} {es : List EN} {nm to : ByteArray} {nd : Int} (h : (repE nodes es (5, nm, to, nd)).isSome = true) : repE nodes es (5, nm, to, nd) = some (noName es nm) := by
  rw [rep5] at h ⊢
  cases e : nodeIn es nm with
  | none => rw [e] at h; cases h
  | some m =>
    rw [e] at h
    simp only at h ⊢
    split at h
    · next c => rw [if_pos c]
    · cases h
theorem some_kd {nodes : Int} {es : List EN} {kd : Int} {nm to : ByteArray} {nd : Int} (h : (repE nodes es (kd, nm, to, nd)).isSome = true) : kd = 1 ∨ kd = 4 ∨ kd = 5 := by
  unfold repE at h
  simp only at h
  by_cases k1 : kd = 1
  · exact .inl k1
  · by_cases k4 : kd = 4
    · exact .inr (.inl k4)
    · by_cases k5 : kd = 5
      · exact .inr (.inr k5)
      · rw [if_neg k1, if_neg k4, if_neg k5] at h; cases h
set_option maxRecDepth 20000 in
set_option maxHeartbeats 1000000 in
theorem replay_list (b1 b2 n : Nat) (es : List EN) (kd : Int) (nm to : ByteArray) (nd nodes : Int) (w : World) (hs1 : nm.size ≤ 1048576) (hs2 : to.size ≤ 1048576) (hn : n ≤ 1048570) (hw : (Lit.int .i64 nd).wf = true) (hL : LstAt w b1 b2 n es) (g : Apart es) :
    Calls Try.prog 45 #[lstV b1 b2, .agg #[.int .i64 kd, .string nm, .string to, .int .i64 nd], .int .i64 nodes] w (RplPost w b1 b2 n es (repE nodes es (kd, nm, to, nd))) := by
  have hA : Below w.heap.size w ((w.alloc (.cells #[.map (some b1), .map (some b2)] 80)).alloc (.cells #[.int .i64 kd, .string nm, .string to, .int .i64 nd] 74)) := ((Below.refl _ _).alloc (Nat.le_refl _) _).alloc (by simp) _
  obtain ⟨hlt1, hlt2⟩ := hL.lt
  have hLA := hL.below hA hlt1 hlt2
  have hz : ((w.alloc (.cells #[.map (some b1), .map (some b2)] 80)).alloc (.cells #[.int .i64 kd, .string nm, .string to, .int .i64 nd] 74)).heap.size = w.heap.size + 2 := by simp
  have L0 : Laid ((w.alloc (.cells #[.map (some b1), .map (some b2)] 80)).alloc (.cells #[.int .i64 kd, .string nm, .string to, .int .i64 nd] 74)) w.heap.size #[.map (some b1), .map (some b2)] 80 := Laid.below (B := w.heap.size + 1) (Laid.new w _ _) ((Below.refl _ _).alloc (by simp) _) (by omega)
  have L1 := Laid.new (w.alloc (.cells #[.map (some b1), .map (some b2)] 80)) #[.int .i64 kd, .string nm, .string to, .int .i64 nd] 74
  rw [show (w.alloc (.cells #[.map (some b1), .map (some b2)] 80)).heap.size = w.heap.size + 1 from World.size_alloc ..] at L1
  unfold lstV
  go_enter Try.func45, Try.ntmps45
  go_wp2_with fail
  generalize (w.alloc (.cells #[.map (some b1), .map (some b2)] 80)).alloc (.cells #[.int .i64 kd, .string nm, .string to, .int .i64 nd] 74) = W at hA hLA hz L0 L1 ⊢
  refine (takes_list b1 b2 n es kd nm to nd nodes W hs1 hs2 hw hLA g).mono ?_
  rintro e w2 ⟨r, rfl, hrr, hb2⟩
  have hL2 := hLA.below hb2 (by omega) (by omega)
  have K0 := L0.below hb2 (by omega)
  have K1 := L1.below hb2 (by omega)
  have hof : Off b1 b2 w w2 := (Off.of_below hA).trans (Off.of_below hb2)
  have q0 : w2.cell? ⟨w.heap.size, 0, none⟩ = some (.map (some b1)) := K0.cell 0
  have q1 : w2.cell? ⟨w.heap.size, 1, none⟩ = some (.map (some b2)) := K0.cell 1
  have p0 : w2.cell? ⟨w.heap.size + 1, 0, none⟩ = some (.int .i64 kd) := K1.cell 0
  have p1 : w2.cell? ⟨w.heap.size + 1, 1, none⟩ = some (.string nm) := K1.cell 1
  have p2 : w2.cell? ⟨w.heap.size + 1, 2, none⟩ = some (.string to) := K1.cell 2
  have p3 : w2.cell? ⟨w.heap.size + 1, 3, none⟩ = some (.int .i64 nd) := K1.cell 3
  have HG := hide g
  have HL2 := hide hL2
  have HOF := hide hof
  have HK0 := hide K0
  have HK1 := hide K1
  clear hA hLA L0 L1 hL g hb2 hL2 hof K0 K1
  cases r with
  | false =>
    have HN := hide (show repE nodes es (kd, nm, to, nd) = none by
      cases e : repE nodes es (kd, nm, to, nd) with
      | none => rfl
      | some l => rw [e] at hrr; cases hrr)
    clear hrr
    go_wp2
    go_ret
    exact rpl_no HN.out (HL2.out.mono (by omega)) HOF.out
  | true =>
    have hsome := hrr.symm
    clear hrr
    rcases some_kd hsome with k | k | k
    · subst k
      have HN := hide (some1 hsome)
      have BL := hide (bind_list b1 b2 n es nm nd w2 hs1 hw (by omega) HL2.out HG.out)
      unfold lstV at BL
      clear hsome
      go_wp2_with fail
      refine (BL.out).mono ?_
      rintro e w3 ⟨⟨v, rfl⟩, hl3, hof3⟩
      have HL3 := hide hl3
      have HOF3 := hide (HOF.out.trans hof3)
      clear hl3 hof3 BL
      go_wp2
      go_ret
      exact rpl_yes HN.out HL3.out HOF3.out
    · subst k
      obtain ⟨m, hm, hrep⟩ := some4 hsome
      have HN := hide hrep
      have HM := hide (nodeIn_of hm)
      clear hsome hm hrep
      have hk := keyS nm (by unfold maxLen; omega)
      have DL := hide (drop_list b1 b2 n es nm w2 hs1 HL2.out HG.out)
      unfold lstV at DL
      obtain ⟨D1, D2, hl, hr⟩ := HL2.out
      have HATM := hide (hr.r1 nm m HM.out).2
      have HO1 := hide hl.o1
      clear hl hr
      go_wp2_with (at_lookup; refine wpList_lookup_own_int _ rfl _ _ 77 rfl 9 3 .i64 lawStr Try.underlying77 Try.underlying3 (zeroInt _) b1 n D1 rfl HO1.out _ _ rfl hk ?_; intro c hat hwc; have HCM := hide (show m = c by have h := HATM.out; rw [hat] at h; simp at h; exact h.symm); clear hat)
      refine (DL.out).mono ?_
      rintro e w3 ⟨⟨v, rfl⟩, hl3, hof3⟩
      have J0 := HK0.out.off hof3 (by omega) (by omega)
      have J1 := HK1.out.off hof3 (by omega) (by omega)
      have s0 : w3.cell? ⟨w.heap.size, 0, none⟩ = some (.map (some b1)) := J0.cell 0
      have s1 : w3.cell? ⟨w.heap.size, 1, none⟩ = some (.map (some b2)) := J0.cell 1
      have s2 : w3.cell? ⟨w.heap.size + 1, 2, none⟩ = some (.string to) := J1.cell 2
      have BL := hide (bind_list b1 b2 n (noName es nm) to c w3 hs2 hwc (by omega) hl3 (HG.out.noName nm))
      unfold lstV at BL
      have HOF3 := hide (HOF.out.trans hof3)
      clear hl3 hof3 DL J0 J1 q0 q1 p0 p1 p2 p3
      go_wp2_with fail
      refine (BL.out).mono ?_
      rintro e w4 ⟨⟨v4, rfl⟩, hl4, hof4⟩
      have HL4 := hide hl4
      have HOF4 := hide (HOF3.out.trans hof4)
      clear hl4 hof4 BL
      go_wp2
      go_ret
      exact rpl_yes (by rw [HN.out, HCM.out]) HL4.out HOF4.out
    · subst k
      have HN := hide (some5 hsome)
      have DL := hide (drop_list b1 b2 n es nm w2 hs1 HL2.out HG.out)
      unfold lstV at DL
      clear hsome
      go_wp2_with fail
      refine (DL.out).mono ?_
      rintro e w3 ⟨⟨v, rfl⟩, hl3, hof3⟩
      have HL3 := hide (hl3.mono (show n ≤ n + 1 by omega))
      have HOF3 := hide (HOF.out.trans hof3)
      clear hl3 hof3 DL
      go_wp2
      go_ret
      exact rpl_yes HN.out HL3.out HOF3.out
end Go.Proofs.Ytledlicandlekab
namespace Go.Proofs.Ytledlicandlekab
open Go.RowKit Go.Maps
theorem Reads.mem {D1 D2 : DU} {l l' : List EN} (h : Reads D1 D2 l) (he : ∀ s n, (s, n) ∈ l ↔ (s, n) ∈ l') (hl : l.length = l'.length) : Reads D1 D2 l' :=
  ⟨h.m1, h.ti, h.sz.trans hl, h.m2, fun s n hm => h.r1 s n ((he s n).2 hm), fun s hs => by obtain ⟨n, hn⟩ := h.r2 s hs; exact ⟨n, (he s n).1 hn⟩, fun n => (h.r3 n).trans ⟨fun ⟨s, hs⟩ => ⟨s, (he s n).1 hs⟩, fun ⟨s, hs⟩ => ⟨s, (he s n).2 hs⟩⟩⟩
theorem LstAt.mem {w : World} {b1 b2 n : Nat} {l l' : List EN} (h : LstAt w b1 b2 n l) (he : ∀ s n, (s, n) ∈ l ↔ (s, n) ∈ l') (hl' : l.length = l'.length) : LstAt w b1 b2 n l' := by
  obtain ⟨D1, D2, hl, hr⟩ := h
  exact ⟨D1, D2, hl, hr.mem he hl'⟩
theorem Apart.take {es : List EN} (h : Apart es) (k : Nat) : Apart (es.take k) := List.Pairwise.sublist (List.take_sublist k es) h
theorem take_next {es : List EN} (h : Apart es) (k : Nat) (hk : k < es.length) : ∀ s n, (s, n) ∈ insE (noName (es.take k) es[k].1) es[k].1 es[k].2 ↔ (s, n) ∈ es.take (k + 1) := by
  intro s n
  rw [mem_insE, mem_noName, List.take_succ_eq_append_getElem hk, List.mem_append, List.mem_singleton]
  constructor
  · rintro (⟨rfl, rfl⟩ | ⟨h1, _⟩)
    · exact .inr rfl
    · exact .inl h1
  · rintro (h1 | h1)
    · refine .inr ⟨h1, fun e => ?_⟩
      obtain ⟨i, hi, ei⟩ := List.getElem_of_mem h1
      rw [List.length_take] at hi
      rw [List.getElem_take] at ei
      have := (List.pairwise_iff_getElem.1 h i k (by omega) hk (by omega)).1
      rw [ei] at this
      exact this e
    · left
      rw [← h1]
      exact ⟨rfl, rfl⟩
theorem take_len {es : List EN} (h : Apart es) (k : Nat) (hk : k < es.length) : (insE (noName (es.take k) es[k].1) es[k].1 es[k].2).length = (es.take (k + 1)).length := by
  rw [insE_len, noName_same, List.length_take, List.length_take]
  · omega
  · intro n hn
    obtain ⟨i, hi, ei⟩ := List.getElem_of_mem hn
    rw [List.length_take] at hi
    rw [List.getElem_take] at ei
    have := (List.pairwise_iff_getElem.1 h i k (by omega) hk (by omega)).1
    rw [ei] at this
    exact this rfl
theorem ret_lst {fn : Func} {tmps : Array Value} {p : Tmp} (B : Nat) (W : World) (x y : Value) (hf : fn.results = #[.cell p 80]) (hp : tmps.getD p undef = .pointer (some ⟨B, 0, none⟩)) (hb : Laid W B #[x, y] 80) :
    (results fn tmps).run Try.prog W = .ok (.agg #[x, y]) W :=
  results_cell_row (P := Try.prog) hf _ _ B _ _ _ _ hp hb Try.underlying80 rfl (by kernel_rfl)
theorem LstAt.setCell {w : World} {b1 b2 n : Nat} {es : List EN} (h : LstAt w b1 b2 n es) {p : Addr} (h1 : b1 ≠ p.block) (h2 : b2 ≠ p.block) (u : Value) : LstAt (w.setCell p u) b1 b2 n es := by
  obtain ⟨D1, D2, hl, hr⟩ := h
  exact ⟨D1, D2, ⟨hl.o1.setCell h1 u, hl.o2.setCell h2 u, hl.ne⟩, hr⟩
theorem reads_nil : Reads (.map []) (.map []) [] := ⟨isMap_empty, tidy_empty, rfl, isMap_empty, (fun s n h => by cases h), (fun s h => by cases h), fun n => ⟨(fun h => by cases h), (fun ⟨s, h⟩ => by cases h)⟩⟩
/-- The world when the two maps and the listing are made. -/
def madeL (w : World) : World := (((w.alloc (.cells #[.map none, .map none] 80)).alloc (.map #[] 0)).alloc (.map #[] 0)).alloc (.cells #[.map (some (w.heap.size + 1)), .map (some (w.heap.size + 1 + 1))] 80)
theorem made_below (w : World) : Below w.heap.size w (madeL w) := (((Below.refl _ _).alloc (Nat.le_refl _) _).alloc (by simp) _).alloc (by simp; omega) _ |>.alloc (by simp; omega) _
theorem made_size (w : World) : (madeL w).heap.size = w.heap.size + 4 := by simp [madeL]
theorem made_l0 (w : World) : Laid (madeL w) w.heap.size #[.map none, .map none] 80 := by
  have h0 := Laid.new w #[.map none, .map none] 80
  have hb : Below (w.heap.size + 1) (w.alloc (.cells #[.map none, .map none] 80)) (madeL w) := (((Below.refl _ _).alloc (by simp) _).alloc (by simp) _).alloc (by simp) _
  exact h0.below hb (by omega)
theorem made_l3 (w : World) : Laid (madeL w) (w.heap.size + 1 + 1 + 1) #[.map (some (w.heap.size + 1)), .map (some (w.heap.size + 1 + 1))] 80 := by
  have h := Laid.new (((w.alloc (.cells #[.map none, .map none] 80)).alloc (.map #[] 0)).alloc (.map #[] 0)) #[.map (some (w.heap.size + 1)), .map (some (w.heap.size + 1 + 1))] 80
  have hz : (((w.alloc (.cells #[.map none, .map none] 80)).alloc (.map #[] 0)).alloc (.map #[] 0)).heap.size = w.heap.size + 1 + 1 + 1 := by simp
  rw [hz] at h
  exact h
theorem made_lst (w : World) : LstAt (madeL w) (w.heap.size + 1) (w.heap.size + 1 + 1) 0 [] := by
  have h1 := World.ownsMap_made (H := Unit) (w.alloc (.cells #[.map none, .map none] 80)) Try.prog 9 (plainElem Try.prog 3)
  have h2 := World.ownsMap_made (H := Unit) ((w.alloc (.cells #[.map none, .map none] 80)).alloc (.map #[] 0)) Try.prog 3 unitElem
  rw [show (w.alloc (.cells #[.map none, .map none] 80)).heap.size = w.heap.size + 1 from World.size_alloc ..] at h1
  rw [show ((w.alloc (.cells #[.map none, .map none] 80)).alloc (.map #[] 0)).heap.size = w.heap.size + 1 + 1 from by simp] at h2
  exact ⟨_, _, ⟨(h1.alloc _).alloc _, h2.alloc _, by omega⟩, reads_nil⟩
set_option maxRecDepth 20000 in
set_option maxHeartbeats 1000000 in
theorem listingOf_any (a : Option Addr) (cap : Nat) (es : List EN) (w : World) (hn : es.length ≤ 1048570) (hs : ∀ e ∈ es, e.1.size ≤ 1048576) (hw : ∀ e ∈ es, (Lit.int .i64 e.2).wf = true) (hap : Apart es) (hr : EntAt w a es) :
    Calls Try.prog 43 #[.slice a es.length cap] w fun e w' => ∃ b1 b2, e = .returned (lstV b1 b2) ∧ w.heap.size ≤ b1 ∧ w.heap.size ≤ b2 ∧ LstAt w' b1 b2 es.length es ∧ Below w.heap.size w w' := by
  have hmm := @run_makeMap Try.prog
  have HS := hide hs
  have HW := hide hw
  have HAP := hide hap
  have HR := hide hr
  clear hs hw hap hr
  go_enter Try.func43, Try.ntmps43
  go_wp2
  clear hmm
  have m0 := made_l0 w
  have m3 := made_l3 w
  have ml := made_lst w
  have mb := made_below w
  change Code.wp _ _ _ _ (madeL w)
  generalize madeL w = W at m0 m3 ml mb ⊢
  go_loopw [5, 11] (fun _ i wr => ∃ k : Nat, k ≤ es.length ∧ i = .int .i64 (k : Int) ∧ LstAt wr (w.heap.size + 1) (w.heap.size + 1 + 1) k (es.take k) ∧ Laid wr w.heap.size #[.map none, .map none] 80 ∧ Laid wr (w.heap.size + 1 + 1 + 1) #[.map (some (w.heap.size + 1)), .map (some (w.heap.size + 1 + 1))] 80 ∧ Below w.heap.size w wr) (fun _ i _ => es.length - (intOf i).toNat)
  case atStart => exact ⟨0, Nat.zero_le _, rfl, by rw [List.take_zero]; exact ml, m0, m3, mb⟩
  case round =>
    obtain ⟨k, hk, rfl, hl, j0, j3, hb⟩ := hrel
    clear m0 m3 ml mb
    have q0 : wr.cell? ⟨w.heap.size + 1 + 1 + 1, 0, none⟩ = some (.map (some (w.heap.size + 1))) := j3.cell 0
    have q1 : wr.cell? ⟨w.heap.size + 1 + 1 + 1, 1, none⟩ = some (.map (some (w.heap.size + 1 + 1))) := j3.cell 1
    have hlt3 := j3.lt
    by_cases hlt : k < es.length
    · obtain ⟨b, off, rfl, hc⟩ := (HR.out.below hb) (by omega)
      obtain ⟨c0, c1⟩ := hc k hlt
      have hs1 := HS.out _ (List.getElem_mem hlt)
      have hw1 := HW.out _ (List.getElem_mem hlt)
      have HTN := hide (take_next HAP.out k hlt)
      have HTL := hide (take_len HAP.out k hlt)
      generalize es[k].1 = x0 at c0 hs1 HTN HTL
      generalize es[k].2 = x1 at c1 hw1 HTN HTL
      have hAo := (Below.refl wr.heap.size wr).alloc (Nat.le_refl _) (.cells #[.string x0, .int .i64 x1] 58)
      have hlA := hl.below hAo hl.lt.1 hl.lt.2
      have BL := hide (bind_list (w.heap.size + 1) (w.heap.size + 1 + 1) k (es.take k) x0 x1 _ hs1 hw1 (by omega) hlA (HAP.out.take k))
      unfold lstV at BL
      have HJ0 := hide (j0.below hAo j0.lt)
      have HJ3 := hide (j3.below hAo j3.lt)
      have HBA := hide (hb.trans (hAo.mono hb.size))
      have HNW := hide (Laid.new wr #[.string x0, .int .i64 x1] 58)
      have hbs := hb.size
      have q0a : (wr.alloc (.cells #[.string x0, .int .i64 x1] 58)).cell? ⟨w.heap.size + 1 + 1 + 1, 0, none⟩ = some (.map (some (w.heap.size + 1))) := HJ3.out.cell 0
      have q1a : (wr.alloc (.cells #[.string x0, .int .i64 x1] 58)).cell? ⟨w.heap.size + 1 + 1 + 1, 1, none⟩ = some (.map (some (w.heap.size + 1 + 1))) := HJ3.out.cell 1
      clear hc hl j0 j3 hb hAo hlA
      go_wp2_with fail
      refine (BL.out).mono ?_
      rintro e w6 ⟨⟨v, rfl⟩, hl6, hof6⟩
      have HL6 := hide (hl6.mem HTN.out HTL.out)
      have HN0 := hide (HJ0.out.off hof6 (by omega) (by omega))
      have HN3 := hide (HJ3.out.off hof6 (by omega) (by omega))
      have HN6 := hide (HBA.out.trans (hof6.below (B := w.heap.size) (by omega) (by omega) (by simp; omega)))
      clear hl6 hof6 BL q0a q1a q0 q1
      go_wp2
      go_roundw
      case rel => exact ⟨k + 1, by omega, by go_num, HL6.out, HN0.out, HN3.out, HN6.out⟩
      case measure => simp [intOf]; omega
    · obtain rfl : k = es.length := by omega
      rw [List.take_length] at hl
      have f0 : wr.frozen? ⟨w.heap.size, 0, none⟩ = false := frozen_of_row wr w.heap.size 0 _ _ j0
      have f1 : wr.frozen? ⟨w.heap.size, 1, none⟩ = false := frozen_of_row wr w.heap.size 1 _ _ j0
      have z0 : wr.cell? ⟨w.heap.size, 0, none⟩ = some (.map none) := j0.cell 0
      have z1 : wr.cell? ⟨w.heap.size, 1, none⟩ = some (.map none) := j0.cell 1
      have HL := hide hl
      have HJ0 := hide j0
      have HBB := hide hb
      clear hl j0 j3 hb
      go_wp2
      exact bodyPost_ret (ret_lst w.heap.size _ _ _ rfl rfl ((HJ0.out.set 0 _).set 1 _)) rfl ⟨w.heap.size + 1, w.heap.size + 1 + 1, rfl, by omega, by omega, (HL.out.setCell (p := ⟨w.heap.size, 0, none⟩) (by simp) (by simp; omega) _).setCell (p := ⟨w.heap.size, 1, none⟩) (by simp) (by simp; omega) _, (HBB.out.setCell (p := ⟨w.heap.size, 0, none⟩) (Nat.le_refl _) _).setCell (p := ⟨w.heap.size, 1, none⟩) (Nat.le_refl _) _⟩
end Go.Proofs.Ytledlicandlekab
namespace Go.Proofs.Ytledlicandlekab
open Go.RowKit
set_option maxRecDepth 20000 in
theorem bytesOf_any (a : Option Addr) (cap : Nat) (ns : List (List Nat × Int)) (w : World) (hn : ns.length ≤ 9223372036854775807) (hsum : sumN ns ≤ 1048576) (hr : NodeAt w a ns) :
    Calls Try.prog 79 #[.slice a ns.length cap] w fun e w' => e = .returned (.int .i64 (sumN ns : Int)) ∧ Below w.heap.size w w' := by
  go_enter Try.func79, Try.ntmps79
  go_wp2
  go_loopw [3, 8] (fun t i wr => ∃ k : Nat, k ≤ ns.length ∧ i = .int .i64 k ∧ t = .int .i64 (sumN (ns.take k) : Int) ∧ Below w.heap.size w wr) (fun _ i _ => ns.length - (intOf i).toNat)
  case atStart => exact ⟨0, Nat.zero_le _, rfl, rfl, Below.refl _ _⟩
  case round =>
    obtain ⟨k, hk, rfl, rfl, hnx⟩ := hrel
    by_cases hlt : k < ns.length
    · obtain ⟨b, off, rfl, hc⟩ := (hr.below hnx) (by omega)
      obtain ⟨ai, ci, hc0, hc1, _⟩ := hc k hlt
      have HS := hide (sumN_take_succ ns k hlt)
      have hle := sumN_take_le ns (k + 1)
      rw [sumN_take_succ ns k hlt] at hle
      have HN := hide (hnx.alloc hnx.size (.cells #[.slice ai ns[k].1.length ci, .int .i64 ns[k].2] 56))
      clear hc hr hnx
      generalize sumN (ns.take k) = s0 at hle HS ⊢
      generalize ns[k].1.length = n0 at hc0 hle HS HN
      generalize ns[k].2 = sf at hc1 HN
      go_wp2
      go_roundw
      case rel => exact ⟨k + 1, by omega, by go_num, val_int (by rw [HS.out]; omega), HN.out⟩
      case measure => simp [intOf]; omega
    · have he : ns.take k = ns := List.take_of_length_le (by omega)
      rw [he]
      go_wp2
      go_ret
      exact ⟨rfl, hnx⟩
def okNode (e : List Nat × Int) : Bool := decide (e.1.length ≤ 40000 ∧ 0 ≤ e.2 ∧ e.2 ≤ e.1.length)
def okNodes (ns : List (List Nat × Int)) : Bool := decide (ns.length ≤ 600 ∧ (∀ i (h : i < ns.length), okNode ns[i] = true) ∧ sumN ns ≤ 200000)
theorem okNodes_no {ns : List (List Nat × Int)} {i : Nat} (h : i < ns.length) (hb : okNode ns[i] = false) : okNodes ns = false := by
  unfold okNodes
  refine decide_eq_false fun h' => ?_
  rw [h'.2.1 i h] at hb
  simp at hb
set_option maxRecDepth 20000 in
theorem nodesFit_any (a : Option Addr) (cap : Nat) (ns : List (List Nat × Int)) (w : World) (hn : ns.length ≤ 9223372036854775807) (hls : ∀ e ∈ ns, e.1.length ≤ 1048576) (hsum : sumN ns ≤ 1048576) (hr : NodeAt w a ns) :
    Calls Try.prog 60 #[.slice a ns.length cap] w fun e w' => e = .returned (.bool (okNodes ns)) ∧ Below w.heap.size w w' := by
  by_cases h6 : 600 < ns.length
  · have hf : okNodes ns = false := decide_eq_false fun h => by omega
    rw [hf]
    go_enter Try.func60, Try.ntmps60
    go_wp2
    go_ret
    exact ⟨rfl, Below.refl _ _⟩
  go_enter Try.func60, Try.ntmps60
  go_wp2
  go_loopw [10] (fun i wr => ∃ k : Nat, k ≤ ns.length ∧ i = .int .i64 k ∧ (∀ i (h : i < ns.length), i < k → okNode ns[i] = true) ∧ Below w.heap.size w wr) (fun i _ => ns.length - (intOf i).toNat)
  case atStart => exact ⟨0, Nat.zero_le _, rfl, fun i _ h => by omega, Below.refl _ _⟩
  case round =>
    obtain ⟨k, hk, rfl, hok, hnx⟩ := hrel
    have HK := hide hok
    have HR := hide hr
    clear hok
    by_cases hlt : k < ns.length
    · obtain ⟨b, off, rfl, hc⟩ := (hr.below hnx) (by omega)
      obtain ⟨ai, ci, hc0, hc1, _⟩ := hc k hlt
      have hkl := hls _ (List.getElem_mem hlt)
      have HN := hide (hnx.alloc hnx.size (.cells #[.slice ai ns[k].1.length ci, .int .i64 ns[k].2] 56))
      have HNO := hide (okNodes_no (ns := ns) hlt)
      have HOK := hide (show okNode ns[k] = decide (ns[k].1.length ≤ 40000 ∧ 0 ≤ ns[k].2 ∧ ns[k].2 ≤ ns[k].1.length) from rfl)
      have HST := hide (fun (e : okNode ns[k] = true) (i : Nat) (h : i < ns.length) (h' : i < k + 1) => (by
        by_cases e' : i = k
        · subst e'; exact e
        · exact HK.out i h (by omega) : okNode ns[i] = true))
      clear hc hr hnx hls HK
      generalize ns[k].1.length = n0 at hc0 HN HOK hkl
      generalize ns[k].2 = sf at hc1 HN HOK
      by_cases g1 : 40000 < n0
      · go_wp2
        go_ret
        exact ⟨ret_bool (HNO.out (by rw [HOK.out]; exact decide_eq_false fun h => by omega)).symm, HN.out⟩
      by_cases g2 : sf < 0
      · go_wp2
        go_ret
        exact ⟨ret_bool (HNO.out (by rw [HOK.out]; exact decide_eq_false fun h => by omega)).symm, HN.out⟩
      by_cases g3 : (n0 : Int) < sf
      · go_wp2
        go_ret
        exact ⟨ret_bool (HNO.out (by rw [HOK.out]; exact decide_eq_false fun h => by omega)).symm, HN.out⟩
      have HST2 := hide (HST.out (by rw [HOK.out]; exact decide_eq_true ⟨by omega, by omega, by omega⟩))
      go_wp2
      go_roundw
      case rel => exact ⟨k + 1, by omega, by go_num, HST2.out, HN.out⟩
      case measure => simp [intOf]; omega
    · go_wp2_with fail
      refine (bytesOf_any a cap ns wr hn hsum (HR.out.below hnx)).mono ?_
      rintro e w2 ⟨rfl, hb⟩
      have HN := hide (hnx.trans (hb.mono hnx.size))
      clear hb hnx hr hls
      have HF : Hid (okNodes ns = decide (sumN ns ≤ 200000)) := by
        unfold okNodes
        by_cases h2 : sumN ns ≤ 200000
        · rw [decide_eq_true h2]; exact decide_eq_true ⟨by omega, fun i h => HK.out i h (by omega), h2⟩
        · rw [decide_eq_false h2]; exact decide_eq_false fun h => h2 h.2.2
      go_wp2
      go_ret
      exact ⟨ret_bool (by rw [HF.out]; simp; omega), HN.out⟩
end Go.Proofs.Ytledlicandlekab
namespace Go.Proofs.Ytledlicandlekab
open Go.RowKit
/-- All operations of Pend, one after the other. -/
def repAll (nodes : Int) : List EN → List DO → Option (List EN)
  | es, [] => some es
  | es, o :: r => match repE nodes es o with
    | none => none
    | some l => if 300 < l.length then none else repAll nodes l r
/-- What a valid disk is, one word for the specification and the program. -/
def ValidD (D : MDisk) : Prop := 0 ≤ D.quota ∧ D.quota ≤ 1000000 ∧ D.pend.length ≤ 1000 ∧ okNodes D.nodes = true ∧ okList (D.nodes.length : Int) D.names = true ∧ okList (D.nodes.length : Int) D.kept = true ∧ repAll (D.nodes.length : Int) D.kept D.pend = some D.names
def ValPost (w : World) (P : Prop) (e : Ending) (w' : World) : Prop := ∃ r : Bool, e = .returned (.bool r) ∧ (r = true ↔ P) ∧ Below w.heap.size w w'
theorem val_no {w w' : World} {P : Prop} (h : ¬ P) (hb : Below w.heap.size w w') : ValPost w P (.returned (.bool false)) w' := ⟨false, rfl, ⟨fun e => (by cases e), fun p => absurd p h⟩, hb⟩
/-- Numbers that keep all in bounds. -/
structure Modest (D : MDisk) : Prop where
  n1 : D.nodes.length ≤ 1048576
  n2 : D.names.length ≤ 1048576
  n3 : D.kept.length ≤ 1048576
  n4 : D.pend.length ≤ 1048576
  sum : sumN D.nodes ≤ 1048576
  s2 : ∀ e ∈ D.names, e.1.size ≤ 1048576
  s3 : ∀ e ∈ D.kept, e.1.size ≤ 1048576
  s4 : ∀ o ∈ D.pend, o.2.1.size ≤ 1048576 ∧ o.2.2.1.size ≤ 1048576
theorem node_le (ns : List (List Nat × Int)) : ∀ e ∈ ns, e.1.length ≤ sumN ns := by
  induction ns with
  | nil => intro e h; cases h
  | cons x r ih =>
    intro e h
    rcases List.mem_cons.1 h with rfl | h
    · simp only [sumN]; omega
    · have := ih e h; simp only [sumN]; omega
set_option maxRecDepth 20000 in
set_option maxHeartbeats 1000000 in
theorem specValid_any (a1 a2 a3 a4 : Option Addr) (c1 c2 c3 c4 : Nat) (D : MDisk) (w : World) (hM : Modest D) (h1 : NodeAt w a1 D.nodes) (h2 : EntAt w a2 D.names) (h3 : EntAt w a3 D.kept) (h4 : OpAt w a4 D.pend) :
    Calls Try.prog 23 #[.agg #[.slice a1 D.nodes.length c1, .slice a2 D.names.length c2, .slice a3 D.kept.length c3, .slice a4 D.pend.length c4, .int .i64 D.quota]] w (ValPost w (ValidD D)) := by
  have hB0 : Below w.heap.size w (w.alloc (.cells #[.slice a1 D.nodes.length c1, .slice a2 D.names.length c2, .slice a3 D.kept.length c3, .slice a4 D.pend.length c4, .int .i64 D.quota] 36)) := (Below.refl _ _).alloc (Nat.le_refl _) _
  have L0 := Laid.new w #[.slice a1 D.nodes.length c1, .slice a2 D.names.length c2, .slice a3 D.kept.length c3, .slice a4 D.pend.length c4, .int .i64 D.quota] 36
  obtain ⟨ns, nm, kp, pd, qt⟩ := D
  obtain ⟨m1, m2, m3, m4, msum, ms2, ms3, ms4⟩ := hM
  simp only at m1 m2 m3 m4 msum ms2 ms3 ms4 h1 h2 h3 h4 hB0 L0 ⊢
  have HV := hide (show ValidD ⟨ns, nm, kp, pd, qt⟩ = (0 ≤ qt ∧ qt ≤ 1000000 ∧ pd.length ≤ 1000 ∧ okNodes ns = true ∧ okList (ns.length : Int) nm = true ∧ okList (ns.length : Int) kp = true ∧ repAll (ns.length : Int) kp pd = some nm) from rfl)
  generalize ValidD ⟨ns, nm, kp, pd, qt⟩ = V at HV ⊢
  have HS2 := hide ms2
  have HS3 := hide ms3
  have HS4 := hide ms4
  have HH1 := hide (h1.below hB0)
  have HH2 := hide (h2.below hB0)
  have HH3 := hide (h3.below hB0)
  have HH4 := hide (h4.below hB0)
  have HB0 := hide hB0
  have HL0 := hide L0
  clear ms2 ms3 ms4 h1 h2 h3 h4 hB0 L0
  by_cases g1 : qt < 0
  · have HN := hide (show ¬ V by rw [HV.out]; exact fun h => by omega)
    go_enter Try.func23, Try.ntmps23
    go_wp2
    go_ret
    exact val_no HN.out HB0.out
  by_cases g2 : 1000000 < qt
  · have HN := hide (show ¬ V by rw [HV.out]; exact fun h => by omega)
    go_enter Try.func23, Try.ntmps23
    go_wp2
    go_ret
    exact val_no HN.out HB0.out
  by_cases g3 : (600 : Int) < (ns.length : Int)
  · have HN := hide (show ¬ V by
      rw [HV.out]
      intro h
      have := h.2.2.2.1
      unfold okNodes at this
      have := of_decide_eq_true this
      omega)
    go_enter Try.func23, Try.ntmps23
    go_wp2
    go_ret
    exact val_no HN.out HB0.out
  by_cases g4 : (1000 : Int) < (pd.length : Int)
  · have HN := hide (show ¬ V by rw [HV.out]; exact fun h => by omega)
    go_enter Try.func23, Try.ntmps23
    go_wp2
    go_ret
    exact val_no HN.out HB0.out
  go_enter Try.func23, Try.ntmps23
  go_wp2
  generalize w.alloc (.cells #[.slice a1 ns.length c1, .slice a2 nm.length c2, .slice a3 kp.length c3, .slice a4 pd.length c4, .int .i64 qt] 36) = W0 at HH1 HH2 HH3 HH4 HB0 HL0 ⊢
  go_loopw [3, 5, 34] (fun t _ i wr => ∃ k : Nat, k ≤ ns.length ∧ i = .int .i64 (k : Int) ∧ t = .int .i64 (sumN (ns.take k) : Int) ∧ (∀ i (h : i < ns.length), i < k → okNode ns[i] = true) ∧ Below W0.heap.size W0 wr) (fun _ _ i _ => ns.length - (intOf i).toNat)
  case atStart => exact ⟨0, Nat.zero_le _, rfl, rfl, fun i _ h => by omega, Below.refl _ _⟩
  case round =>
    obtain ⟨k, hk, rfl, rfl, hok, hnx⟩ := hrel
    have HK := hide hok
    have HNX := hide hnx
    have HNB := hide (HB0.out.trans (hnx.mono HB0.out.size))
    have hsl := HL0.out.lt
    have hsz := hnx.size
    clear hok
    by_cases hlt : k < ns.length
    · obtain ⟨b, off, rfl, hc⟩ := (HH1.out.below hnx) (by omega)
      obtain ⟨ai, ci, hc0, hc1, _⟩ := hc k hlt
      have hkl := node_le ns _ (List.getElem_mem hlt)
      have hst := sumN_take_le ns (k + 1)
      have HSS := hide (sumN_take_succ ns k hlt)
      have hs2 : sumN (ns.take k) ≤ 1048576 := by have := HSS.out; omega
      have HNO := hide (okNodes_no (ns := ns) hlt)
      have HOK := hide (show okNode ns[k] = decide (ns[k].1.length ≤ 40000 ∧ 0 ≤ ns[k].2 ∧ ns[k].2 ≤ ns[k].1.length) from rfl)
      have HST := hide (fun (e : okNode ns[k] = true) (i : Nat) (h : i < ns.length) (h' : i < k + 1) => (by
        by_cases e' : i = k
        · subst e'; exact e
        · exact HK.out i h (by omega) : okNode ns[i] = true))
      clear hc hnx HK hst
      generalize sumN (ns.take k) = s0 at hs2 HSS ⊢
      generalize ns[k].1.length = n0 at hc0 HOK hkl HSS
      generalize ns[k].2 = sf at hc1 HOK
      by_cases g5 : (40000 : Int) < (n0 : Int)
      · go_wp2
        go_ret
        exact val_no (by rw [HV.out]; intro h; rw [HNO.out (by rw [HOK.out]; exact decide_eq_false fun h => by omega)] at h; exact absurd h.2.2.2.1 (by simp)) (HNB.out.alloc (by omega) _)
      by_cases g6 : sf < 0
      · go_wp2
        go_ret
        exact val_no (by rw [HV.out]; intro h; rw [HNO.out (by rw [HOK.out]; exact decide_eq_false fun h => by omega)] at h; exact absurd h.2.2.2.1 (by simp)) (HNB.out.alloc (by omega) _)
      by_cases g7 : (n0 : Int) < sf
      · go_wp2
        go_ret
        exact val_no (by rw [HV.out]; intro h; rw [HNO.out (by rw [HOK.out]; exact decide_eq_false fun h => by omega)] at h; exact absurd h.2.2.2.1 (by simp)) (HNB.out.alloc (by omega) _)
      have HST2 := hide (HST.out (by rw [HOK.out]; exact decide_eq_true ⟨by omega, by omega, by omega⟩))
      go_wp2
      go_roundw
      case rel => exact ⟨k + 1, by omega, by go_num, val_int (by rw [HSS.out]; push_cast; rfl), HST2.out, HNX.out.alloc HNX.out.size _⟩
      case measure => simp [intOf]; omega
    · obtain rfl : k = ns.length := by omega
      have hLr := HL0.out.below hnx (by omega)
      have r0 : wr.cell? ⟨w.heap.size, 0, none⟩ = some (.slice a1 ns.length c1) := hLr.cell 0
      have r1 : wr.cell? ⟨w.heap.size, 1, none⟩ = some (.slice a2 nm.length c2) := hLr.cell 1
      have r2 : wr.cell? ⟨w.heap.size, 2, none⟩ = some (.slice a3 kp.length c3) := hLr.cell 2
      have r3 : wr.cell? ⟨w.heap.size, 3, none⟩ = some (.slice a4 pd.length c4) := hLr.cell 3
      rw [List.take_length]
      have HON := hide (show okNodes ns = decide (sumN ns ≤ 200000) by
        unfold okNodes
        by_cases h2 : sumN ns ≤ 200000
        · rw [decide_eq_true h2]; exact decide_eq_true ⟨by omega, fun i h => HK.out i h h, h2⟩
        · rw [decide_eq_false h2]; exact decide_eq_false fun h => h2 h.2.2)
      clear hnx HK hLr
      by_cases g8 : (200000 : Int) < (sumN ns : Int)
      · go_wp2
        go_ret
        exact val_no (by rw [HV.out, HON.out]; exact fun h => by have := of_decide_eq_true h.2.2.2.1; omega) HNB.out
      · have HON2 := hide (show okNodes ns = true by rw [HON.out]; exact decide_eq_true (by omega))
        have r0' := r0
        go_wp2_with fail
        refine (l1InOrder_any a2 c2 nm (ns.length : Int) wr (by omega) (fun e he => by have := HS2.out e he; omega) (HH2.out.below HNX.out)).mono ?_
        rintro e w2 ⟨rfl, hb2⟩
        have HX2 := hide (HNX.out.trans (hb2.mono HNX.out.size))
        have hL2 := HL0.out.below HX2.out (by omega)
        have t0 : w2.cell? ⟨w.heap.size, 0, none⟩ = some (.slice a1 ns.length c1) := hL2.cell 0
        have t1 : w2.cell? ⟨w.heap.size, 1, none⟩ = some (.slice a2 nm.length c2) := hL2.cell 1
        have t2 : w2.cell? ⟨w.heap.size, 2, none⟩ = some (.slice a3 kp.length c3) := hL2.cell 2
        have t3 : w2.cell? ⟨w.heap.size, 3, none⟩ = some (.slice a4 pd.length c4) := hL2.cell 3
        have HW2 := hide (HB0.out.trans (HX2.out.mono HB0.out.size))
        clear r0 r1 r2 r3 r0' hL2 hb2 HNX HNB
        by_cases o1 : okList (ns.length : Int) nm = true
        · rw [o1]
          go_wp2_with fail
          refine (l1InOrder_any a3 c3 kp (ns.length : Int) w2 (by omega) (fun e he => by have := HS3.out e he; omega) (HH3.out.below HX2.out)).mono ?_
          rintro e w3 ⟨rfl, hb3⟩
          have HX3 := hide (HX2.out.trans (hb3.mono HX2.out.size))
          have hL3 := HL0.out.below HX3.out (by omega)
          have s0 : w3.cell? ⟨w.heap.size, 0, none⟩ = some (.slice a1 ns.length c1) := hL3.cell 0
          have s1 : w3.cell? ⟨w.heap.size, 1, none⟩ = some (.slice a2 nm.length c2) := hL3.cell 1
          have s2 : w3.cell? ⟨w.heap.size, 2, none⟩ = some (.slice a3 kp.length c3) := hL3.cell 2
          have s3 : w3.cell? ⟨w.heap.size, 3, none⟩ = some (.slice a4 pd.length c4) := hL3.cell 3
          have HW3 := hide (HB0.out.trans (HX3.out.mono HB0.out.size))
          clear t0 t1 t2 t3 hL3 hb3
          by_cases o2 : okList (ns.length : Int) kp = true
          · rw [o2]
            have HVV := hide (show V = (repAll (ns.length : Int) kp pd = some nm) by
              rw [HV.out]
              exact propext ⟨fun h => h.2.2.2.2.2.2, fun h => ⟨by omega, by omega, by omega, HON2.out, o1, o2, h⟩⟩)
            have m3' : kp.length ≤ 1048573 := by have h := o2; unfold okList at h; have := (of_decide_eq_true h).1; omega
            clear HV HON HON2 o1 o2
            go_wp2
            go_loopw [6, 8, 9, 10, 86] (fun lv _ _ _ i wv => ∃ (k : Nat) (es : List EN) (al : Option Addr) (cl : Nat), k ≤ pd.length ∧ i = .int .i64 (k : Int) ∧ lv = .slice al es.length cl ∧ es.length ≤ 1048573 ∧ EntAt wv al es ∧ repAll (ns.length : Int) kp pd = repAll (ns.length : Int) es (pd.drop k) ∧ Below W0.heap.size W0 wv) (fun _ _ _ _ i _ => pd.length - (intOf i).toNat)
            case atStart => exact ⟨0, kp, a3, c3, Nat.zero_le _, rfl, rfl, m3', HH3.out.below HX3.out, rfl, HX3.out⟩
            case round =>
              obtain ⟨k, es, al, cl, hk, rfl, rfl, hel, hea, hrp, hxv⟩ := hrel
              have hLv := HL0.out.below hxv (by omega)
              have v0 : wr.cell? ⟨w.heap.size, 0, none⟩ = some (.slice a1 ns.length c1) := hLv.cell 0
              have v1 : wr.cell? ⟨w.heap.size, 1, none⟩ = some (.slice a2 nm.length c2) := hLv.cell 1
              have hsv : w.heap.size < wr.heap.size := lt_of_cell0 v0
              have HEA := hide hea
              have HRP := hide hrp
              have HXV := hide hxv
              have HWV := hide (HB0.out.trans (hxv.mono HB0.out.size))
              clear hea hrp hxv hLv s0 s1 s2 s3
              by_cases hlt : k < pd.length
              · have hRA := HRP.out
                rw [List.drop_eq_getElem_cons hlt, repAll] at hRA
                obtain ⟨b, off, rfl, hc⟩ := (HH4.out.below HXV.out) (by omega)
                obtain ⟨d0, d1, d2, d3⟩ := hc k hlt
                obtain ⟨hz1, hz2⟩ := HS4.out _ (List.getElem_mem hlt)
                have HRA := hide hRA
                clear hRA hc HRP
                generalize hoo : pd[k] = oo at d0 d1 d2 d3 hz1 hz2 HRA
                obtain ⟨kd, onm, oto, ond⟩ := oo
                clear hoo
                simp only at d0 d1 d2 d3 hz1 hz2 HRA
                have hAo := (Below.refl wr.heap.size wr).alloc (Nat.le_refl _) (.cells #[.int .i64 kd, .string onm, .string oto, .int .i64 ond] 74)
                have HRE := hide (l1Replay_any al cl es kd onm oto ond (ns.length : Int) _ hel hz1 hz2 (HEA.out.below hAo))
                have HXA := hide (HXV.out.trans (hAo.mono HXV.out.size))
                have v0a : (wr.alloc (.cells #[.int .i64 kd, .string onm, .string oto, .int .i64 ond] 74)).cell? ⟨w.heap.size, 0, none⟩ = some (.slice a1 ns.length c1) := (hAo.cell (p := ⟨w.heap.size, 0, none⟩) hsv).trans v0
                clear hAo HEA
                go_wp2_with fail
                generalize wr.alloc (.cells #[.int .i64 kd, .string onm, .string oto, .int .i64 ond] 74) = W5 at HRE HXA v0a ⊢
                refine (HRE.out).mono ?_
                intro e w6 hp
                clear HRE
                generalize repE (ns.length : Int) es (kd, onm, oto, ond) = R at HRA hp
                cases R with
                | none =>
                  obtain ⟨rfl, hb6⟩ := hp
                  have HN := hide (show ¬ V by rw [HVV.out, HRA.out]; simp)
                  have HB6 := hide (HB0.out.trans ((HXA.out.trans (hb6.mono HXA.out.size)).mono HB0.out.size))
                  clear hb6
                  go_wp2
                  go_ret
                  exact val_no HN.out HB6.out
                | some L =>
                  obtain ⟨a6, c6, rfl, ho6, hb6⟩ := hp
                  have HX6 := hide (HXA.out.trans (hb6.mono HXA.out.size))
                  have HO6 := hide ho6
                  clear hb6 ho6
                  by_cases hbig : (300 : Int) < (L.length : Int)
                  · have HN := hide (show ¬ V by rw [HVV.out, HRA.out]; simp only; rw [if_pos (by omega)]; simp)
                    have HB6 := hide (HB0.out.trans (HX6.out.mono HB0.out.size))
                    go_wp2
                    go_ret
                    exact val_no HN.out HB6.out
                  · have HR6 := hide (show repAll (ns.length : Int) kp pd = repAll (ns.length : Int) L (pd.drop (k + 1)) by rw [HRA.out]; simp only; rw [if_neg (by omega)])
                    go_wp2
                    go_roundw
                    case rel => exact ⟨k + 1, L, a6, c6, by omega, by go_num, rfl, by omega, HO6.out.at, HR6.out, HX6.out⟩
                    case measure => simp [intOf]; omega
              · obtain rfl : k = pd.length := by omega
                have hfin := HRP.out
                rw [List.drop_length, repAll] at hfin
                have HFI := hide hfin
                clear hfin
                go_wp2_with fail
                refine (l1Same_any al a2 cl c2 es nm wr (by omega) HEA.out (HH2.out.below HXV.out)).mono ?_
                rintro e w5 ⟨⟨r, rfl, hrr⟩, n5, rfl⟩
                have HRR := hide hrr
                clear hrr
                go_wp2
                go_ret
                exact ⟨r, rfl, by rw [HRR.out, HVV.out, HFI.out]; simp, below_drewN HWV.out _⟩
          · have o2' : okList (ns.length : Int) kp = false := by simpa using o2
            rw [o2']
            go_wp2
            go_ret
            exact val_no (by rw [HV.out]; exact fun h => o2 h.2.2.2.2.2.1) HW3.out
        · have o1' : okList (ns.length : Int) nm = false := by simpa using o1
          rw [o1']
          go_wp2
          go_ret
          exact val_no (by rw [HV.out]; exact fun h => o1 h.2.2.2.2.1) HW2.out
end Go.Proofs.Ytledlicandlekab
namespace Go.Proofs.Ytledlicandlekab
open Go.RowKit
theorem equalE_any (a a' : Option Addr) (cap cap' : Nat) (ls ms : List (ByteArray × Int)) (w : World) (hl : ls.length ≤ 9223372036854775807) (hr : EntAt w a ls) (hr' : EntAt w a' ms) :
    Calls Try.prog 81 #[.slice a ls.length cap, .slice a' ms.length cap'] w fun e w' => (∃ r : Bool, e = .returned (.bool r) ∧ (r = true ↔ ls = ms)) ∧ ∃ n, w' = w.drewN n := by
  by_cases hlen : ls.length = ms.length
  · have hne : ((ls.length : Int) != (ms.length : Int)) = false := by simp; omega
    have HL : Hid (ls.length = ms.length) := hlen
    clear hlen
    go_enter Try.func81, Try.ntmps81
    go_wp2
    go_loopw [5, 13] (fun _ i wr => ∃ k : Nat, k ≤ ls.length ∧ i = .int .i64 k ∧ ls.take k = ms.take k ∧ ∃ n, wr = w.drewN n) (fun _ i _ => ls.length - (intOf i).toNat)
    case atStart => exact ⟨0, Nat.zero_le _, rfl, rfl, 0, rfl⟩
    case round =>
      obtain ⟨k, hk, rfl, htk, hdr⟩ := hrel
      have HD : Hid (∃ n, wr = w.drewN n) := hdr
      have hrr : EntAt wr a ls := by obtain ⟨n, rfl⟩ := hdr; exact hr
      have hrr' : EntAt wr a' ms := by obtain ⟨n, rfl⟩ := hdr; exact hr'
      clear hdr hr hr'
      by_cases hlt : k < ls.length
      · have hlt' : k < ms.length := by have := HL.out; omega
        obtain ⟨b, off, rfl, hc⟩ := hrr (by omega)
        obtain ⟨b', off', rfl, hc'⟩ := hrr' (by omega)
        obtain ⟨c0, c1⟩ := hc k hlt
        obtain ⟨d0, d1⟩ := hc' k hlt'
        have HT : Hid (ls.take k = ms.take k) := htk
        have HLM := hide (fun (h : ls = ms) => (show ls[k].1 = ms[k].1 ∧ ls[k].2 = ms[k].2 from by subst h; exact ⟨rfl, rfl⟩))
        have HSU := hide (fun h1 h2 => ent_take_succ hlt hlt' htk h1 h2)
        clear hc hc' htk hrr hrr'
        generalize ls[k].1 = x1 at c0 HLM HSU
        generalize ls[k].2 = x2 at c1 HLM HSU
        generalize ms[k].1 = y1 at d0 HLM HSU
        generalize ms[k].2 = y2 at d1 HLM HSU
        by_cases g1 : x1 = y1
        · have hb1 := beq_of_eq g1
          by_cases g2 : x2 = y2
          · have hb2 : (x2 == y2) = true := by simp [g2]
            have HS2 := hide (HSU.out g1 g2)
            clear g1 g2 HLM HSU
            go_wp2
            go_quiet (fail)
            go_wp2
            go_roundw
            case rel => exact ⟨k + 1, by omega, by go_num, HS2.out, drew_more HD.out _⟩
            case measure => simp [intOf]; omega
          · have hb2 : (x2 == y2) = false := by simp [g2]
            have HN2 := hide (fun h => g2 (HLM.out h).2)
            clear g1 g2 HLM HSU
            go_wp2
            go_quiet (fail)
            go_wp2
            go_ret
            exact ⟨⟨false, rfl, ⟨fun h => by simp at h, fun h => absurd h HN2.out⟩⟩, drew_more HD.out _⟩
        · have hb1 := beq_of_ne g1
          have HN2 := hide (fun h => g1 (HLM.out h).1)
          clear g1 HLM HSU
          go_wp2
          go_quiet (fail)
          go_wp2
          go_ret
          exact ⟨⟨false, rfl, ⟨fun h => by simp at h, fun h => absurd h HN2.out⟩⟩, drew_more HD.out _⟩
      · have HEQ : Hid (ls = ms) := by
          have h1 : ls.take k = ls := List.take_of_length_le (by omega)
          have h2 : ms.take k = ms := List.take_of_length_le (by have := HL.out; omega)
          rw [← h1, ← h2, htk]; exact rfl
        go_wp2
        go_ret
        exact ⟨⟨true, rfl, ⟨fun _ => HEQ.out, fun _ => rfl⟩⟩, HD.out⟩
  · have hne : ((ls.length : Int) != (ms.length : Int)) = true := by simp; omega
    go_enter Try.func81, Try.ntmps81
    go_wp2
    go_ret
    exact ⟨⟨false, rfl, ⟨fun h => by simp at h, fun h => absurd (by rw [h]) hlen⟩⟩, 0, rfl⟩
end Go.Proofs.Ytledlicandlekab
namespace Go.Proofs.Ytledlicandlekab
open Go.RowKit Go.Maps
/-- In rising order of names. -/
def Sorted (es : List EN) : Prop := es.Pairwise fun x y => Op.bytesLess x.1.toList y.1.toList = true
theorem less_irrefl : ∀ x : List UInt8, Op.bytesLess x x = false
  | [] => rfl
  | a :: x => by
    simp only [Op.bytesLess, less_irrefl x, Bool.and_false, Bool.or_false, decide_eq_false_iff_not]
    exact UInt8.lt_irrefl a
theorem less_tri : ∀ x y : List UInt8, Op.bytesLess x y = false → x ≠ y → Op.bytesLess y x = true
  | [], [], _, h => absurd rfl h
  | [], _ :: _, h, _ => by simp [Op.bytesLess] at h
  | _ :: _, [], _, _ => rfl
  | a :: x, b :: y, h1, h2 => by
    simp only [Op.bytesLess, Bool.or_eq_false_iff, decide_eq_false_iff_not, Bool.and_eq_false_iff] at h1
    simp only [Op.bytesLess, Bool.or_eq_true, decide_eq_true_eq, Bool.and_eq_true, beq_iff_eq]
    by_cases e : a = b
    · subst e
      refine .inr ⟨rfl, less_tri x y ?_ (fun e => h2 (by rw [e]))⟩
      rcases h1.2 with h | h
      · simp at h
      · exact h
    · left
      have : ¬ a < b := h1.1
      have hne : a.toNat ≠ b.toNat := fun h => e (UInt8.toNat_inj.1 h)
      have h3 : ¬ a.toNat < b.toNat := fun h => this (UInt8.lt_iff_toNat_lt.2 h)
      exact UInt8.lt_iff_toNat_lt.2 (by omega)
theorem sorted_ins {l : List EN} (h : Sorted l) {nm : ByteArray} {nd : Int} (h1 : ∀ n, (nm, n) ∉ l) : Sorted (insE l nm nd) := by
  have hlo : ∀ x ∈ l.take (posE l nm), Op.bytesLess x.1.toList nm.toList = true := fun x hx => by
    obtain ⟨i, hi0, rfl⟩ := List.getElem_of_mem hx
    have hi : i < posE l nm ∧ i < l.length := by rw [List.length_take] at hi0; omega
    rw [List.getElem_take]
    have h2 := List.not_of_lt_findIdx (p := fun e : EN => gtB e.1 nm) (xs := l) (i := i) hi.1
    unfold gtB at h2
    simp only [Bool.not_eq_false', Bool.or_eq_true, beq_iff_eq] at h2
    rcases h2 with h2 | h2
    · exact h2
    · have hm : l[i]'hi.2 ∈ l := List.getElem_mem hi.2
      have e := bytes_eq h2
      generalize l[i]'hi.2 = y at hm e
      exact absurd (by rw [← e]; exact hm) (h1 y.2)
  have hhi : ∀ x ∈ l.drop (posE l nm), Op.bytesLess nm.toList x.1.toList = true := fun x hx => by
    obtain ⟨i, hi, rfl⟩ := List.getElem_of_mem hx
    rw [List.length_drop] at hi
    rw [List.getElem_drop]
    have hp : posE l nm < l.length := by omega
    have h2 : gtB (l[posE l nm]'hp).1 nm = true := List.findIdx_getElem (p := fun e : EN => gtB e.1 nm) (w := hp)
    unfold gtB at h2
    simp only [Bool.not_eq_true', Bool.or_eq_false_iff] at h2
    have h3 := less_tri _ _ h2.1 (fun e => by rw [e] at h2; simp at h2)
    by_cases e : i = 0
    · subst e; exact h3
    · exact less_trans _ _ _ h3 (List.pairwise_iff_getElem.1 h (posE l nm) (posE l nm + i) hp (by omega) (by omega))
  unfold insE Sorted
  refine List.pairwise_append.2 ⟨List.Pairwise.sublist (List.take_sublist _ _) h, List.pairwise_cons.2 ⟨fun x hx => hhi x hx, List.Pairwise.sublist (List.drop_sublist _ _) h⟩, fun x hx y hy => ?_⟩
  rcases List.mem_cons.1 hy with rfl | hy
  · exact hlo x hx
  · exact less_trans _ _ _ (hlo x hx) (hhi y hy)
theorem Sorted.noName {es : List EN} (h : Sorted es) (s : ByteArray) : Sorted (noName es s) := List.Pairwise.sublist List.filter_sublist h
theorem rep_sorted {nodes : Int} {es l : List EN} {o : DO} (hs : Sorted es) (h : repE nodes es o = some l) : Sorted l := by
  unfold repE at h
  split at h
  · split at h
    · simp only [Option.some.injEq] at h
      subst h
      exact sorted_ins (hs.noName _) (fun n hn => (mem_noName.1 hn).2 rfl)
    · cases h
  · split at h
    · split at h
      · cases h
      · split at h
        · simp only [Option.some.injEq] at h
          subst h
          exact sorted_ins ((hs.noName _).noName _) (fun n hn => (mem_noName.1 hn).2 rfl)
        · cases h
    · split at h
      · split at h
        · cases h
        · split at h
          · simp only [Option.some.injEq] at h
            subst h
            exact hs.noName _
          · cases h
      · cases h
/-- What listing.entries is asked to do (its own walk is not in this text). -/
def EntriesLaw : Prop := ∀ (b1 b2 n : Nat) (es : List EN) (W : World), n ≤ 1048576 → es.length ≤ 300 → Apart es → Sorted es → (∀ e ∈ es, e.1.size ≤ 1048576) → LstAt W b1 b2 n es →
  Calls Try.prog 46 #[lstV b1 b2] W fun e w' => ∃ v, e = .returned v ∧ OwnE w' W.heap.size v es ∧ Below W.heap.size W w'
theorem mem_size {es l : List EN} {nodes : Int} {o : DO} (h : repE nodes es o = some l) (hs : ∀ e ∈ es, e.1.size ≤ 1048576) (h1 : o.2.1.size ≤ 1048576) (h2 : o.2.2.1.size ≤ 1048576) : ∀ e ∈ l, e.1.size ≤ 1048576 := by
  rintro ⟨s, n⟩ he
  unfold repE at h
  split at h
  · split at h
    · simp only [Option.some.injEq] at h
      subst h
      rcases mem_insE.1 he with ⟨rfl, _⟩ | he
      · exact h1
      · exact hs _ (mem_noName.1 he).1
    · cases h
  · split at h
    · split at h
      · cases h
      · split at h
        · simp only [Option.some.injEq] at h
          subst h
          rcases mem_insE.1 he with ⟨rfl, _⟩ | he
          · exact h2
          · exact hs _ (mem_noName.1 (mem_noName.1 he).1).1
        · cases h
    · split at h
      · split at h
        · cases h
        · split at h
          · simp only [Option.some.injEq] at h
            subst h
            exact hs _ (mem_noName.1 he).1
          · cases h
      · cases h
theorem okList_apart {nodes : Int} {es : List EN} (h : okList nodes es = true) : Apart es ∧ Sorted es ∧ es.length ≤ 300 ∧ ∀ e ∈ es, 0 ≤ e.2 ∧ e.2 < nodes := by
  unfold okList at h
  obtain ⟨h1, h2⟩ := of_decide_eq_true h
  have hp : ∀ i j (hi : i < es.length) (hj : j < es.length), i < j → Op.bytesLess es[i].1.toList es[j].1.toList = true ∧ es[i].2 ≠ es[j].2 := fun i j hi hj hij => by
    have h3 := (h2 j hj).2 i hij
    unfold apart at h3
    exact of_decide_eq_true h3
  refine ⟨List.pairwise_iff_getElem.2 fun i j hi hj hij => ⟨fun e => ?_, (hp i j hi hj hij).2⟩, List.pairwise_iff_getElem.2 fun i j hi hj hij => (hp i j hi hj hij).1, h1, fun e he => ?_⟩
  · have := (hp i j hi hj hij).1
    rw [e, less_irrefl] at this
    cases this
  · obtain ⟨i, hi, rfl⟩ := List.getElem_of_mem he
    have h3 := (h2 i hi).1
    unfold okEnt at h3
    exact (of_decide_eq_true h3).2
end Go.Proofs.Ytledlicandlekab
