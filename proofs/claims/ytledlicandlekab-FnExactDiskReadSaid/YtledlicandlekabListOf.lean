import Derived.Test.YtledlicandlekabListRpl
namespace Go.Proofs.Ytledlicandlekab
open Go.RowKit Go.Maps
theorem Reads.mem {D1 D2 : DU} {l l' : List EN} (h : Reads D1 D2 l) (he : ∀ s n, (s, n) ∈ l ↔ (s, n) ∈ l') (hl : l.length = l'.length) : Reads D1 D2 l' :=
  ⟨h.m1, h.ti, h.sz.trans hl, h.m2, fun s n hm => h.r1 s n ((he s n).2 hm), fun s hs => by obtain ⟨n, hn⟩ := h.r2 s hs; exact ⟨n, (he s n).1 hn⟩, fun n => (h.r3 n).trans ⟨fun ⟨s, hs⟩ => ⟨s, (he s n).1 hs⟩, fun ⟨s, hs⟩ => ⟨s, (he s n).2 hs⟩⟩⟩
theorem LstAt.mem {w : World} {b1 b2 n : Nat} {l l' : List EN} (h : LstAt w b1 b2 n l) (he : ∀ s n, (s, n) ∈ l ↔ (s, n) ∈ l') (hl' : l.length = l'.length) : LstAt w b1 b2 n l' := by
  obtain ⟨D1, D2, hl, hr⟩ := h
  exact ⟨D1, D2, hl, hr.mem he hl'⟩
theorem Apart.take {es : List EN} (h : Apart es) (k : Nat) : Apart (es.take k) := List.Pairwise.sublist (List.take_sublist k es) h
theorem take_next {es : List EN} (h : Apart es) (k : Nat) (hk : k < es.length) : ∀ s n, (s, n) ∈ insE (noName (es.take k) es[k].1) es[k].1 es[k].2 ↔ (s, n) ∈ es.take (k + 1) := by
  intro s n
  rw [mem_insE, mem_noName, List.take_succ_eq_append_getElem hk, List.mem_append, List.mem_singleton]
  constructor
  · rintro (⟨rfl, rfl⟩ | ⟨h1, _⟩)
    · exact .inr rfl
    · exact .inl h1
  · rintro (h1 | h1)
    · refine .inr ⟨h1, fun e => ?_⟩
      obtain ⟨i, hi, ei⟩ := List.getElem_of_mem h1
      rw [List.length_take] at hi
      rw [List.getElem_take] at ei
      have := (List.pairwise_iff_getElem.1 h i k (by omega) hk (by omega)).1
      rw [ei] at this
      exact this e
    · left
      rw [← h1]
      exact ⟨rfl, rfl⟩
theorem take_len {es : List EN} (h : Apart es) (k : Nat) (hk : k < es.length) : (insE (noName (es.take k) es[k].1) es[k].1 es[k].2).length = (es.take (k + 1)).length := by
  rw [insE_len, noName_same, List.length_take, List.length_take]
  · omega
  · intro n hn
    obtain ⟨i, hi, ei⟩ := List.getElem_of_mem hn
    rw [List.length_take] at hi
    rw [List.getElem_take] at ei
    have := (List.pairwise_iff_getElem.1 h i k (by omega) hk (by omega)).1
    rw [ei] at this
    exact this rfl
theorem ret_lst {fn : Func} {tmps : Array Value} {p : Tmp} (B : Nat) (W : World) (x y : Value) (hf : fn.results = #[.cell p 80]) (hp : tmps.getD p undef = .pointer (some ⟨B, 0, none⟩)) (hb : Laid W B #[x, y] 80) :
    (results fn tmps).run Try.prog W = .ok (.agg #[x, y]) W :=
  results_cell_row (P := Try.prog) hf _ _ B _ _ _ _ hp hb Try.underlying80 rfl (by kernel_rfl)
theorem LstAt.setCell {w : World} {b1 b2 n : Nat} {es : List EN} (h : LstAt w b1 b2 n es) {p : Addr} (h1 : b1 ≠ p.block) (h2 : b2 ≠ p.block) (u : Value) : LstAt (w.setCell p u) b1 b2 n es := by
  obtain ⟨D1, D2, hl, hr⟩ := h
  exact ⟨D1, D2, ⟨hl.o1.setCell h1 u, hl.o2.setCell h2 u, hl.ne⟩, hr⟩
theorem reads_nil : Reads (.map []) (.map []) [] := ⟨isMap_empty, tidy_empty, rfl, isMap_empty, (fun s n h => by cases h), (fun s h => by cases h), fun n => ⟨(fun h => by cases h), (fun ⟨s, h⟩ => by cases h)⟩⟩
/-- The world when the two maps and the listing are made. -/
def madeL (w : World) : World := (((w.alloc (.cells #[.map none, .map none] 80)).alloc (.map #[] 0)).alloc (.map #[] 0)).alloc (.cells #[.map (some (w.heap.size + 1)), .map (some (w.heap.size + 1 + 1))] 80)
theorem made_below (w : World) : Below w.heap.size w (madeL w) := (((Below.refl _ _).alloc (Nat.le_refl _) _).alloc (by simp) _).alloc (by simp; omega) _ |>.alloc (by simp; omega) _
theorem made_size (w : World) : (madeL w).heap.size = w.heap.size + 4 := by simp [madeL]
theorem made_l0 (w : World) : Laid (madeL w) w.heap.size #[.map none, .map none] 80 := by
  have h0 := Laid.new w #[.map none, .map none] 80
  have hb : Below (w.heap.size + 1) (w.alloc (.cells #[.map none, .map none] 80)) (madeL w) := (((Below.refl _ _).alloc (by simp) _).alloc (by simp) _).alloc (by simp) _
  exact h0.below hb (by omega)
theorem made_l3 (w : World) : Laid (madeL w) (w.heap.size + 1 + 1 + 1) #[.map (some (w.heap.size + 1)), .map (some (w.heap.size + 1 + 1))] 80 := by
  have h := Laid.new (((w.alloc (.cells #[.map none, .map none] 80)).alloc (.map #[] 0)).alloc (.map #[] 0)) #[.map (some (w.heap.size + 1)), .map (some (w.heap.size + 1 + 1))] 80
  have hz : (((w.alloc (.cells #[.map none, .map none] 80)).alloc (.map #[] 0)).alloc (.map #[] 0)).heap.size = w.heap.size + 1 + 1 + 1 := by simp
  rw [hz] at h
  exact h
theorem made_lst (w : World) : LstAt (madeL w) (w.heap.size + 1) (w.heap.size + 1 + 1) 0 [] := by
  have h1 := World.ownsMap_made (H := Unit) (w.alloc (.cells #[.map none, .map none] 80)) Try.prog 9 (plainElem Try.prog 3)
  have h2 := World.ownsMap_made (H := Unit) ((w.alloc (.cells #[.map none, .map none] 80)).alloc (.map #[] 0)) Try.prog 3 unitElem
  rw [show (w.alloc (.cells #[.map none, .map none] 80)).heap.size = w.heap.size + 1 from World.size_alloc ..] at h1
  rw [show ((w.alloc (.cells #[.map none, .map none] 80)).alloc (.map #[] 0)).heap.size = w.heap.size + 1 + 1 from by simp] at h2
  exact ⟨_, _, ⟨(h1.alloc _).alloc _, h2.alloc _, by omega⟩, reads_nil⟩
set_option maxRecDepth 20000 in
set_option maxHeartbeats 1000000 in
theorem listingOf_any (a : Option Addr) (cap : Nat) (es : List EN) (w : World) (hn : es.length ≤ 1048570) (hs : ∀ e ∈ es, e.1.size ≤ 1048576) (hw : ∀ e ∈ es, (Lit.int .i64 e.2).wf = true) (hap : Apart es) (hr : EntAt w a es) :
    Calls Try.prog 43 #[.slice a es.length cap] w fun e w' => ∃ b1 b2, e = .returned (lstV b1 b2) ∧ w.heap.size ≤ b1 ∧ w.heap.size ≤ b2 ∧ LstAt w' b1 b2 es.length es ∧ Below w.heap.size w w' := by
  have hmm := @run_makeMap Try.prog
  have HS := hide hs
  have HW := hide hw
  have HAP := hide hap
  have HR := hide hr
  clear hs hw hap hr
  go_enter Try.func43, Try.ntmps43
  go_wp2
  clear hmm
  have m0 := made_l0 w
  have m3 := made_l3 w
  have ml := made_lst w
  have mb := made_below w
  change Code.wp _ _ _ _ (madeL w)
  generalize madeL w = W at m0 m3 ml mb ⊢
  go_loopw [5, 11] (fun _ i wr => ∃ k : Nat, k ≤ es.length ∧ i = .int .i64 (k : Int) ∧ LstAt wr (w.heap.size + 1) (w.heap.size + 1 + 1) k (es.take k) ∧ Laid wr w.heap.size #[.map none, .map none] 80 ∧ Laid wr (w.heap.size + 1 + 1 + 1) #[.map (some (w.heap.size + 1)), .map (some (w.heap.size + 1 + 1))] 80 ∧ Below w.heap.size w wr) (fun _ i _ => es.length - (intOf i).toNat)
  case atStart => exact ⟨0, Nat.zero_le _, rfl, by rw [List.take_zero]; exact ml, m0, m3, mb⟩
  case round =>
    obtain ⟨k, hk, rfl, hl, j0, j3, hb⟩ := hrel
    clear m0 m3 ml mb
    have q0 : wr.cell? ⟨w.heap.size + 1 + 1 + 1, 0, none⟩ = some (.map (some (w.heap.size + 1))) := j3.cell 0
    have q1 : wr.cell? ⟨w.heap.size + 1 + 1 + 1, 1, none⟩ = some (.map (some (w.heap.size + 1 + 1))) := j3.cell 1
    have hlt3 := j3.lt
    by_cases hlt : k < es.length
    · obtain ⟨b, off, rfl, hc⟩ := (HR.out.below hb) (by omega)
      obtain ⟨c0, c1⟩ := hc k hlt
      have hs1 := HS.out _ (List.getElem_mem hlt)
      have hw1 := HW.out _ (List.getElem_mem hlt)
      have HTN := hide (take_next HAP.out k hlt)
      have HTL := hide (take_len HAP.out k hlt)
      generalize es[k].1 = x0 at c0 hs1 HTN HTL
      generalize es[k].2 = x1 at c1 hw1 HTN HTL
      have hAo := (Below.refl wr.heap.size wr).alloc (Nat.le_refl _) (.cells #[.string x0, .int .i64 x1] 58)
      have hlA := hl.below hAo hl.lt.1 hl.lt.2
      have BL := hide (bind_list (w.heap.size + 1) (w.heap.size + 1 + 1) k (es.take k) x0 x1 _ hs1 hw1 (by omega) hlA (HAP.out.take k))
      unfold lstV at BL
      have HJ0 := hide (j0.below hAo j0.lt)
      have HJ3 := hide (j3.below hAo j3.lt)
      have HBA := hide (hb.trans (hAo.mono hb.size))
      have HNW := hide (Laid.new wr #[.string x0, .int .i64 x1] 58)
      have hbs := hb.size
      have q0a : (wr.alloc (.cells #[.string x0, .int .i64 x1] 58)).cell? ⟨w.heap.size + 1 + 1 + 1, 0, none⟩ = some (.map (some (w.heap.size + 1))) := HJ3.out.cell 0
      have q1a : (wr.alloc (.cells #[.string x0, .int .i64 x1] 58)).cell? ⟨w.heap.size + 1 + 1 + 1, 1, none⟩ = some (.map (some (w.heap.size + 1 + 1))) := HJ3.out.cell 1
      clear hc hl j0 j3 hb hAo hlA
      go_wp2_with fail
      refine (BL.out).mono ?_
      rintro e w6 ⟨⟨v, rfl⟩, hl6, hof6⟩
      have HL6 := hide (hl6.mem HTN.out HTL.out)
      have HN0 := hide (HJ0.out.off hof6 (by omega) (by omega))
      have HN3 := hide (HJ3.out.off hof6 (by omega) (by omega))
      have HN6 := hide (HBA.out.trans (hof6.below (B := w.heap.size) (by omega) (by omega) (by simp; omega)))
      clear hl6 hof6 BL q0a q1a q0 q1
      go_wp2
      go_roundw
      case rel => exact ⟨k + 1, by omega, by go_num, HL6.out, HN0.out, HN3.out, HN6.out⟩
      case measure => simp [intOf]; omega
    · obtain rfl : k = es.length := by omega
      rw [List.take_length] at hl
      have f0 : wr.frozen? ⟨w.heap.size, 0, none⟩ = false := frozen_of_row wr w.heap.size 0 _ _ j0
      have f1 : wr.frozen? ⟨w.heap.size, 1, none⟩ = false := frozen_of_row wr w.heap.size 1 _ _ j0
      have z0 : wr.cell? ⟨w.heap.size, 0, none⟩ = some (.map none) := j0.cell 0
      have z1 : wr.cell? ⟨w.heap.size, 1, none⟩ = some (.map none) := j0.cell 1
      have HL := hide hl
      have HJ0 := hide j0
      have HBB := hide hb
      clear hl j0 j3 hb
      go_wp2
      exact bodyPost_ret (ret_lst w.heap.size _ _ _ rfl rfl ((HJ0.out.set 0 _).set 1 _)) rfl ⟨w.heap.size + 1, w.heap.size + 1 + 1, rfl, by omega, by omega, (HL.out.setCell (p := ⟨w.heap.size, 0, none⟩) (by simp) (by simp; omega) _).setCell (p := ⟨w.heap.size, 1, none⟩) (by simp) (by simp; omega) _, (HBB.out.setCell (p := ⟨w.heap.size, 0, none⟩) (Nat.le_refl _) _).setCell (p := ⟨w.heap.size, 1, none⟩) (Nat.le_refl _) _⟩
end Go.Proofs.Ytledlicandlekab
