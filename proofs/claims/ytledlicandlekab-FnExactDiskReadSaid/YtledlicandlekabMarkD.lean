import Derived.Test.YtledlicandlekabRawMark
namespace Go.Proofs.Ytledlicandlekab
open Go.RowKit
/-- The nodes of a disk, whatever they hold, all in blocks of [lo, hi). -/
structure NodesRaw (w : World) (lo hi g n m : Nat) (vs : Nat → Value) : Prop where
  raw : Raw w g 56 m
  room : n * 2 ≤ m
  low : lo ≤ g
  high : g < hi
  sl : ∀ j, j < n → w.cell? ⟨g, j * 2, none⟩ = some (vs j)
  el : ∀ j, j < n → vs j = .slice none 0 0 ∨ ∃ gj nj cj mj, vs j = .slice (some ⟨gj, 0, none⟩) nj cj ∧ Raw w gj 5 mj ∧ nj ≤ mj ∧ lo ≤ gj ∧ gj < hi ∧ nj ≤ 1048576
theorem NodesRaw.turn {w w' : World} {lo hi g n m : Nat} {vs : Nat → Value} (h : NodesRaw w lo hi g n m vs) (hr : ∀ g' t n', Raw w g' t n' → Raw w' g' t n') (hc : ∀ j, j < n → w'.cell? ⟨g, j * 2, none⟩ = w.cell? ⟨g, j * 2, none⟩) : NodesRaw w' lo hi g n m vs :=
  ⟨hr _ _ _ h.raw, h.room, h.low, h.high, fun j hj => (hc j hj).trans (h.sl j hj), fun j hj => by
    rcases h.el j hj with e | ⟨gj, nj, cj, mj, e, r, rest⟩
    · exact .inl e
    · exact .inr ⟨gj, nj, cj, mj, e, hr _ _ _ r, rest⟩⟩
theorem cell_of_block {w w' : World} {g j : Nat} (h : w'.heap[g]? = w.heap[g]?) : w'.cell? ⟨g, j, none⟩ = w.cell? ⟨g, j, none⟩ := by
  unfold World.cell?
  simp only [h]
theorem Raw.ty {w : World} {g t t' n n' : Nat} (h : Raw w g t n) (h' : Raw w g t' n') : t = t' := by
  obtain ⟨c, hc, _⟩ := h
  obtain ⟨c', hc', _⟩ := h'
  rw [hc] at hc'
  simp only [Option.some.injEq, Obj.cells.injEq] at hc'
  exact hc'.2.1
theorem markB_nil (k : Nat) (w : World) :
    Calls Try.prog 39 #[.slice none 0 0, .int .i64 (k : Int)] w fun e w' => e = .returned (.int .i64 (k : Int)) ∧ w' = w := by
  go_enter Try.func39, Try.ntmps39
  go_wp2
  go_loopw [1, 5] (fun s i wr => i = .int .i64 0 ∧ s = .int .i64 (k : Int) ∧ wr = w) (fun _ _ _ => 0)
  case atStart => exact ⟨rfl, rfl, rfl⟩
  case round =>
    obtain ⟨rfl, rfl, rfl⟩ := hrel
    go_wp2
    go_ret
    exact ⟨rfl, rfl⟩
def ElOk (w : World) (lo hi : Nat) (v : Value) : Prop := v = .slice none 0 0 ∨ ∃ gj nj cj mj, v = .slice (some ⟨gj, 0, none⟩) nj cj ∧ Raw w gj 5 mj ∧ nj ≤ mj ∧ lo ≤ gj ∧ gj < hi ∧ nj ≤ 1048576
theorem markB_el (lo hi k : Nat) (v : Value) (w : World) (hk : k ≤ 4503599627370496) (h : ElOk w lo hi v) :
    Calls Try.prog 39 #[v, .int .i64 (k : Int)] w fun e w' => (∃ nn : Nat, nn ≤ 1048576 ∧ e = .returned (.int .i64 ((k + nn : Nat) : Int))) ∧ (∀ g' t n', Raw w g' t n' → Raw w' g' t n') ∧ (∀ b t n', t ≠ 5 → Raw w b t n' → w'.heap[b]? = w.heap[b]?) ∧ Out lo hi w w' := by
  rcases h with rfl | ⟨gj, nj, cj, mj, rfl, r, hnm, hl, hh, hnb⟩
  · refine (markB_nil k w).mono ?_
    rintro e w' ⟨rfl, rfl⟩
    exact ⟨⟨0, by omega, rfl⟩, fun _ _ _ h => h, fun _ _ _ _ _ => rfl, Out.refl _ _ _⟩
  · refine (markB_raw gj nj cj mj k w hnm hk (by omega) r).mono ?_
    rintro e w' ⟨rfl, h1, h2, h3, h4, h5, h6⟩
    refine ⟨⟨nj, hnb, rfl⟩, h1, fun b t n' ht hb => h2 b (hb.apart r ht), ⟨h3, h4, h5, by omega, fun x hx ho => h2 x (by omega)⟩⟩
set_option maxRecDepth 20000 in
set_option maxHeartbeats 1000000 in
theorem markN_raw (lo hi g n cap m k : Nat) (vs : Nat → Value) (w : World) (hn : n ≤ 1048576) (hk : k ≤ 1048576) (hr : NodesRaw w lo hi g n m vs) :
    Calls Try.prog 36 #[.slice (some ⟨g, 0, none⟩) n cap, .int .i64 (k : Int)] w fun e w' => (∃ k' : Nat, e = .returned (.int .i64 (k' : Int)) ∧ k' ≤ k + n * 1048577) ∧ (∀ g' t n', Raw w g' t n' → Raw w' g' t n') ∧ Out lo hi w w' := by
  go_enter Try.func36, Try.ntmps36
  go_wp2
  go_loopw [1, 5] (fun s i wr => ∃ j s' : Nat, j ≤ n ∧ i = .int .i64 j ∧ s = .int .i64 (s' : Int) ∧ s' ≤ k + j * 1048577 ∧ NodesRaw wr lo hi g n m vs ∧ (∀ g' t n', Raw w g' t n' → Raw wr g' t n') ∧ Out lo hi w wr) (fun _ i _ => n - (intOf i).toNat)
  case atStart => exact ⟨0, k, Nat.zero_le _, rfl, rfl, by omega, hr, fun _ _ _ h => h, Out.refl _ _ _⟩
  case round =>
    obtain ⟨j, s', hj, rfl, rfl, hs', hN, hrk, ho⟩ := hrel
    by_cases hlt : j < n
    · have hc0 := hN.sl j hlt
      have HN := hide hN
      have HRK := hide hrk
      have HO := hide ho
      have hsb : s' ≤ 1099512676352 := by
        omega
      have HEL := hide (markB_el lo hi s' (vs j) wr (by omega) (hN.el j hlt))
      have HTN := hide (show (∀ W : World, (∀ g' t n', Raw wr g' t n' → Raw W g' t n') → (∀ b t n', t ≠ 5 → Raw wr b t n' → W.heap[b]? = wr.heap[b]?) → NodesRaw W lo hi g n m vs) from fun W h1 h2 => hN.turn h1 (fun j _ => cell_of_block (h2 g _ _ (by decide) hN.raw)))
      have hsl : ∃ sa sn sc, vs j = .slice sa sn sc := by
        rcases hN.el j hlt with e | ⟨gj, nj, cj, mj, e, _⟩
        · exact ⟨_, _, _, e⟩
        · exact ⟨_, _, _, e⟩
      obtain ⟨sa, sn, sc, esl⟩ := hsl
      rw [esl] at hc0 HEL
      clear hr hN hrk ho esl
      go_wp2_with fail
      refine HEL.out.mono ?_
      rintro e w2 ⟨⟨nn, hnn, rfl⟩, hk1, hk2, ho2⟩
      have hN2 := HTN.out w2 hk1 hk2
      obtain ⟨z, hz⟩ := hN2.raw.cell (j * 2 + 1) (by have := hN2.room; omega)
      have hfz := hN2.raw.frozen (j * 2 + 1)
      have hj2 : j * 1048577 + 1048577 = (j + 1) * 1048577 := by omega
      have HX := hide (show ∀ u : Value, NodesRaw (w2.setCell ⟨g, j * 2 + 1, none⟩ u) lo hi g n m vs ∧ (∀ g' t n', Raw w g' t n' → Raw (w2.setCell ⟨g, j * 2 + 1, none⟩ u) g' t n') ∧ Out lo hi w (w2.setCell ⟨g, j * 2 + 1, none⟩ u) from fun u =>
        ⟨hN2.turn (fun _ _ _ h => h.set _ _ _) (fun i _ => World.cell?_setCell_other _ _ _ _ (by intro e; simp only [Addr.mk.injEq] at e; omega)), fun _ _ _ h => (hk1 _ _ _ (HRK.out _ _ _ h)).set _ _ _, (HO.out.trans ho2).set hN2.low hN2.high⟩)
      clear hN2 hk1 hk2 ho2 HTN HEL HRK HO HN
      go_wp2
      go_roundw
      case rel => exact ⟨j + 1, s' + nn + 1, by omega, by go_num, by go_num, by omega, (HX.out _).1, (HX.out _).2.1, (HX.out _).2.2⟩
      case measure => simp [intOf]; omega
    · obtain rfl : j = n := by omega
      have HF := hide hs'
      clear hs'
      go_wp2
      go_ret
      exact ⟨⟨s', rfl, HF.out⟩, hrk, ho⟩
end Go.Proofs.Ytledlicandlekab
