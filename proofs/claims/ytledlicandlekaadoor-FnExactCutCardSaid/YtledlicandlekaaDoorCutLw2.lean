import Derived.Test.YtledlicandlekaaDoorCutLw1
namespace Go.Proofs.YtledlicandlekaaDoor
open Go.RowKit
/-- A list of units at an address. -/
def UnAt (w : World) (a : Option Addr) (us : List UnitM) : Prop :=
  0 < us.length → ∃ b off, a = some ⟨b, off, none⟩ ∧ ∀ i (h : i < us.length), ∃ ai ci pi qi, w.cell? ⟨b, off + i * 4, none⟩ = some (.slice ai us[i].1.length ci) ∧ w.cell? ⟨b, off + i * 4 + 1, none⟩ = some (.slice pi us[i].2.1.length qi) ∧ w.cell? ⟨b, off + i * 4 + 2, none⟩ = some (.bool us[i].2.2.1) ∧ w.cell? ⟨b, off + i * 4 + 3, none⟩ = some (.bool us[i].2.2.2) ∧ RowAt w ai us[i].1 ∧ RowAt w pi us[i].2.1
theorem UnAt.below {w w' : World} {a : Option Addr} {us : List UnitM} (h : UnAt w a us) (hb : Below w.heap.size w w') : UnAt w' a us := fun hp => by
  obtain ⟨b, off, rfl, hc⟩ := h hp
  refine ⟨b, off, rfl, fun i hi => ?_⟩
  obtain ⟨ai, ci, pi, qi, h1, h2, h3, h4, h5, h6⟩ := hc i hi
  exact ⟨ai, ci, pi, qi, by rw [hb.cell (p := ⟨b, off + i * 4, none⟩) (lt_of_cell0 h1)]; exact h1, by rw [hb.cell (p := ⟨b, off + i * 4 + 1, none⟩) (lt_of_cell0 h2)]; exact h2, by rw [hb.cell (p := ⟨b, off + i * 4 + 2, none⟩) (lt_of_cell0 h3)]; exact h3, by rw [hb.cell (p := ⟨b, off + i * 4 + 3, none⟩) (lt_of_cell0 h4)]; exact h4, h5.below hb, h6.below hb⟩
theorem OwnU.unAt {w : World} {lo : Nat} {a : Option Addr} {n cap : Nat} {vs : List U4} {us : List UnitM} (h : OwnU w lo (.slice a n cap) vs us) : UnAt w a us := fun hp => by
  rcases h.row.2 with ⟨_, h0⟩ | ⟨g, c, cur, hv, _, hg, hcs⟩
  · omega
  · obtain ⟨rfl, rfl, rfl⟩ : a = some ⟨g, 0, none⟩ ∧ n = us.length ∧ cap = c := by simpa using hv
    have hcell : ∀ j, j < us.length * 4 → w.cell? ⟨g, j, none⟩ = (cellsU vs)[j]? := fun j hj => by
      rw [cell_of_row w g j _ _ (0, 0) hg, ← hcs.2.2.2, List.getElem?_take, if_pos hj]
      simp
    refine ⟨g, 0, rfl, fun i hi => ?_⟩
    have hvi : i < vs.length := by rw [h.len]; exact hi
    obtain ⟨x, hx, p1, p2, e⟩ := h.body i hi
    rw [List.getElem?_eq_getElem hvi, Option.some.injEq] at hx
    obtain ⟨c0, c1, c2, c3⟩ := cellsU_get vs i hvi
    rw [hx] at c0 c1 c2 c3
    obtain ⟨ai, ci, h1⟩ := p1.slice
    obtain ⟨pi, qi, h2⟩ := p2.slice
    rw [h1] at c0 p1
    rw [h2] at c1 p2
    refine ⟨ai, ci, pi, qi, ?_, ?_, ?_, ?_, p1.row, p2.row⟩
    · rw [Nat.zero_add, hcell _ (by omega)]; exact c0
    · rw [Nat.zero_add, hcell _ (by omega)]; exact c1
    · rw [Nat.zero_add, hcell _ (by omega), c2, e]
    · rw [Nat.zero_add, hcell _ (by omega), c3, e]
set_option maxHeartbeats 1000000 in
theorem eqUnitS_same (a a' : Option Addr) (cap cap' : Nat) (es : List UnitM) (w : World) (hl : es.length ≤ 9223372036854775807) (hls : ∀ e ∈ es, e.1.length ≤ 9223372036854775807 ∧ e.2.1.length ≤ 9223372036854775807) (hr : UnAt w a es) (hr' : UnAt w a' es) :
    Calls Tryd.prog 25 #[.slice a es.length cap, .slice a' es.length cap'] w fun e w' => e = .returned (.bool true) ∧ Below w.heap.size w w' := by
  go_enter Tryd.func25, Tryd.ntmps25
  go_wp2
  go_loopw [5] (fun i wr => ∃ k : Nat, k ≤ es.length ∧ i = .int .i64 k ∧ Below w.heap.size w wr) (fun i _ => es.length - (intOf i).toNat)
  case atStart => exact ⟨0, Nat.zero_le _, rfl, Below.refl _ _⟩
  case round =>
    obtain ⟨k, hk, rfl, hnx⟩ := hrel
    by_cases hlt : k < es.length
    · obtain ⟨b, off, rfl, hc⟩ := (hr.below hnx) (by omega)
      obtain ⟨b', off', rfl, hc'⟩ := (hr'.below hnx) (by omega)
      obtain ⟨ai, ci, pi, qi, hc0, hc1, hc2, hc3, hri, hsi⟩ := hc k hlt
      obtain ⟨ai', ci', pi', qi', hd0, hd1, hd2, hd3, hri', hsi'⟩ := hc' k hlt
      have hkl := hls _ (List.getElem_mem hlt)
      have HRI := hide hri
      have HRI' := hide hri'
      have HSI := hide hsi
      have HSI' := hide hsi'
      have HKL := hide hkl
      have HN := hide hnx
      clear hc hc' hr hr' hnx hri hri' hsi hsi' hkl hls
      generalize es[k].1 = l0 at hc0 hd0 HRI HRI' HKL
      generalize es[k].2.1 = m0 at hc1 hd1 HSI HSI' HKL
      generalize es[k].2.2.1 = x0 at hc2 hd2
      generalize es[k].2.2.2 = y0 at hc3 hd3
      go_wp2
      go_region_with (go_at_call 46; refine (eqUnit_same ai ai' pi pi' l0 m0 ci ci' qi qi' x0 y0 _ HKL.out.1 HKL.out.2 (HRI.out.drew 1) (HRI'.out.drew 1) (HSI.out.drew 1) (HSI'.out.drew 1)).mono ?_; rintro e w2 ⟨rfl, hb⟩)
      all_goals
        have hnx2 : Below w.heap.size w w2 := HN.out.drew.trans (hb.mono HN.out.size)
        have HN2 := hide hnx2
        clear hnx2 hb hc0 hc1 hc2 hc3 hd0 hd1 hd2 hd3
        go_wp2
        go_roundw
        case rel => exact ⟨k + 1, by omega, by go_num, HN2.out⟩
        case measure => simp [intOf]; omega
    · go_wp2
      go_ret
      exact ⟨rfl, hnx⟩
end Go.Proofs.YtledlicandlekaaDoor
