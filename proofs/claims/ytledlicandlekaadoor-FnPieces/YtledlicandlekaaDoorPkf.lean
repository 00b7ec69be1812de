import Derived.Test.YtledlicandlekaaDoorPka
import Derived.Test.YtledlicandlekaaDoorPkb
import Derived.Test.YtledlicandlekaaDoorShelf
import Derived.Test.YtledlicandlekaaDoorPkc
import Derived.Test.YtledlicandlekaaDoorShelfB
import Derived.Test.YtledlicandlekaaDoorPkd
import Derived.Test.YtledlicandlekaaDoorPke
namespace Go.Proofs.YtledlicandlekaaDoor
open Go.RowKit
/-- What a copy has written behind k rounds. -/
def half (l : List Nat) (k : Nat) : List Nat := l.take k ++ List.replicate (l.length - k) 0
theorem half_zero (l : List Nat) : half l 0 = List.replicate l.length 0 := by simp [half]
theorem half_len (l : List Nat) : half l l.length = l := by simp [half]
theorem half_length (l : List Nat) (k : Nat) (h : k ≤ l.length) : (half l k).length = l.length := by simp [half]; omega
theorem half_set (l : List Nat) (k : Nat) (h : k < l.length) : (half l k).set k l[k] = half l (k + 1) := by
  unfold half
  rw [List.set_append_right _ _ (by simp; omega)]
  have e : k - (l.take k).length = 0 := by simp; omega
  rw [e, show l.length - k = (l.length - (k + 1)) + 1 from by omega, List.replicate_succ, List.set_cons_zero, List.take_succ_eq_append_getElem h]
  simp only [List.append_assoc, List.cons_append, List.nil_append]
theorem toByteS_any (a : Option Addr) (cap : Nat) (l : List Nat) (w : World) (hl : l.length ≤ 1048576) (hr : RowAt w a l) :
    Calls Tryd.prog 7 #[.slice a l.length cap] w fun e w' => e = .returned (.slice (some ⟨w.heap.size, 0, none⟩) l.length l.length) ∧ OwnB w' w.heap.size (.slice (some ⟨w.heap.size, 0, none⟩) l.length l.length) l ∧ Below w.heap.size w w' := by
  go_enter Tryd.func7, Tryd.ntmps7
  go_wp2_with (at_make; refine wpList_make_bytes _ rfl _ _ rfl l.length rfl rfl (by omega) ?_; intro w1 hown hbel)
  have hown' : OwnB w1 w.heap.size (.slice (some ⟨w.heap.size, 0, none⟩) l.length l.length) (half l 0) := by rw [half_zero]; exact hown
  clear hown
  go_loopw [4] (fun i wr => ∃ k : Nat, k ≤ l.length ∧ i = .int .i64 k ∧ OwnB wr w.heap.size (.slice (some ⟨w.heap.size, 0, none⟩) l.length l.length) (half l k) ∧ Below w.heap.size w wr) (fun i _ => l.length - (intOf i).toNat)
  case atStart => exact ⟨0, Nat.zero_le _, rfl, hown', hbel⟩
  case round =>
    obtain ⟨k, hk, rfl, hown, hnx⟩ := hrel
    clear hown' hbel
    by_cases hlt : k < l.length
    · obtain ⟨b, off, rfl, hc⟩ := (hr.below hnx) (by omega)
      have hck := hc k hlt
      have hcell := hown.cellAt k (by rw [half_length l k hk]; exact hlt)
      have hfz := hown.frozenAt k
      have hst := (hown.store k l[k]).1
      rw [half_set l k hlt] at hst
      have HX : Hid (OwnB (wr.setCell ⟨w.heap.size, k, none⟩ (bv l[k])) w.heap.size (.slice (some ⟨w.heap.size, 0, none⟩) l.length l.length) (half l (k + 1)) ∧ Below w.heap.size w (wr.setCell ⟨w.heap.size, k, none⟩ (bv l[k]))) := ⟨hst, hnx.setCell (Nat.le_refl _) _⟩
      generalize (half l k)[k]'(by rw [half_length l k hk]; exact hlt) = y at hcell
      clear hst hown hnx hc hr
      go_wp2
      go_roundw
      case rel => exact ⟨k + 1, by omega, by go_num, HX.out.1, HX.out.2⟩
      case measure => simp [intOf]; omega
    · obtain rfl : k = l.length := by omega
      rw [half_len] at hown
      go_wp2
      go_ret
      exact ⟨rfl, hown, hnx⟩
theorem eqByteS_any (a a' : Option Addr) (cap cap' : Nat) (l m : List Nat) (w : World) (hl : l.length ≤ 9223372036854775807) (hr : RowAt w a l) (hr' : RowAt w a' m) :
    Calls Tryd.prog 10 #[.slice a l.length cap, .slice a' m.length cap'] w fun e w' => e = .returned (.bool (decide (l = m))) ∧ ∃ n, w' = w.drewN n := by
  by_cases hlen : l.length = m.length
  · have hne : ((l.length : Int) != (m.length : Int)) = false := by simp; omega
    have HL : Hid (l.length = m.length) := hlen
    clear hlen
    go_enter Tryd.func10, Tryd.ntmps10
    go_wp2
    go_loopw [5] (fun i wr => ∃ k : Nat, k ≤ l.length ∧ i = .int .i64 k ∧ l.take k = m.take k ∧ ∃ n, wr = w.drewN n) (fun i _ => l.length - (intOf i).toNat)
    case atStart => exact ⟨0, Nat.zero_le _, rfl, rfl, 0, rfl⟩
    case round =>
      obtain ⟨k, hk, rfl, htk, n, rfl⟩ := hrel
      by_cases hlt : k < l.length
      · obtain ⟨b, off, rfl, hc⟩ := hr (by omega)
        obtain ⟨b', off', rfl, hc'⟩ := hr' (by have := HL.out; omega)
        have hlt' : k < m.length := by have := HL.out; omega
        have hck := hc k hlt
        have hck' := hc' k hlt'
        have HT : Hid (l.take k = m.take k) := htk
        clear hc hc' htk hr hr'
        by_cases hx : l[k] = m[k]
        · have hxe : (((l[k] : Nat) : Int) != ((m[k] : Nat) : Int)) = false := by simp [hx]
          have HX : Hid (l[k] = m[k]) := hx
          clear hx
          go_wp2
          go_quiet (fail)
          go_wp2
          go_roundw
          case rel => exact ⟨k + 1, by omega, by go_num, take_eq_succ hlt hlt' HT.out HX.out, _, rfl⟩
          case measure => simp [intOf]; omega
        · have hxe : (((l[k] : Nat) : Int) != ((m[k] : Nat) : Int)) = true := by simp; omega
          have HX : Hid (¬ l[k] = m[k]) := hx
          clear hx
          go_wp2
          go_quiet (fail)
          go_wp2
          go_ret
          exact ⟨ret_bool (decide_eq_false (ne_of_at hlt hlt' HX.out)).symm, _, World.drewN_drewN _ _ _⟩
      · go_wp2
        go_ret
        have he : l = m := by
          have h1 : l.take k = l := List.take_of_length_le (by omega)
          have h2 : m.take k = m := List.take_of_length_le (by have := HL.out; omega)
          rw [← h1, ← h2, htk]
        exact ⟨ret_bool (decide_eq_true he).symm, n, rfl⟩
  · have hne : ((l.length : Int) != (m.length : Int)) = true := by simp; omega
    go_enter Tryd.func10, Tryd.ntmps10
    go_wp2
    go_ret
    exact ⟨ret_bool (decide_eq_false (fun h => hlen (by rw [h]))).symm, 0, rfl⟩
end Go.Proofs.YtledlicandlekaaDoor
namespace Go.Proofs.YtledlicandlekaaDoor
open Go.RowKit
structure EU (w W : World) (A B : Array Value) : Prop where
  bel : Below w.heap.size w W
  a : BlkU W w.heap.size A
  b : BlkU W (w.heap.size + 1) B
theorem EU.drewN {w W : World} {A B : Array Value} (h : EU w W A B) (n : Nat) : EU w (W.drewN n) A B := by
  have hb := below_drewN (Below.refl W.heap.size W) n
  exact ⟨below_on h.bel hb, h.a.below hb h.a.lt, h.b.below hb h.b.lt⟩
theorem eu_new (w : World) (A B : Array Value) : EU w ((w.alloc (.cells A 44)).alloc (.cells B 44)) A B :=
  ⟨((Below.refl _ _).alloc (Nat.le_refl _) _).alloc (by simp) _, (blk_new w A _).below (B := w.heap.size + 1) ((Below.refl _ _).alloc (by simp) _) (by omega), heap_alloc2_new w _ _⟩
set_option maxHeartbeats 1000000 in
theorem eqUnit_same (a a' p p' : Option Addr) (l m : List Nat) (cap cap' q q' : Nat) (x y : Bool) (w : World) (hl : l.length ≤ 9223372036854775807) (hm : m.length ≤ 9223372036854775807) (hr : RowAt w a l) (hr' : RowAt w a' l) (hs : RowAt w p m) (hs' : RowAt w p' m) :
    Calls Tryd.prog 46 #[.agg #[.slice a l.length cap, .slice p m.length q, .bool x, .bool y], .agg #[.slice a' l.length cap', .slice p' m.length q', .bool x, .bool y]] w fun e w' => e = .returned (.bool true) ∧ Below w.heap.size w w' := by
  have HU := hide (eu_new w #[.slice a l.length cap, .slice p m.length q, .bool x, .bool y] #[.slice a' l.length cap', .slice p' m.length q', .bool x, .bool y])
  have HR := hide hr
  have HR' := hide hr'
  have HS := hide hs
  have HS' := hide hs'
  clear hr hr' hs hs'
  go_enter Tryd.func46, Tryd.ntmps46
  go_wp2_with fail
  refine (eqByteS_any a a' cap cap' l l _ hl (HR.out.below HU.out.bel) (HR'.out.below HU.out.bel)).mono ?_
  rintro e w2 ⟨rfl, n, rfl⟩
  rw [decide_eq_true (rfl : l = l)]
  have HU2 := hide (HU.out.drewN n)
  clear HU
  generalize (((w.alloc (.cells #[.slice a l.length cap, .slice p m.length q, .bool x, .bool y] 44)).alloc (.cells #[.slice a' l.length cap', .slice p' m.length q', .bool x, .bool y] 44)).drewN n) = w3 at HU2 ⊢
  have q0 : w3.cell? ⟨w.heap.size, 1, none⟩ = some (.slice p m.length q) := HU2.out.a.cell 1
  have q1 : w3.cell? ⟨w.heap.size + 1, 1, none⟩ = some (.slice p' m.length q') := HU2.out.b.cell 1
  go_wp2_with fail
  refine (eqByteS_any p p' q q' m m _ hm (HS.out.below HU2.out.bel) (HS'.out.below HU2.out.bel)).mono ?_
  rintro e w4 ⟨rfl, n', rfl⟩
  rw [decide_eq_true (rfl : m = m)]
  have HU3 := hide (HU2.out.drewN n')
  clear HU2 q0 q1
  generalize w3.drewN n' = w4 at HU3 ⊢
  have q0 : w4.cell? ⟨w.heap.size, 2, none⟩ = some (.bool x) := HU3.out.a.cell 2
  have q1 : w4.cell? ⟨w.heap.size + 1, 2, none⟩ = some (.bool x) := HU3.out.b.cell 2
  have q2 : w4.cell? ⟨w.heap.size, 3, none⟩ = some (.bool y) := HU3.out.a.cell 3
  have q3 : w4.cell? ⟨w.heap.size + 1, 3, none⟩ = some (.bool y) := HU3.out.b.cell 3
  go_wp2
  go_ret
  exact ⟨rfl, HU3.out.bel⟩
end Go.Proofs.YtledlicandlekaaDoor
namespace Go.Proofs.YtledlicandlekaaDoor
open Go.RowKit
/-- A list of units at an address. -/
def UnAt (w : World) (a : Option Addr) (us : List UnitM) : Prop :=
  0 < us.length → ∃ b off, a = some ⟨b, off, none⟩ ∧ ∀ i (h : i < us.length), ∃ ai ci pi qi, w.cell? ⟨b, off + i * 4, none⟩ = some (.slice ai us[i].1.length ci) ∧ w.cell? ⟨b, off + i * 4 + 1, none⟩ = some (.slice pi us[i].2.1.length qi) ∧ w.cell? ⟨b, off + i * 4 + 2, none⟩ = some (.bool us[i].2.2.1) ∧ w.cell? ⟨b, off + i * 4 + 3, none⟩ = some (.bool us[i].2.2.2) ∧ RowAt w ai us[i].1 ∧ RowAt w pi us[i].2.1
theorem UnAt.below {w w' : World} {a : Option Addr} {us : List UnitM} (h : UnAt w a us) (hb : Below w.heap.size w w') : UnAt w' a us := fun hp => by
  obtain ⟨b, off, rfl, hc⟩ := h hp
  refine ⟨b, off, rfl, fun i hi => ?_⟩
  obtain ⟨ai, ci, pi, qi, h1, h2, h3, h4, h5, h6⟩ := hc i hi
  exact ⟨ai, ci, pi, qi, by rw [hb.cell (p := ⟨b, off + i * 4, none⟩) (lt_of_cell0 h1)]; exact h1, by rw [hb.cell (p := ⟨b, off + i * 4 + 1, none⟩) (lt_of_cell0 h2)]; exact h2, by rw [hb.cell (p := ⟨b, off + i * 4 + 2, none⟩) (lt_of_cell0 h3)]; exact h3, by rw [hb.cell (p := ⟨b, off + i * 4 + 3, none⟩) (lt_of_cell0 h4)]; exact h4, h5.below hb, h6.below hb⟩
theorem OwnU.unAt {w : World} {lo : Nat} {a : Option Addr} {n cap : Nat} {vs : List U4} {us : List UnitM} (h : OwnU w lo (.slice a n cap) vs us) : UnAt w a us := fun hp => by
  rcases h.row.2 with ⟨_, h0⟩ | ⟨g, c, cur, hv, _, hg, hcs⟩
  · omega
  · obtain ⟨rfl, rfl, rfl⟩ : a = some ⟨g, 0, none⟩ ∧ n = us.length ∧ cap = c := by simpa using hv
    have hcell : ∀ j, j < us.length * 4 → w.cell? ⟨g, j, none⟩ = (cellsU vs)[j]? := fun j hj => by
      rw [cell_of_row w g j _ _ (0, 0) hg, ← hcs.2.2.2, List.getElem?_take, if_pos hj]
      simp
    refine ⟨g, 0, rfl, fun i hi => ?_⟩
    have hvi : i < vs.length := by rw [h.len]; exact hi
    obtain ⟨x, hx, p1, p2, e⟩ := h.body i hi
    rw [List.getElem?_eq_getElem hvi, Option.some.injEq] at hx
    obtain ⟨c0, c1, c2, c3⟩ := cellsU_get vs i hvi
    rw [hx] at c0 c1 c2 c3
    obtain ⟨ai, ci, h1⟩ := p1.slice
    obtain ⟨pi, qi, h2⟩ := p2.slice
    rw [h1] at c0 p1
    rw [h2] at c1 p2
    refine ⟨ai, ci, pi, qi, ?_, ?_, ?_, ?_, p1.row, p2.row⟩
    · rw [Nat.zero_add, hcell _ (by omega)]; exact c0
    · rw [Nat.zero_add, hcell _ (by omega)]; exact c1
    · rw [Nat.zero_add, hcell _ (by omega), c2, e]
    · rw [Nat.zero_add, hcell _ (by omega), c3, e]
set_option maxHeartbeats 1000000 in
theorem eqUnitS_same (a a' : Option Addr) (cap cap' : Nat) (es : List UnitM) (w : World) (hl : es.length ≤ 9223372036854775807) (hls : ∀ e ∈ es, e.1.length ≤ 9223372036854775807 ∧ e.2.1.length ≤ 9223372036854775807) (hr : UnAt w a es) (hr' : UnAt w a' es) :
    Calls Tryd.prog 25 #[.slice a es.length cap, .slice a' es.length cap'] w fun e w' => e = .returned (.bool true) ∧ Below w.heap.size w w' := by
  go_enter Tryd.func25, Tryd.ntmps25
  go_wp2
  go_loopw [5] (fun i wr => ∃ k : Nat, k ≤ es.length ∧ i = .int .i64 k ∧ Below w.heap.size w wr) (fun i _ => es.length - (intOf i).toNat)
  case atStart => exact ⟨0, Nat.zero_le _, rfl, Below.refl _ _⟩
  case round =>
    obtain ⟨k, hk, rfl, hnx⟩ := hrel
    by_cases hlt : k < es.length
    · obtain ⟨b, off, rfl, hc⟩ := (hr.below hnx) (by omega)
      obtain ⟨b', off', rfl, hc'⟩ := (hr'.below hnx) (by omega)
      obtain ⟨ai, ci, pi, qi, hc0, hc1, hc2, hc3, hri, hsi⟩ := hc k hlt
      obtain ⟨ai', ci', pi', qi', hd0, hd1, hd2, hd3, hri', hsi'⟩ := hc' k hlt
      have hkl := hls _ (List.getElem_mem hlt)
      have HRI := hide hri
      have HRI' := hide hri'
      have HSI := hide hsi
      have HSI' := hide hsi'
      have HKL := hide hkl
      have HN := hide hnx
      clear hc hc' hr hr' hnx hri hri' hsi hsi' hkl hls
      generalize es[k].1 = l0 at hc0 hd0 HRI HRI' HKL
      generalize es[k].2.1 = m0 at hc1 hd1 HSI HSI' HKL
      generalize es[k].2.2.1 = x0 at hc2 hd2
      generalize es[k].2.2.2 = y0 at hc3 hd3
      go_wp2
      go_region_with (go_at_call 46; refine (eqUnit_same ai ai' pi pi' l0 m0 ci ci' qi qi' x0 y0 _ HKL.out.1 HKL.out.2 (HRI.out.drew 1) (HRI'.out.drew 1) (HSI.out.drew 1) (HSI'.out.drew 1)).mono ?_; rintro e w2 ⟨rfl, hb⟩)
      all_goals
        have hnx2 : Below w.heap.size w w2 := HN.out.drew.trans (hb.mono HN.out.size)
        have HN2 := hide hnx2
        clear hnx2 hb hc0 hc1 hc2 hc3 hd0 hd1 hd2 hd3
        go_wp2
        go_roundw
        case rel => exact ⟨k + 1, by omega, by go_num, HN2.out⟩
        case measure => simp [intOf]; omega
    · go_wp2
      go_ret
      exact ⟨rfl, hnx⟩
end Go.Proofs.YtledlicandlekaaDoor
namespace Go.Proofs.YtledlicandlekaaDoor
open Go.RowKit
structure EUs (w W : World) (x y x' y' : Value) : Prop where
  bel : Below w.heap.size w W
  a : BlkN W w.heap.size x y
  b : BlkN W (w.heap.size + 1) x' y'
theorem EUs.below {w W W' : World} {x y x' y' : Value} (h : EUs w W x y x' y') (hb : Below W.heap.size W W') : EUs w W' x y x' y' :=
  ⟨below_on h.bel hb, h.a.below hb h.a.lt, h.b.below hb h.b.lt⟩
theorem eus_new (w : World) (x y x' y' : Value) : EUs w ((w.alloc (.cells #[x, y] 25)).alloc (.cells #[x', y'] 25)) x y x' y' :=
  ⟨((Below.refl _ _).alloc (Nat.le_refl _) _).alloc (by simp) _, (blk_new w #[x, y] _).below (B := w.heap.size + 1) ((Below.refl _ _).alloc (by simp) _) (by omega), heap_alloc2_new w _ _⟩
set_option maxHeartbeats 1000000 in
theorem eqUnits_same (a a' p p' : Option Addr) (es : List UnitM) (m : List Nat) (cap cap' q q' : Nat) (w : World) (hl : es.length ≤ 9223372036854775807) (hls : ∀ e ∈ es, e.1.length ≤ 9223372036854775807 ∧ e.2.1.length ≤ 9223372036854775807) (hm : m.length ≤ 9223372036854775807) (hr : UnAt w a es) (hr' : UnAt w a' es) (hs : RowAt w p m) (hs' : RowAt w p' m) :
    Calls Tryd.prog 9 #[.agg #[.slice a es.length cap, .slice p m.length q], .agg #[.slice a' es.length cap', .slice p' m.length q']] w fun e w' => e = .returned (.bool true) ∧ Below w.heap.size w w' := by
  have HU := hide (eus_new w (.slice a es.length cap) (.slice p m.length q) (.slice a' es.length cap') (.slice p' m.length q'))
  have HR := hide hr
  have HR' := hide hr'
  have HS := hide hs
  have HS' := hide hs'
  have HLS := hide hls
  clear hr hr' hs hs' hls
  go_enter Tryd.func9, Tryd.ntmps9
  go_wp2_with fail
  generalize (w.alloc (.cells #[.slice a es.length cap, .slice p m.length q] 25)).alloc (.cells #[.slice a' es.length cap', .slice p' m.length q'] 25) = w1 at HU ⊢
  refine (eqUnitS_same a a' cap cap' es w1 hl HLS.out (HR.out.below HU.out.bel) (HR'.out.below HU.out.bel)).mono ?_
  rintro e w3 ⟨rfl, hb3⟩
  have HU2 := hide (HU.out.below hb3)
  clear HU hb3
  have q0 : w3.cell? ⟨w.heap.size, 1, none⟩ = some (.slice p m.length q) := HU2.out.a.cell 1
  have q1 : w3.cell? ⟨w.heap.size + 1, 1, none⟩ = some (.slice p' m.length q') := HU2.out.b.cell 1
  go_wp2_with fail
  refine (eqByteS_any p p' q q' m m _ hm (HS.out.below HU2.out.bel) (HS'.out.below HU2.out.bel)).mono ?_
  rintro e w4 ⟨rfl, n', rfl⟩
  rw [decide_eq_true (rfl : m = m)]
  have HU3 := hide (HU2.out.below (below_drewN (Below.refl w3.heap.size w3) n'))
  clear HU2 q0 q1
  generalize w3.drewN n' = w4 at HU3 ⊢
  go_wp2
  go_ret
  exact ⟨rfl, HU3.out.bel⟩
end Go.Proofs.YtledlicandlekaaDoor
namespace Go.Proofs.YtledlicandlekaaDoor
open Go.RowKit
/-- What marking writes: k, k + 1, .. as bytes. -/
def marks (k n : Nat) : List Nat := (List.range n).map fun i => (k + i) % 256
theorem marks_length (k n : Nat) : (marks k n).length = n := by simp [marks]
theorem marks_at (k n i : Nat) (h : i < (marks k n).length) : (marks k n)[i] = (k + i) % 256 := by simp [marks]
theorem marks_succ (k n : Nat) : marks k (n + 1) = marks k n ++ [(k + n) % 256] := by simp [marks, List.range_succ]
def marked (k : Nat) (l : List Nat) (i : Nat) : List Nat := marks k i ++ l.drop i
theorem marked_zero (k : Nat) (l : List Nat) : marked k l 0 = l := by simp [marked, marks]
theorem marked_len (k : Nat) (l : List Nat) : marked k l l.length = marks k l.length := by simp [marked]
theorem marked_length (k : Nat) (l : List Nat) (i : Nat) (h : i ≤ l.length) : (marked k l i).length = l.length := by simp [marked, marks_length]; omega
theorem marked_set (k : Nat) (l : List Nat) (i : Nat) (h : i < l.length) : (marked k l i).set i ((k + i) % 256) = marked k l (i + 1) := by
  unfold marked
  rw [List.set_append_right _ _ (by simp [marks_length])]
  have e : i - (marks k i).length = 0 := by simp [marks_length]
  rw [e, List.drop_eq_getElem_cons h, List.set_cons_zero, marks_succ]
  simp
theorem bv_mark (k j : Nat) : bv ((k + j) % 256) = .int .u8 (((k : Int) + (j : Int)) % 256) := val_int (by omega)
theorem markByteS_any (base : Nat) (a : Option Addr) (cap k : Nat) (l : List Nat) (w : World) (hk : k ≤ 4503599627370496) (hl : l.length ≤ 4503599627370496) (hown : OwnB w base (.slice a l.length cap) l) :
    Calls Tryd.prog 11 #[.slice a l.length cap, .int .i64 (k : Int)] w fun e w' => e = .returned (.int .i64 ((k + l.length : Nat) : Int)) ∧ OwnB w' base (.slice a l.length cap) (marks k l.length) ∧ w.grownBy w' (Value.slice a l.length cap).ownBlock ∧ w'.heap.size = w.heap.size := by
  go_enter Tryd.func11, Tryd.ntmps11
  go_wp2
  go_loopw [1, 5] (fun s i wr => ∃ j : Nat, j ≤ l.length ∧ i = .int .i64 j ∧ s = .int .i64 ((k + j : Nat) : Int) ∧ OwnB wr base (.slice a l.length cap) (marked k l j) ∧ w.grownBy wr (Value.slice a l.length cap).ownBlock ∧ wr.heap.size = w.heap.size) (fun _ i _ => l.length - (intOf i).toNat)
  case atStart => exact ⟨0, Nat.zero_le _, rfl, rfl, by rw [marked_zero]; exact hown, grown_refl _ _, rfl⟩
  case round =>
    obtain ⟨j, hj, rfl, rfl, hown', hg, hsz⟩ := hrel
    clear hown
    by_cases hlt : j < l.length
    · have hml := marked_length k l j hj
      obtain ⟨b, off, rfl, hc⟩ := hown'.row (by omega)
      have hg0 : off = 0 := by
        rcases hown'.2 with ⟨h, _⟩ | ⟨g, c, cur, h, _⟩
        · simp at h
        · simp at h; exact h.1.2
      subst hg0
      have hcell := hown'.cellAt j (by omega)
      have hfz := hown'.frozenAt j
      have hst := hown'.store j ((k + j) % 256)
      rw [marked_set k l j hlt] at hst
      have HX : Hid (OwnB (wr.setCell ⟨b, j, none⟩ (bv ((k + j) % 256))) base (.slice (some ⟨b, 0, none⟩) l.length cap) (marked k l (j + 1)) ∧ w.grownBy (wr.setCell ⟨b, j, none⟩ (bv ((k + j) % 256))) (some b) ∧ (wr.setCell ⟨b, j, none⟩ (bv ((k + j) % 256))).heap.size = w.heap.size) := ⟨hst.1, grown_trans hg hst.2, by rw [← hsz]; simp⟩
      generalize (marked k l j)[j]'(by omega) = y at hcell
      clear hst hown' hg hc hml hsz
      rw [bv_mark] at HX
      go_wp2
      go_roundw
      case rel => exact ⟨j + 1, by omega, by go_num, val_int (by omega), HX.out.1, HX.out.2.1, HX.out.2.2⟩
      case measure => simp [intOf]; omega
    · obtain rfl : j = l.length := by omega
      rw [marked_len] at hown'
      go_wp2
      go_ret
      exact ⟨rfl, hown', hg, hsz⟩
theorem heldByteS_any (a : Option Addr) (cap k n : Nat) (w : World) (hk : k ≤ 4503599627370496) (hl : n ≤ 4503599627370496) (hr : RowAt w a (marks k n)) :
    Calls Tryd.prog 28 #[.slice a n cap, .int .i64 (k : Int)] w fun e w' => e = .returned (.int .i64 ((k + n : Nat) : Int)) ∧ w' = w := by
  go_enter Tryd.func28, Tryd.ntmps28
  go_wp2
  go_loop [1, 5] (fun s i => ∃ j : Nat, j ≤ n ∧ i = .int .i64 j ∧ s = .int .i64 ((k + j : Nat) : Int)) (fun _ i => n - (intOf i).toNat)
  case atStart => exact ⟨0, Nat.zero_le _, rfl, rfl⟩
  case round =>
    obtain ⟨j, hj, rfl, rfl⟩ := hrel
    by_cases hlt : j < n
    · have hml := marks_length k n
      obtain ⟨b, off, rfl, hc⟩ := hr (by omega)
      have hcell := hc j (by omega)
      rw [marks_at k n j (by omega)] at hcell
      have e : (((k + j) % 256 : Nat) : Int) = ((k : Int) + (j : Int)) % 256 := by omega
      rw [e] at hcell
      have hne : ((((k : Int) + (j : Int)) % 256) != (((k : Int) + (j : Int)) % 256)) = false := by simp
      clear hc hr hml e
      go_wp2
      go_round
      case rel => exact ⟨j + 1, by omega, by go_num, val_int (by omega)⟩
      case measure => simp [intOf]; omega
    · obtain rfl : j = n := by omega
      go_wp2
      go_ret
      exact ⟨rfl, rfl⟩
end Go.Proofs.YtledlicandlekaaDoor
namespace Go.Proofs.YtledlicandlekaaDoor
open Go.RowKit
/-- How many marks a unit takes, how it is marked from k on, and a list of units so marked. -/
def unK (u : UnitM) : Nat := u.1.length + u.2.1.length + 2
def mark1 (k : Nat) (u : UnitM) : UnitM := (marks k u.1.length, marks (k + u.1.length) u.2.1.length, decide ((k + u.1.length + u.2.1.length) % 3 = 0), decide ((k + u.1.length + u.2.1.length + 1) % 3 = 0))
def kAt (k : Nat) : List UnitM → Nat → Nat
  | _, 0 => k
  | [], _ => k
  | u :: r, i + 1 => kAt (k + unK u) r i
def mus (k : Nat) : List UnitM → List UnitM
  | [] => []
  | u :: r => mark1 k u :: mus (k + unK u) r
theorem mus_length : ∀ (k : Nat) (us : List UnitM), (mus k us).length = us.length
  | _, [] => rfl
  | k, u :: r => by rw [mus, List.length_cons, List.length_cons, mus_length]
theorem mus_at : ∀ (k : Nat) (us : List UnitM) (i : Nat) (h : i < us.length), (mus k us)[i]? = some (mark1 (kAt k us i) us[i])
  | k, u :: r, 0, _ => rfl
  | k, u :: r, i + 1, h => by rw [mus, List.getElem?_cons_succ, mus_at (k + unK u) r i (by simpa using h)]; rfl
  | _, [], i, h => by simp at h
theorem kAt_succ : ∀ (k : Nat) (us : List UnitM) (i : Nat) (h : i < us.length), kAt k us (i + 1) = kAt k us i + unK us[i]
  | k, u :: r, 0, _ => by cases r <;> rfl
  | k, u :: r, i + 1, h => by
    show kAt (k + unK u) r (i + 1) = kAt (k + unK u) r i + _
    rw [kAt_succ (k + unK u) r i (by simpa using h)]
    rfl
  | _, [], i, h => by simp at h
theorem kAt_le (k : Nat) (us : List UnitM) (i : Nat) (h : i ≤ us.length) : kAt k us i ≤ kAt k us us.length := by
  induction hn : us.length - i generalizing i with
  | zero => rw [show i = us.length from by omega]; exact Nat.le_refl _
  | succ n ih =>
    have h1 := ih (i + 1) (by omega) (by omega)
    rw [kAt_succ k us i (by omega)] at h1
    omega
set_option maxHeartbeats 1000000 in
theorem heldUnitS_any (a : Option Addr) (cap k : Nat) (us : List UnitM) (w : World) (hk : kAt k us us.length ≤ 4503599627370496) (hl : us.length ≤ 4503599627370496) (hr : UnAt w a (mus k us)) :
    Calls Tryd.prog 27 #[.slice a us.length cap, .int .i64 (k : Int)] w fun e w' => e = .returned (.int .i64 ((kAt k us us.length : Nat) : Int)) ∧ w' = w := by
  go_enter Tryd.func27, Tryd.ntmps27
  go_wp2
  go_loop [1, 5] (fun s i => ∃ j : Nat, j ≤ us.length ∧ i = .int .i64 j ∧ s = .int .i64 ((kAt k us j : Nat) : Int)) (fun _ i => us.length - (intOf i).toNat)
  case atStart => exact ⟨0, Nat.zero_le _, rfl, by cases us <;> rfl⟩
  case round =>
    obtain ⟨j, hj, rfl, rfl⟩ := hrel
    by_cases hlt : j < us.length
    · obtain ⟨b, off, rfl, hc⟩ := hr (by rw [mus_length]; omega)
      obtain ⟨ai, ci, pi, qi, hc0, hc1, hc2, hc3, hri, hsi⟩ := hc j (by rw [mus_length]; exact hlt)
      have hu : (mus k us)[j]'(by rw [mus_length]; exact hlt) = mark1 (kAt k us j) us[j] := by
        have := mus_at k us j hlt
        rw [List.getElem?_eq_getElem (by rw [mus_length]; exact hlt), Option.some.injEq] at this
        exact this
      rw [hu] at hc0 hc1 hc2 hc3 hri hsi
      have hkj := kAt_succ k us j hlt
      have hk1 := kAt_le k us (j + 1) (by omega)
      have HKJ := hide hkj
      rw [hkj] at hk1
      unfold unK at hk1
      unfold mark1 at hc0 hc1 hc2 hc3 hri hsi
      simp only [marks_length] at hc0 hc1 hc2 hc3
      simp only [] at hri hsi
      have HUL := hide (show unK us[j] = us[j].1.length + us[j].2.1.length + 2 from rfl)
      have HK := hide (Nat.le_trans hk1 hk)
      clear hu hc hr hkj hk1 hk
      generalize kAt k us j = K at hc0 hc1 hc2 hc3 hri hsi HKJ HK ⊢
      generalize us[j].1.length = L at hc0 hc1 hc2 hc3 hri hsi HUL HK
      generalize us[j].2.1.length = M at hc0 hc1 hc2 hc3 hri hsi HUL HK
      have hK := HK.out
      have H1 := hide (heldByteS_any ai ci K L w (by omega) (by omega) hri)
      have H2 := hide (heldByteS_any pi qi (K + L) M w (by omega) (by omega) hsi)
      clear hri hsi
      generalize hP : K + L = P at hc2 hc3 H1 H2
      generalize hR : P + M = R at hc2 hc3 H2
      have hP0 : ¬ (P : Int) < 0 := by omega
      have hR0 : ¬ (R : Int) < 0 := by omega
      have hRb : R ≤ 4503599627370496 := by omega
      have hb2 : decide (R % 3 = 0) = ((R : Int) % 3 == 0) := by rw [Bool.eq_iff_iff]; simp; omega
      have hb3 : decide ((R + 1) % 3 = 0) = (((R : Int) + 1) % 3 == 0) := by rw [Bool.eq_iff_iff]; simp; omega
      rw [hb2] at hc2
      rw [hb3] at hc3
      have HP := hide hP
      have HRR := hide hR
      clear hb2 hb3
      clear hP hR hK
      go_wp2_with fail
      refine H1.out.mono ?_
      rintro e w2 ⟨rfl, rfl⟩
      go_wp2_with fail
      refine H2.out.mono ?_
      rintro e w3 ⟨rfl, rfl⟩
      go_wp2
      go_round
      case rel => exact ⟨j + 1, by omega, by go_num, val_int (by have h1 := HKJ.out; have h2 := HUL.out; have h4 := HP.out; have h5 := HRR.out; omega)⟩
      case measure => simp [intOf]; omega
    · obtain rfl : j = us.length := by omega
      go_wp2
      go_ret
      exact ⟨rfl, rfl⟩
end Go.Proofs.YtledlicandlekaaDoor
namespace Go.Proofs.YtledlicandlekaaDoor
open Go.RowKit
set_option maxHeartbeats 1000000 in
theorem heldUnits_any (a p : Option Addr) (cap q k n : Nat) (us : List UnitM) (w : World) (hk : kAt k us us.length ≤ 4503599627370496) (hl : us.length ≤ 4503599627370496) (hn : n ≤ 1048576) (hr : UnAt w a (mus k us)) (hs : RowAt w p (marks (kAt k us us.length) n)) :
    Calls Tryd.prog 13 #[.agg #[.slice a us.length cap, .slice p n q], .int .i64 (k : Int)] w fun e w' => e = .returned (.int .i64 ((kAt k us us.length + n : Nat) : Int)) ∧ Below w.heap.size w w' := by
  have hb := (Below.refl w.heap.size w).alloc (Nat.le_refl _) (.cells #[.slice a us.length cap, .slice p n q] 25)
  have H1 := hide (heldUnitS_any a cap k us _ hk hl (hr.below hb))
  have H2 := hide (heldByteS_any p q (kAt k us us.length) n _ hk (by omega) (hs.below hb))
  have q1 : (w.alloc (.cells #[.slice a us.length cap, .slice p n q] 25)).cell? ⟨w.heap.size, 1, none⟩ = some (.slice p n q) := (blk_new w #[.slice a us.length cap, .slice p n q] 25).cell 1
  have HB := hide hb
  have hk0 : ¬ ((kAt k us us.length : Nat) : Int) < 0 := by omega
  have hk1 : ¬ ((kAt k us us.length + n : Nat) : Int) < 0 := by omega
  clear hr hs hb
  generalize hK : kAt k us us.length = K at *
  generalize hR : K + n = R at *
  clear hK hR
  go_enter Tryd.func13, Tryd.ntmps13
  go_wp2_with fail
  generalize w.alloc (.cells #[.slice a us.length cap, .slice p n q] 25) = w1 at H1 H2 HB q1 ⊢
  refine H1.out.mono ?_
  rintro e w2 ⟨rfl, rfl⟩
  go_wp2_with fail
  refine H2.out.mono ?_
  rintro e w3 ⟨rfl, rfl⟩
  go_wp2
  go_ret
  exact ⟨rfl, HB.out⟩
end Go.Proofs.YtledlicandlekaaDoor
