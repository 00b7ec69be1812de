import Derived.Test.YtledlicandlekabPka
import Derived.Test.YtledlicandlekabPkb
import Derived.Test.YtledlicandlekabPkc
import Derived.Test.YtledlicandlekabPkd
import Derived.Test.YtledlicandlekabPke
import Derived.Test.YtledlicandlekabPkf
import Derived.Test.YtledlicandlekabPkg
import Derived.Test.YtledlicandlekabShelfI
import Derived.Test.YtledlicandlekabPkh
import Derived.Test.YtledlicandlekabPki
import Derived.Test.YtledlicandlekabPkj
import Derived.Test.YtledlicandlekabPkk
import Derived.Maps.AppendAt
import Derived.Deep.RegionLaw
import Derived.Lib.SliceRun
namespace Go.Proofs.Ytledlicandlekab
open Go.RowKit
abbrev OpM := Int × ByteArray × ByteArray × Int
def opK (k : Nat) : OpM := ((k : Int), mtx (k + 1), mtx (k + 2), ((k + 3 : Nat) : Int))
/-- What marking writes into a list of steps. -/
def marksO (k n : Nat) : List OpM := (List.range n).map fun i => opK (k + 4 * i)
theorem marksO_length (k n : Nat) : (marksO k n).length = n := by simp [marksO]
theorem marksO_at (k n i : Nat) (h : i < (marksO k n).length) : (marksO k n)[i] = opK (k + 4 * i) := by simp [marksO]
theorem marksO_succ (k n : Nat) : marksO k (n + 1) = marksO k n ++ [opK (k + 4 * n)] := by simp [marksO, List.range_succ]
def markedO (k : Nat) (l : List OpM) (i : Nat) : List OpM := marksO k i ++ l.drop i
theorem markedO_zero (k : Nat) (l : List OpM) : markedO k l 0 = l := by simp [markedO, marksO]
theorem markedO_len (k : Nat) (l : List OpM) : markedO k l l.length = marksO k l.length := by simp [markedO]
theorem markedO_length (k : Nat) (l : List OpM) (i : Nat) (h : i ≤ l.length) : (markedO k l i).length = l.length := by simp [markedO, marksO_length]; omega
theorem markedO_set (k : Nat) (l : List OpM) (i : Nat) (h : i < l.length) : (markedO k l i).set i (opK (k + 4 * i)) = markedO k l (i + 1) := by
  unfold markedO
  rw [List.set_append_right _ _ (by simp [marksO_length])]
  have e : i - (marksO k i).length = 0 := by simp [marksO_length]
  rw [e, List.drop_eq_getElem_cons h, List.set_cons_zero, marksO_succ]
  simp
theorem OwnO.at0 {w : World} {base : Nat} {a : Option Addr} {n cap : Nat} {es : List OpM} (h : OwnO w base (.slice a n cap) es) (hp : 0 < es.length) : ∃ g, a = some ⟨g, 0, none⟩ ∧ base ≤ g ∧ g < w.heap.size := by
  rcases h.2 with ⟨_, hn⟩ | ⟨g, cap', cur, h', hb, hg, _⟩
  · simp at hn; simp [hn] at hp
  · simp only [Value.slice.injEq] at h'
    exact ⟨g, h'.1, hb, lt_of_block hg⟩
/-- One cell of a list of steps is put. -/
theorem Own4.put {w : World} {base e g n cap : Nat} {l : List V4} (h : Own4 w base e (.slice (some ⟨g, 0, none⟩) n cap) l) (j i : Nat) (u : Value) (l' : List V4) (hl : (four l).set (j * 4 + i) u = four l') (hlen : l'.length = l.length) : Own4 (w.setCell ⟨g, j * 4 + i, none⟩ u) base e (.slice (some ⟨g, 0, none⟩) n cap) l' := by
  obtain ⟨a, c, e1⟩ := h.slice
  simp only [Value.slice.injEq] at e1
  obtain ⟨_, rfl, rfl⟩ := e1
  have h1 := (World.ownsRow.stored h (j * 4 + i) u).1
  unfold Own4
  rw [hlen, ← hl]
  exact h1
theorem four_put (l : List V4) (i : Nat) (u : Value) (h : i < l.length) :
    (four l).set (i * 4) u = four (l.set i (u, l[i].2)) ∧ (four l).set (i * 4 + 1) u = four (l.set i (l[i].1, u, l[i].2.2)) ∧ (four l).set (i * 4 + 2) u = four (l.set i (l[i].1, l[i].2.1, u, l[i].2.2.2)) ∧ (four l).set (i * 4 + 3) u = four (l.set i (l[i].1, l[i].2.1, l[i].2.2.1, u)) := by
  induction l generalizing i with
  | nil => simp at h
  | cons p l ih =>
    cases i with
    | zero => simp [four_cons]
    | succ i =>
      obtain ⟨h0, h1, h2, h3⟩ := ih i (by simpa using h)
      rw [four_cons, show (i + 1) * 4 + 3 = (i * 4 + 3) + 1 + 1 + 1 + 1 from by omega, show (i + 1) * 4 + 2 = (i * 4 + 2) + 1 + 1 + 1 + 1 from by omega, show (i + 1) * 4 + 1 = (i * 4 + 1) + 1 + 1 + 1 + 1 from by omega, show (i + 1) * 4 = i * 4 + 1 + 1 + 1 + 1 from by omega]
      simp only [List.set_cons_succ, four_cons, List.getElem_cons_succ]
      rw [h0, h1, h2, h3]
      exact ⟨rfl, rfl, rfl, rfl⟩
/-- Step j of the list is x: the marks on the way through one round. -/
theorem OwnO.put {w : World} {base g n cap j : Nat} {es : List OpM} (h : OwnO w base (.slice (some ⟨g, 0, none⟩) n cap) es) (hj : j < es.length) :
    (∀ z : Int, OwnO (w.setCell ⟨g, j * 4, none⟩ (.int .i64 z)) base (.slice (some ⟨g, 0, none⟩) n cap) (es.set j (z, es[j].2))) ∧ (∀ z : ByteArray, OwnO (w.setCell ⟨g, j * 4 + 1, none⟩ (.string z)) base (.slice (some ⟨g, 0, none⟩) n cap) (es.set j (es[j].1, z, es[j].2.2))) ∧ (∀ z : ByteArray, OwnO (w.setCell ⟨g, j * 4 + 2, none⟩ (.string z)) base (.slice (some ⟨g, 0, none⟩) n cap) (es.set j (es[j].1, es[j].2.1, z, es[j].2.2.2))) ∧ (∀ z : Int, OwnO (w.setCell ⟨g, j * 4 + 3, none⟩ (.int .i64 z)) base (.slice (some ⟨g, 0, none⟩) n cap) (es.set j (es[j].1, es[j].2.1, es[j].2.2.1, z))) := by
  have hj' : j < (es.map opP).length := by rw [List.length_map]; exact hj
  have hp := fun u => four_put (es.map opP) j u hj'
  simp only [List.getElem_map] at hp
  refine ⟨fun z => ?_, fun z => ?_, fun z => ?_, fun z => ?_⟩
  · refine Own4.put h j 0 _ _ ?_ (by simp)
    rw [List.map_set]; exact (hp _).1
  · refine Own4.put h j 1 _ _ ?_ (by simp)
    rw [List.map_set]; exact (hp _).2.1
  · refine Own4.put h j 2 _ _ ?_ (by simp)
    rw [List.map_set]; exact (hp _).2.2.1
  · refine Own4.put h j 3 _ _ ?_ (by simp)
    rw [List.map_set]; exact (hp _).2.2.2
theorem OwnO.cells {w : World} {base g n cap j : Nat} {es : List OpM} (h : OwnO w base (.slice (some ⟨g, 0, none⟩) n cap) es) (hj : j < es.length) : w.cell? ⟨g, j * 4, none⟩ = some (.int .i64 es[j].1) ∧ w.cell? ⟨g, j * 4 + 1, none⟩ = some (.string es[j].2.1) ∧ w.cell? ⟨g, j * 4 + 2, none⟩ = some (.string es[j].2.2.1) ∧ w.cell? ⟨g, j * 4 + 3, none⟩ = some (.int .i64 es[j].2.2.2) := by
  have := Own4.cells h j (by rw [List.length_map]; exact hj)
  simp only [List.getElem_map] at this
  exact this
end Go.Proofs.Ytledlicandlekab
namespace Go.Proofs.Ytledlicandlekab
open Go.RowKit
theorem OwnO.putAt {w : World} {base g n cap j : Nat} {M : List OpM} {a d : Int} {b c : ByteArray} (h : OwnO w base (.slice (some ⟨g, 0, none⟩) n cap) (M.set j (a, b, c, d))) (hj : j < M.length) :
    (∀ z : Int, OwnO (w.setCell ⟨g, j * 4, none⟩ (.int .i64 z)) base (.slice (some ⟨g, 0, none⟩) n cap) (M.set j (z, b, c, d))) ∧ (∀ z : ByteArray, OwnO (w.setCell ⟨g, j * 4 + 1, none⟩ (.string z)) base (.slice (some ⟨g, 0, none⟩) n cap) (M.set j (a, z, c, d))) ∧ (∀ z : ByteArray, OwnO (w.setCell ⟨g, j * 4 + 2, none⟩ (.string z)) base (.slice (some ⟨g, 0, none⟩) n cap) (M.set j (a, b, z, d))) ∧ (∀ z : Int, OwnO (w.setCell ⟨g, j * 4 + 3, none⟩ (.int .i64 z)) base (.slice (some ⟨g, 0, none⟩) n cap) (M.set j (a, b, c, z))) := by
  have := h.put (j := j) (by simpa using hj)
  simpa only [List.getElem_set_self, List.set_set] using this
theorem OwnO.cellsAt {w : World} {base g n cap j : Nat} {M : List OpM} {a d : Int} {b c : ByteArray} (h : OwnO w base (.slice (some ⟨g, 0, none⟩) n cap) (M.set j (a, b, c, d))) (hj : j < M.length) : w.cell? ⟨g, j * 4, none⟩ = some (.int .i64 a) ∧ w.cell? ⟨g, j * 4 + 1, none⟩ = some (.string b) ∧ w.cell? ⟨g, j * 4 + 2, none⟩ = some (.string c) ∧ w.cell? ⟨g, j * 4 + 3, none⟩ = some (.int .i64 d) := by
  have := h.cells (j := j) (by simpa using hj)
  simpa only [List.getElem_set_self] using this
set_option maxRecDepth 20000 in
set_option maxHeartbeats 1000000 in
theorem markO_own (base : Nat) (a : Option Addr) (cap k : Nat) (l : List OpM) (w : World) (hk0 : 0 < k) (hk : k + 4 * l.length ≤ 4503599627370000) (hown : OwnO w base (.slice a l.length cap) l) :
    Calls Try.prog 38 #[.slice a l.length cap, .int .i64 (k : Int)] w fun e w' => e = .returned (.int .i64 ((k + 4 * l.length : Nat) : Int)) ∧ OwnO w' base (.slice a l.length cap) (marksO k l.length) ∧ Fr (fun g => (Value.slice a l.length cap).ownBlock = some g) w w' := by
  go_enter Try.func38, Try.ntmps38
  go_wp2
  go_loopw [1, 5] (fun s i wr => ∃ j : Nat, j ≤ l.length ∧ i = .int .i64 j ∧ s = .int .i64 ((k + 4 * j : Nat) : Int) ∧ OwnO wr base (.slice a l.length cap) (markedO k l j) ∧ Fr (fun g => (Value.slice a l.length cap).ownBlock = some g) w wr) (fun _ i _ => l.length - (intOf i).toNat)
  case atStart => exact ⟨0, Nat.zero_le _, rfl, rfl, by rw [markedO_zero]; exact hown, Fr.refl _ _⟩
  case round =>
    obtain ⟨j, hj, rfl, rfl, hown', hf⟩ := hrel
    clear hown
    by_cases hlt : j < l.length
    · have hml := markedO_length k l j hj
      obtain ⟨g, rfl, hb1, hb2⟩ := hown'.at0 (by omega)
      have hjm : j < (markedO k l j).length := by omega
      have hset := markedO_set k l j hlt
      obtain ⟨s', hs'⟩ : ∃ s', s' = k + 4 * j := ⟨_, rfl⟩
      rw [← hs'] at hset ⊢
      unfold opK at hset
      have hme : markedO k l j = (markedO k l j).set j (((markedO k l j)[j]).1, ((markedO k l j)[j]).2.1, ((markedO k l j)[j]).2.2.1, ((markedO k l j)[j]).2.2.2) := by
        rw [show (((markedO k l j)[j]).1, ((markedO k l j)[j]).2.1, ((markedO k l j)[j]).2.2.1, ((markedO k l j)[j]).2.2.2) = (markedO k l j)[j] from rfl, List.set_getElem_self]
      rw [hme] at hown'
      generalize ((markedO k l j)[j]).1 = ea at hown'
      generalize ((markedO k l j)[j]).2.1 = eb at hown'
      generalize ((markedO k l j)[j]).2.2.1 = ec at hown'
      generalize ((markedO k l j)[j]).2.2.2 = ed at hown'
      clear hme
      have HSET := hide hset
      clear hset
      generalize markedO k l j = M at hown' hjm HSET hml
      have hb' : s' ≤ 4503599627370000 := by omega
      have h0 : 0 < s' := by omega
      have HJ := hide hs'
      have z0 := (hown'.cellsAt hjm).1
      have f0 := Own4.frozen hown' (j * 4)
      have HO := hide ((hown'.putAt hjm).1 (s' : Int))
      have HF := hide (hf.set (g := g) (j := j * 4) (u := .int .i64 (s' : Int)) rfl)
      clear hown' hf hs'
      go_wp2_with fail
      generalize wr.setCell ⟨g, j * 4, none⟩ (.int .i64 (s' : Int)) = w1 at HO HF ⊢
      have e1 : ((s' : Int) + 1) = ((s' + 1 : Nat) : Int) := by omega
      rw [e1]
      clear e1
      refine (markText_is (s' + 1) w1 (by omega) (by omega)).mono ?_
      rintro e w2 ⟨rfl, hb2⟩
      have ho2 : OwnO w2 _ _ _ := HO.out.below hb2
      have hf2 := HF.out.andThen hb2
      generalize mtx (s' + 1) = t1 at HSET ⊢
      have z1 := (ho2.cellsAt hjm).2.1
      have f1 := Own4.frozen ho2 (j * 4 + 1)
      have HO2 := hide ((ho2.putAt hjm).2.1 t1)
      have HF2 := hide (hf2.set (g := g) (j := j * 4 + 1) (u := .string t1) rfl)
      clear ho2 hf2 hb2 HO HF z0 f0
      go_wp2_with fail
      generalize w2.setCell ⟨g, j * 4 + 1, none⟩ (.string t1) = w3 at HO2 HF2 ⊢
      have e2 : (((s' + 1 : Nat) : Int) + 1) = ((s' + 2 : Nat) : Int) := by omega
      have e2' : ((s' : Int) + 1 + 1) = ((s' + 2 : Nat) : Int) := by omega
      first
        | rw [e2]
        | rw [e2']
      clear e2 e2'
      refine (markText_is (s' + 2) w3 (by omega) (by omega)).mono ?_
      rintro e w4 ⟨rfl, hb4⟩
      have ho4 : OwnO w4 _ _ _ := HO2.out.below hb4
      have hf4 := HF2.out.andThen hb4
      generalize mtx (s' + 2) = t2 at HSET ⊢
      have z2 := (ho4.cellsAt hjm).2.2.1
      have z3 := (ho4.cellsAt hjm).2.2.2
      have f2 := Own4.frozen ho4 (j * 4 + 2)
      have f3 := Own4.frozen ho4 (j * 4 + 3)
      have ho5 := ((ho4.putAt hjm).2.2.1 t2)
      have hf5 := hf4.set (g := g) (j := j * 4 + 2) (u := .string t2) rfl
      have ho6 := ((ho5.putAt hjm).2.2.2 ((s' + 3 : Nat) : Int))
      have hf6 := hf5.set (g := g) (j := j * 4 + 3) (u := .int .i64 ((s' + 3 : Nat) : Int)) rfl
      rw [HSET.out] at ho6
      have e3 : ((s' + 3 : Nat) : Int) = (s' : Int) + 3 := by omega
      rw [e3] at ho6 hf6
      have HX := hide (And.intro ho6 hf6)
      clear ho4 ho5 ho6 hf4 hf5 hf6 hb4 HO2 HF2 HSET z1 f1 e3
      go_wp2
      go_roundw
      case rel => exact ⟨j + 1, by omega, by go_num, by rw [show k + 4 * (j + 1) = s' + 4 from by have := HJ.out; omega]; go_num, HX.out.1, HX.out.2⟩
      case measure => simp [intOf]; omega
    · obtain rfl : j = l.length := by omega
      rw [markedO_len] at hown'
      have HO := hide hown'
      have HF := hide hf
      clear hown' hf
      go_wp2
      go_ret
      exact ⟨rfl, HO.out, HF.out⟩
set_option maxRecDepth 20000 in
set_option maxHeartbeats 1000000 in
theorem heldO_any (a : Option Addr) (cap k n : Nat) (w : World) (hk0 : 0 < k) (hk : k + 4 * n ≤ 4503599627370000) (hr : OpAt w a (marksO k n)) :
    Calls Try.prog 51 #[.slice a n cap, .int .i64 (k : Int)] w fun e w' => e = .returned (.int .i64 ((k + 4 * n : Nat) : Int)) ∧ Below w.heap.size w w' := by
  go_enter Try.func51, Try.ntmps51
  go_wp2
  go_loopw [1, 5] (fun s i wr => ∃ j : Nat, j ≤ n ∧ i = .int .i64 j ∧ s = .int .i64 ((k + 4 * j : Nat) : Int) ∧ Below w.heap.size w wr) (fun _ i _ => n - (intOf i).toNat)
  case atStart => exact ⟨0, Nat.zero_le _, rfl, rfl, Below.refl _ _⟩
  case round =>
    obtain ⟨j, hj, rfl, rfl, hb⟩ := hrel
    by_cases hlt : j < n
    · have hml := marksO_length k n
      have hr0 := hr.below hb
      have HR := hide hr
      obtain ⟨b, off, rfl, hc⟩ := hr0 (by omega)
      obtain ⟨hc0, hc1, hc2, hc3⟩ := hc j (by omega)
      rw [marksO_at k n j (by omega)] at hc0 hc1 hc2 hc3
      obtain ⟨s', hs'⟩ : ∃ s', s' = k + 4 * j := ⟨_, rfl⟩
      rw [← hs'] at hc0 hc1 hc2 hc3 ⊢
      unfold opK at hc0 hc1 hc2 hc3
      simp only [] at hc0 hc1 hc2 hc3
      have e3 : ((s' + 3 : Nat) : Int) = (s' : Int) + 3 := by omega
      rw [e3] at hc3
      have hb' : s' ≤ 4503599627369996 := by omega
      have h0 : 0 < s' := by omega
      have HB := hide hb
      have HJ := hide hs'
      have hne : ((s' : Int) != (s' : Int)) = false := by simp
      have HT1 := hide (fun W => markText_is (s' + 1) W (by omega) (by omega))
      have HT2 := hide (fun W => markText_is (s' + 2) W (by omega) (by omega))
      rw [show ((s' + 1 : Nat) : Int) = (s' : Int) + 1 from by omega] at HT1
      rw [show ((s' + 2 : Nat) : Int) = (s' : Int) + 1 + 1 from by omega] at HT2
      generalize mtx (s' + 1) = t1 at hc1 HT1
      generalize mtx (s' + 2) = t2 at hc2 HT2
      have hbq1 : (t1.toList == t1.toList) = true := by simp
      have hbq2 : (t2.toList == t2.toList) = true := by simp
      clear hr hc hml e3 hb hs'
      go_wp2
      go_region_with (go_at_call 69; refine (HT1.out _).mono ?_; rintro e w2 ⟨rfl, hb2⟩; have d0 : w2.cell? ⟨b, off + j * 4 + 1, none⟩ = some (.string t1) := (hb2.cell (p := ⟨b, off + j * 4 + 1, none⟩) (lt_of_cell0 hc1)).trans hc1)
      all_goals
        have d2 : w2.cell? ⟨b, off + j * 4 + 2, none⟩ = some (.string t2) := (hb2.cell (p := ⟨b, off + j * 4 + 2, none⟩) (lt_of_cell0 hc2)).trans hc2
        have d3 : w2.cell? ⟨b, off + j * 4 + 3, none⟩ = some (.int .i64 ((s' : Int) + 3)) := (hb2.cell (p := ⟨b, off + j * 4 + 3, none⟩) (lt_of_cell0 hc3)).trans hc3
        have HN2 := hide (show Below w.heap.size w w2 from HB.out.drew.trans (hb2.mono HB.out.size))
        clear hc0 hc1 hc2 hc3 d0 hb2
        go_wp2
        go_region_with (go_at_call 69; refine (HT2.out _).mono ?_; rintro e w4 ⟨rfl, hb4⟩; have x2 : w4.cell? ⟨b, off + j * 4 + 2, none⟩ = some (.string t2) := (hb4.cell (p := ⟨b, off + j * 4 + 2, none⟩) (lt_of_cell0 d2)).trans d2)
        all_goals
          have x3 : w4.cell? ⟨b, off + j * 4 + 3, none⟩ = some (.int .i64 ((s' : Int) + 3)) := (hb4.cell (p := ⟨b, off + j * 4 + 3, none⟩) (lt_of_cell0 d3)).trans d3
          have HN4 := hide (show Below w.heap.size w w4 from HN2.out.drew.trans (hb4.mono HN2.out.size))
          clear d2 d3 x2 hb4
          go_wp2
          go_roundw
          case rel => exact ⟨j + 1, by omega, by go_num, by rw [show k + 4 * (j + 1) = s' + 4 from by have := HJ.out; omega]; go_num, HN4.out⟩
          case measure => simp [intOf]; omega
    · obtain rfl : j = n := by omega
      have HB := hide hb
      clear hb
      go_wp2
      go_ret
      exact ⟨rfl, HB.out⟩
end Go.Proofs.Ytledlicandlekab
namespace Go.Proofs.Ytledlicandlekab
open Go.RowKit
set_option maxRecDepth 20000 in
set_option maxHeartbeats 1000000 in
theorem markN_own (base : Nat) (a : Option Addr) (cap k : Nat) (us : List NdM) (vs : List (Value × Value)) (w : World) (hk : kNd k us us.length ≤ 4503599627370000) (hl : us.length ≤ 4503599627370000) (hown : OwnNA w base (.slice a us.length cap) vs us) :
    Calls Try.prog 36 #[.slice a us.length cap, .int .i64 (k : Int)] w fun e w' => e = .returned (.int .i64 ((kNd k us us.length : Nat) : Int)) ∧ (∃ vs', vs'.map (·.1) = vs.map (·.1) ∧ OwnNA w' base (.slice a us.length cap) vs' (muN k us)) ∧ Fr (nodeS (.slice a us.length cap) vs) w w' := by
  go_enter Try.func36, Try.ntmps36
  go_wp2
  go_loopw [1, 5] (fun s i wr => ∃ j : Nat, j ≤ us.length ∧ i = .int .i64 j ∧ s = .int .i64 ((kNd k us j : Nat) : Int) ∧ (∃ vs', vs'.map (·.1) = vs.map (·.1) ∧ OwnNA wr base (.slice a us.length cap) vs' (muNM k us j)) ∧ Fr (nodeS (.slice a us.length cap) vs) w wr) (fun _ i _ => us.length - (intOf i).toNat)
  case atStart => exact ⟨0, Nat.zero_le _, rfl, by cases us <;> rfl, ⟨vs, rfl, by rw [muNM_zero]; exact hown⟩, Fr.refl _ _⟩
  case round =>
    obtain ⟨j, hj, rfl, rfl, ⟨vs1, hm1, hown'⟩, hfr⟩ := hrel
    clear hown
    by_cases hlt : j < us.length
    · have hml := muNM_length k us j hj
      obtain ⟨g, rfl, hgl, hfz, hc⟩ := hown'.cells (by omega)
      obtain ⟨ai, ci, hx, c0, c1, o1⟩ := hc j (by omega)
      have hat := muNM_at k us j hlt (by omega)
      have hset := muNM_set k us j hlt
      have hkj := kNd_succ k us j hlt
      have hk1 := kNd_le k us (j + 1) (by omega)
      have HKJ := hide hkj
      rw [hkj] at hk1
      have hK := Nat.le_trans hk1 hk
      rw [hat] at hx c0 c1 o1
      have hin : nodeS (.slice (some ⟨g, 0, none⟩) us.length cap) vs g := .inl rfl
      have hin1 : ∀ b, (Value.slice ai us[j].1.length ci).ownBlock = some b → nodeS (.slice (some ⟨g, 0, none⟩) us.length cap) vs b := fun b hb => .inr ⟨_, by rw [← hm1]; exact List.mem_of_getElem? (i := j) (by rw [List.getElem?_map, hx]; rfl), hb⟩
      have L1 := hide (fun w1 (o : OwnB w1 base (.slice ai us[j].1.length ci) (marks (kNd k us j) us[j].1.length)) (gr : wr.grownBy w1 (Value.slice ai us[j].1.length ci).ownBlock) => hown'.data (by omega) hx o gr)
      have F1 := hide (fun w1 (gr : wr.grownBy w1 (Value.slice ai us[j].1.length ci).ownBlock) => hfr.trans (Fr.of_grown gr hin1))
      have O1 := hide o1
      have HSET := hide hset
      have HIN := hide hin
      have HM1 := hide hm1
      have hml2 : j < (muNM k us j).length := by omega
      clear hkj hk1 hk o1 hfz hc hfr hset hin hin1 c1 hx hown' hm1
      generalize hKn : kNd k us j = K at O1 L1 HSET HKJ hK ⊢
      clear hKn
      go_wp2_with fail
      refine (markByteS_any base ai ci K us[j].1 wr (by omega) (by omega) O1.out).mono ?_
      rintro e w1 ⟨rfl, m1, g1, z1⟩
      have hown1 := L1.out w1 m1 g1
      have hfr1 := F1.out w1 g1
      obtain ⟨g', eg, _, hfz1, hc1⟩ := hown1.cells (by rw [List.length_set]; omega)
      obtain rfl : g' = g := by simpa using eg.symm
      obtain ⟨-, -, -, -, d1, -⟩ := hc1 j (by rw [List.length_set]; omega)
      have fz1 := hfz1 (j * 2 + 1)
      obtain ⟨vs2, hm2, hown2, hg2⟩ := hown1.safe (i := j) (z := ((K + us[j].1.length : Nat) : Int)) (by rw [List.length_set]; omega)
      simp only [List.getElem_set_self, List.set_set, hat] at hown2 d1
      rw [HSET.out] at hown2
      have hfr2 := hfr1.trans (Fr.of_grown hg2 (fun b hb => (Option.some.inj hb) ▸ HIN.out))
      have HX := hide (show (∃ vs', vs'.map (·.1) = vs.map (·.1) ∧ OwnNA _ base (.slice (some ⟨g', 0, none⟩) us.length cap) vs' (muNM k us (j + 1))) ∧ Fr _ w _ from ⟨⟨vs2, hm2.trans HM1.out, hown2⟩, hfr2⟩)
      generalize us[j].1.length = L at *
      generalize us[j].2 = y1 at d1
      clear L1 F1 O1 m1 g1 z1 c0 hown1 hown2 hg2 hfr1 hfr2 hfz1 hc1 HSET HM1 HIN hm2 eg hat hml hml2
      go_wp2
      go_roundw
      case rel => exact ⟨j + 1, by omega, by go_num, val_int (by rw [HKJ.out]; omega), HX.out.1, HX.out.2⟩
      case measure => simp [intOf]; omega
    · obtain rfl : j = us.length := by omega
      rw [muNM_len] at hown'
      go_wp2
      go_ret
      exact ⟨rfl, ⟨vs1, hm1, hown'⟩, hfr⟩
set_option maxHeartbeats 1000000 in
theorem heldN_any (a : Option Addr) (cap k : Nat) (us : List NdM) (w : World) (hk : kNd k us us.length ≤ 4503599627370000) (hl : us.length ≤ 4503599627370000) (hr : NodeAt w a (muN k us)) :
    Calls Try.prog 49 #[.slice a us.length cap, .int .i64 (k : Int)] w fun e w' => e = .returned (.int .i64 ((kNd k us us.length : Nat) : Int)) ∧ w' = w := by
  go_enter Try.func49, Try.ntmps49
  go_wp2
  go_loop [1, 5] (fun s i => ∃ j : Nat, j ≤ us.length ∧ i = .int .i64 j ∧ s = .int .i64 ((kNd k us j : Nat) : Int)) (fun _ i => us.length - (intOf i).toNat)
  case atStart => exact ⟨0, Nat.zero_le _, rfl, by cases us <;> rfl⟩
  case round =>
    obtain ⟨j, hj, rfl, rfl⟩ := hrel
    by_cases hlt : j < us.length
    · obtain ⟨b, off, rfl, hc⟩ := hr (by rw [muN_length]; omega)
      obtain ⟨ai, ci, hc0, hc1, hri⟩ := hc j (by rw [muN_length]; exact hlt)
      have hu : (muN k us)[j]'(by rw [muN_length]; exact hlt) = (marks (kNd k us j) us[j].1.length, ((kNd k us j + us[j].1.length : Nat) : Int)) := by
        have := muN_at k us j hlt
        rw [List.getElem?_eq_getElem (by rw [muN_length]; exact hlt), Option.some.injEq] at this
        exact this
      rw [hu] at hc0 hc1 hri
      have hkj := kNd_succ k us j hlt
      have hk1 := kNd_le k us (j + 1) (by omega)
      have HKJ := hide hkj
      rw [hkj] at hk1
      simp only [marks_length] at hc0 hc1 hri
      have HK := hide (Nat.le_trans hk1 hk)
      clear hu hc hr hkj hk1 hk
      generalize kNd k us j = K at hc0 hc1 hri HKJ HK ⊢
      generalize us[j].1.length = L at hc0 hc1 hri HKJ HK
      have hK := HK.out
      have H1 := hide (heldByteS_any ai ci K L w (by omega) (by omega) hri)
      clear hri
      generalize hP : K + L = P at hc1 H1
      have hP0 : ¬ (P : Int) < 0 := by omega
      have hPb : P ≤ 4503599627370000 := by omega
      have HP := hide hP
      clear hP hK
      go_wp2_with fail
      refine H1.out.mono ?_
      rintro e w2 ⟨rfl, rfl⟩
      have hne : ((P : Int) != (P : Int)) = false := by simp
      go_wp2
      go_round
      case rel => exact ⟨j + 1, by omega, by go_num, val_int (by have h1 := HKJ.out; have h4 := HP.out; omega)⟩
      case measure => simp [intOf]; omega
    · obtain rfl : j = us.length := by omega
      go_wp2
      go_ret
      exact ⟨rfl, rfl⟩
end Go.Proofs.Ytledlicandlekab
namespace Go.Proofs.Ytledlicandlekab
open Go.RowKit
theorem OwnNA.at_ {w : World} {base : Nat} {v : Value} {vs : List (Value × Value)} {ns : List NdM} (h : OwnNA w base v vs ns) {x : Value} (hx : x ∈ vs.map (·.1)) : ∃ l, OwnB w base x l := by
  obtain ⟨y, hy, rfl⟩ := List.mem_map.1 hx
  obtain ⟨i, hi, rfl⟩ := List.getElem_of_mem hy
  obtain ⟨z, hz, o⟩ := h.body i (by have := h.len; omega)
  rw [List.getElem?_eq_getElem hi, Option.some.injEq] at hz
  rw [hz]
  exact ⟨_, o⟩
theorem OwnNA.lo {w : World} {base g : Nat} {v : Value} {vs : List (Value × Value)} {ns : List NdM} (h : OwnNA w base v vs ns) (hg : nodeS v vs g) : base ≤ g ∧ g < w.heap.size := by
  rcases hg with hg | ⟨x, hx, hg⟩
  · exact World.ownsRow.lt h.row g hg
  · obtain ⟨l, o⟩ := h.at_ hx
    exact World.ownsRow.lt o g hg
theorem OwnNA.notin {w : World} {base b e k n : Nat} {v u : Value} {vs : List (Value × Value)} {ns : List NdM} {xs : List Value} (h : OwnNA w base v vs ns) (o : w.ownsRow b e k u n xs) (h5 : e ≠ 5) (hN : e ≠ 56) : ∀ g, u.ownBlock = some g → ¬ nodeS v vs g := by
  rintro g hg (h1 | ⟨x, hx, h1⟩)
  · exact away_not (owns_away o h.row hN) g hg h1
  · obtain ⟨l, ox⟩ := h.at_ hx
    exact away_not (owns_away o ox h5) g hg h1
/-- Nodes stand where none of their blocks has changed. -/
theorem OwnNA.fr {S : Nat → Prop} {w w' : World} {base : Nat} {v : Value} {vs : List (Value × Value)} {ns : List NdM} (h : OwnNA w base v vs ns) (f : Fr S w w') (hn : ∀ g, nodeS v vs g → ¬ S g) : OwnNA w' base v vs ns := by
  refine ⟨h.len, owns_fr h.row f (fun g hg => hn g (.inl hg)), fun i hi => ?_, h.apart⟩
  obtain ⟨x, hx, o⟩ := h.body i hi
  exact ⟨x, hx, owns_fr o f (fun g hg => hn g (.inr ⟨x, List.mem_of_getElem? (i := i) (by rw [List.getElem?_map, hx]; rfl), hg⟩))⟩
/-- A disk of the call's own, its rows apart, all its blocks below hi. -/
structure OwnDA (w : World) (base hi : Nat) (v1 v2 v3 v4 : Value) (vs : List (Value × Value)) (D : MDisk) : Prop where
  nodes : OwnNA w base v1 vs D.nodes
  names : OwnE w base v2 D.names
  kept : OwnE w base v3 D.kept
  pend : OwnO w base v4 D.pend
  away : awayV v2 v3
  b1 : ∀ g, nodeS v1 vs g → g < hi
  b2 : ∀ g, v2.ownBlock = some g → g < hi
  b3 : ∀ g, v3.ownBlock = some g → g < hi
  b4 : ∀ g, v4.ownBlock = some g → g < hi
theorem OwnDA.own {w : World} {base hi : Nat} {v1 v2 v3 v4 : Value} {vs : List (Value × Value)} {D : MDisk} (h : OwnDA w base hi v1 v2 v3 v4 vs D) : OwnD w base (.agg #[v1, v2, v3, v4, .int .i64 D.quota]) D := ⟨v1, v2, v3, v4, rfl, h.nodes.own, h.names, h.kept, h.pend⟩
theorem OwnDA.fr {S : Nat → Prop} {w w' : World} {base hi : Nat} {v1 v2 v3 v4 : Value} {vs : List (Value × Value)} {D : MDisk} (h : OwnDA w base hi v1 v2 v3 v4 vs D) (f : Fr S w w') (hn : ∀ g, base ≤ g → g < hi → ¬ S g) : OwnDA w' base hi v1 v2 v3 v4 vs D :=
  ⟨h.nodes.fr f (fun g hg => hn g (h.nodes.lo hg).1 (h.b1 g hg)), owns_fr h.names f (fun g hg => hn g (World.ownsRow.lt h.names g hg).1 (h.b2 g hg)), owns_fr h.kept f (fun g hg => hn g (World.ownsRow.lt h.kept g hg).1 (h.b3 g hg)), owns_fr h.pend f (fun g hg => hn g (World.ownsRow.lt h.pend g hg).1 (h.b4 g hg)), h.away, h.b1, h.b2, h.b3, h.b4⟩
theorem OwnDA.below {w w' : World} {base hi : Nat} {v1 v2 v3 v4 : Value} {vs : List (Value × Value)} {D : MDisk} (h : OwnDA w base hi v1 v2 v3 v4 vs D) (hb : Below w.heap.size w w') : OwnDA w' base hi v1 v2 v3 v4 vs D :=
  h.fr (S := fun _ => False) (Fr.of_below hb) (fun _ _ _ => id)
def kD1 (D : MDisk) : Nat := kNd 1 D.nodes D.nodes.length
def kD2 (D : MDisk) : Nat := kD1 D + 2 * D.names.length
def kD3 (D : MDisk) : Nat := kD2 D + 2 * D.kept.length
def kD4 (D : MDisk) : Nat := kD3 D + 4 * D.pend.length
/-- A disk as the marks leave it. -/
def mkD (D : MDisk) : MDisk := ⟨muN 1 D.nodes, marksE (kD1 D) D.names.length, marksE (kD2 D) D.kept.length, marksO (kD3 D) D.pend.length, D.quota⟩
set_option maxRecDepth 20000 in
set_option maxHeartbeats 1000000 in
theorem markDisk_own (base hi : Nat) (v1 v2 v3 v4 : Value) (vs : List (Value × Value)) (D : MDisk) (w : World) (hhi : hi ≤ w.heap.size) (hk : kD4 D ≤ 4503599627370000) (hl : D.nodes.length ≤ 4503599627370000) (h : OwnDA w base hi v1 v2 v3 v4 vs D) :
    Calls Try.prog 11 #[.agg #[v1, v2, v3, v4, .int .i64 D.quota], .int .i64 1] w fun e w' => e = .returned (.int .i64 ((kD4 D : Nat) : Int)) ∧ (∃ vs', OwnDA w' base hi v1 v2 v3 v4 vs' (mkD D)) ∧ Fr (fun g => base ≤ g ∧ g < hi) w w' := by
  obtain ⟨a1, c1, rfl⟩ := h.nodes.slice
  obtain ⟨a2, c2, rfl⟩ := h.names.slice
  obtain ⟨a3, c3, rfl⟩ := h.kept.slice
  obtain ⟨a4, c4, rfl⟩ := h.pend.slice
  have hp1 : 1 ≤ kD1 D := kNd_pos 1 D.nodes
  have hd2 : kD2 D = kD1 D + 2 * D.names.length := rfl
  have hd3 : kD3 D = kD2 D + 2 * D.kept.length := rfl
  have hd4 : kD4 D = kD3 D + 4 * D.pend.length := rfl
  have hA := (Below.refl w.heap.size w).alloc (Nat.le_refl _) (.cells #[.slice a1 D.nodes.length c1, .slice a2 D.names.length c2, .slice a3 D.kept.length c3, .slice a4 D.pend.length c4, .int .i64 D.quota] 36)
  have L0 := Laid.new w #[.slice a1 D.nodes.length c1, .slice a2 D.names.length c2, .slice a3 D.kept.length c3, .slice a4 D.pend.length c4, .int .i64 D.quota] 36
  have h0 := h.below hA
  have hf0 := Fr.of_below (S := fun g => base ≤ g ∧ g < hi) hA
  have HN := hide (markN_own base a1 c1 1 D.nodes vs _ (by show kD1 D ≤ _; omega) hl h0.nodes)
  rw [show kNd 1 D.nodes D.nodes.length = kD1 D from rfl] at HN
  have H0 := hide h0
  have HF0 := hide hf0
  clear h h0 hf0 hA
  go_enter Try.func11, Try.ntmps11
  go_wp2_with fail
  generalize w.alloc (.cells #[.slice a1 D.nodes.length c1, .slice a2 D.names.length c2, .slice a3 D.kept.length c3, .slice a4 D.pend.length c4, .int .i64 D.quota] 36) = w0 at L0 HN H0 HF0 ⊢
  refine HN.out.mono ?_
  rintro e w1 ⟨rfl, ⟨vs', hm', on1⟩, f1⟩
  have hns : ∀ g, nodeS (.slice a1 D.nodes.length c1) vs g → base ≤ g ∧ g < hi := fun g hg => ⟨(H0.out.nodes.lo hg).1, H0.out.b1 g hg⟩
  have hns' : ∀ g, nodeS (.slice a1 D.nodes.length c1) vs' g → g < hi := fun g hg => (hns g (by unfold nodeS at hg ⊢; rw [← hm']; exact hg)).2
  have n2 := owns_fr H0.out.names f1 (H0.out.nodes.notin H0.out.names (by decide) (by decide))
  have n3 := owns_fr H0.out.kept f1 (H0.out.nodes.notin H0.out.kept (by decide) (by decide))
  have n4 := owns_fr H0.out.pend f1 (H0.out.nodes.notin H0.out.pend (by decide) (by decide))
  have L1 : Laid w1 w.heap.size #[.slice a1 D.nodes.length c1, .slice a2 D.names.length c2, .slice a3 D.kept.length c3, .slice a4 D.pend.length c4, .int .i64 D.quota] 36 := (f1.block w.heap.size L0.lt (fun h => by have := hns _ h; omega)).trans L0
  have t1 : w1.cell? ⟨w.heap.size, 1, none⟩ = some (.slice a2 D.names.length c2) := L1.cell 1
  have HF1 := hide (HF0.out.trans (f1.mono hns))
  have HM := hide (markE_own base a2 c2 (kD1 D) D.names w1 (by omega) (by omega) n2)
  have ON1 := hide on1
  have N2 := hide n2
  have N3 := hide n3
  have N4 := hide n4
  have HB := hide (And.intro H0.out.b2 (And.intro H0.out.b3 (And.intro H0.out.b4 H0.out.away)))
  have HNS := hide hns'
  have lo2 := fun g h => (World.ownsRow.lt H0.out.names g h).1
  have lo3 := fun g h => (World.ownsRow.lt H0.out.kept g h).1
  have lo4 := fun g h => (World.ownsRow.lt H0.out.pend g h).1
  have LO := hide (And.intro lo2 (And.intro lo3 lo4))
  clear HN H0 HF0 on1 f1 hm' hns hns' n2 n3 n4 L0 lo2 lo3 lo4
  go_wp2_with fail
  refine HM.out.mono ?_
  rintro e w2 ⟨rfl, on2, f2⟩
  rw [← hd2]
  have m1 := ON1.out.fr f2 (fun g hg e => ON1.out.notin N2.out (by decide) (by decide) g e hg)
  have m3 := owns_fr N3.out f2 (away_not HB.out.2.2.2.symm)
  have m4 := owns_fr N4.out f2 (away_not (owns_away N4.out N2.out (by decide)))
  have L2 : Laid w2 w.heap.size #[.slice a1 D.nodes.length c1, .slice a2 D.names.length c2, .slice a3 D.kept.length c3, .slice a4 D.pend.length c4, .int .i64 D.quota] 36 := (f2.block w.heap.size L1.lt (fun h => by have := HB.out.1 _ h; omega)).trans L1
  have t2 : w2.cell? ⟨w.heap.size, 2, none⟩ = some (.slice a3 D.kept.length c3) := L2.cell 2
  have HF2 := hide (HF1.out.trans (f2.mono (fun g hg => ⟨LO.out.1 g hg, HB.out.1 g hg⟩)))
  have HM3 := hide (markE_own base a3 c3 (kD2 D) D.kept w2 (by omega) (by omega) m3)
  have M1 := hide m1
  have M2 := hide on2
  have M3 := hide m3
  have M4 := hide m4
  clear HM ON1 N2 N3 N4 HF1 on2 f2 m1 m3 m4 L1 t1
  go_wp2_with fail
  refine HM3.out.mono ?_
  rintro e w3 ⟨rfl, on3, f3⟩
  rw [← hd3]
  have p1 := M1.out.fr f3 (fun g hg e => M1.out.notin M3.out (by decide) (by decide) g e hg)
  have p2 := owns_fr M2.out f3 (away_not HB.out.2.2.2)
  have p4 := owns_fr M4.out f3 (away_not (owns_away M4.out M3.out (by decide)))
  have L3 : Laid w3 w.heap.size #[.slice a1 D.nodes.length c1, .slice a2 D.names.length c2, .slice a3 D.kept.length c3, .slice a4 D.pend.length c4, .int .i64 D.quota] 36 := (f3.block w.heap.size L2.lt (fun h => by have := HB.out.2.1 _ h; omega)).trans L2
  have t3 : w3.cell? ⟨w.heap.size, 3, none⟩ = some (.slice a4 D.pend.length c4) := L3.cell 3
  have HF3 := hide (HF2.out.trans (f3.mono (fun g hg => ⟨LO.out.2.1 g hg, HB.out.2.1 g hg⟩)))
  have HM4 := hide (markO_own base a4 c4 (kD3 D) D.pend w3 (by omega) (by omega) p4)
  have P1 := hide p1
  have P2 := hide p2
  have P3 := hide on3
  have P4 := hide p4
  clear HM3 M1 M2 M3 M4 HF2 on3 f3 p1 p2 p4 L2 t2 L3
  go_wp2_with fail
  refine HM4.out.mono ?_
  rintro e w4 ⟨rfl, on4, f4⟩
  rw [← hd4]
  have q1 := P1.out.fr f4 (fun g hg e => P1.out.notin P4.out (by decide) (by decide) g e hg)
  have q2 := owns_fr P2.out f4 (away_not (owns_away P2.out P4.out (by decide)))
  have q3 := owns_fr P3.out f4 (away_not (owns_away P3.out P4.out (by decide)))
  have HX := hide (show (∃ vs', OwnDA w4 base hi (.slice a1 D.nodes.length c1) (.slice a2 D.names.length c2) (.slice a3 D.kept.length c3) (.slice a4 D.pend.length c4) vs' (mkD D)) from ⟨vs', q1, q2, q3, on4, HB.out.2.2.2, HNS.out, HB.out.1, HB.out.2.1, HB.out.2.2.1⟩)
  have HF4 := hide (HF3.out.trans (f4.mono (fun g hg => ⟨LO.out.2.2 g hg, HB.out.2.2.1 g hg⟩)))
  clear HM4 P1 P2 P3 P4 HF3 on4 f4 q1 q2 q3 t3 HB LO HNS
  go_wp2
  go_ret
  exact ⟨rfl, HX.out, HF4.out⟩
theorem marks_shape {w : World} {v : Value} {D : MDisk} (h : DiskAt w v (mkD D)) : ∃ a1 c1 a2 c2 a3 c3 a4 c4, v = .agg #[.slice a1 D.nodes.length c1, .slice a2 D.names.length c2, .slice a3 D.kept.length c3, .slice a4 D.pend.length c4, .int .i64 D.quota] ∧ NodeAt w a1 (muN 1 D.nodes) ∧ EntAt w a2 (marksE (kD1 D) D.names.length) ∧ EntAt w a3 (marksE (kD2 D) D.kept.length) ∧ OpAt w a4 (marksO (kD3 D) D.pend.length) := by
  obtain ⟨a1, c1, a2, c2, a3, c3, a4, c4, e, h1, h2, h3, h4⟩ := h
  unfold mkD at e h1 h2 h3 h4
  simp only [muN_length, marksE_length, marksO_length] at e h1 h2 h3 h4
  exact ⟨a1, c1, a2, c2, a3, c3, a4, c4, e, h1, h2, h3, h4⟩
set_option maxRecDepth 20000 in
set_option maxHeartbeats 1000000 in
theorem heldDisk_any (v : Value) (D : MDisk) (w : World) (hk : kD4 D ≤ 4503599627370000) (hl : D.nodes.length ≤ 4503599627370000) (h : DiskAt w v (mkD D)) :
    Calls Try.prog 19 #[v, .int .i64 1] w fun e w' => e = .returned (.int .i64 ((kD4 D : Nat) : Int)) ∧ Below w.heap.size w w' := by
  obtain ⟨a1, c1, a2, c2, a3, c3, a4, c4, rfl, h1, h2, h3, h4⟩ := marks_shape h
  have hp1 : 1 ≤ kD1 D := kNd_pos 1 D.nodes
  have hd2 : kD2 D = kD1 D + 2 * D.names.length := rfl
  have hd3 : kD3 D = kD2 D + 2 * D.kept.length := rfl
  have hd4 : kD4 D = kD3 D + 4 * D.pend.length := rfl
  have hA := (Below.refl w.heap.size w).alloc (Nat.le_refl _) (.cells #[.slice a1 D.nodes.length c1, .slice a2 D.names.length c2, .slice a3 D.kept.length c3, .slice a4 D.pend.length c4, .int .i64 D.quota] 36)
  have L0 := Laid.new w #[.slice a1 D.nodes.length c1, .slice a2 D.names.length c2, .slice a3 D.kept.length c3, .slice a4 D.pend.length c4, .int .i64 D.quota] 36
  have HN := hide (heldN_any a1 c1 1 D.nodes _ (by show kD1 D ≤ _; omega) hl (h1.below hA))
  rw [show kNd 1 D.nodes D.nodes.length = kD1 D from rfl] at HN
  have E2 := hide (h2.below hA)
  have E3 := hide (h3.below hA)
  have E4 := hide (h4.below hA)
  have HA := hide hA
  have k1 : ¬ ((kD1 D : Nat) : Int) < 0 := by omega
  have k2 : ¬ ((kD2 D : Nat) : Int) < 0 := by omega
  have k3 : ¬ ((kD3 D : Nat) : Int) < 0 := by omega
  have k4 : ¬ ((kD4 D : Nat) : Int) < 0 := by omega
  have t1 := L0.cell 1
  have HL0 := hide L0
  clear h h1 h2 h3 h4 hA L0
  go_enter Try.func19, Try.ntmps19
  go_wp2_with fail
  generalize w.alloc (.cells #[.slice a1 D.nodes.length c1, .slice a2 D.names.length c2, .slice a3 D.kept.length c3, .slice a4 D.pend.length c4, .int .i64 D.quota] 36) = w0 at HN E2 E3 E4 HA t1 HL0 ⊢
  refine HN.out.mono ?_
  rintro e w1 ⟨rfl, rfl⟩
  have t1' : w1.cell? ⟨w.heap.size, 1, none⟩ = some (.slice a2 D.names.length c2) := HL0.out.cell 1
  clear t1
  have HM := hide (heldE_any a2 c2 (kD1 D) D.names.length w1 (by omega) (by omega) E2.out)
  go_wp2_with fail
  refine HM.out.mono ?_
  rintro e w2 ⟨rfl, hb2⟩
  rw [← hd2]
  have L2 := HL0.out.below hb2 HL0.out.lt
  have t2 : w2.cell? ⟨w.heap.size, 2, none⟩ = some (.slice a3 D.kept.length c3) := L2.cell 2
  have HM3 := hide (heldE_any a3 c3 (kD2 D) D.kept.length w2 (by omega) (by omega) (E3.out.below hb2))
  have F4 := hide (E4.out.below hb2)
  have HA2 := hide (HA.out.trans (hb2.mono HA.out.size))
  have HL2 := hide L2
  clear HN HM E2 E3 E4 HA t1' HL0 hb2 L2
  go_wp2_with fail
  refine HM3.out.mono ?_
  rintro e w3 ⟨rfl, hb3⟩
  rw [← hd3]
  have L3 := HL2.out.below hb3 HL2.out.lt
  have t3 : w3.cell? ⟨w.heap.size, 3, none⟩ = some (.slice a4 D.pend.length c4) := L3.cell 3
  have HM4 := hide (heldO_any a4 c4 (kD3 D) D.pend.length w3 (by omega) (by omega) (F4.out.below hb3))
  have HA3 := hide (HA2.out.trans (hb3.mono HA2.out.size))
  clear HM3 F4 HA2 t2 HL2 hb3 L3
  go_wp2_with fail
  refine HM4.out.mono ?_
  rintro e w4 ⟨rfl, hb4⟩
  rw [← hd4]
  have HA4 := hide (HA3.out.trans (hb4.mono HA3.out.size))
  clear HM4 HA3 t3 hb4
  go_wp2
  go_ret
  exact ⟨rfl, HA4.out⟩
end Go.Proofs.Ytledlicandlekab
namespace Go.Proofs.Ytledlicandlekab
open Go.RowKit
/-- A row of whole numbers at an address. -/
def IntAt (w : World) (a : Option Addr) (l : List Int) : Prop :=
  0 < l.length → ∃ b off, a = some ⟨b, off, none⟩ ∧ ∀ i (h : i < l.length), w.cell? ⟨b, off + i, none⟩ = some (.int .i64 l[i])
theorem IntAt.below {w w' : World} {a : Option Addr} {l : List Int} (h : IntAt w a l) (hb : Below w.heap.size w w') : IntAt w' a l := fun hp => by
  obtain ⟨b, off, rfl, hc⟩ := h hp
  exact ⟨b, off, rfl, fun i hi => by rw [hb.cell (p := ⟨b, off + i, none⟩) (lt_of_cell0 (hc i hi))]; exact hc i hi⟩
theorem OwnNA.nil (w : World) (base : Nat) : OwnNA w base (.slice none 0 0) [] [] := ⟨rfl, World.ownsRow_nil w base _ 2, fun i h => by simp at h, List.Pairwise.nil⟩
/-- append of one node whose bytes are newer than all. -/
theorem OwnNA.push {w w' : World} {base : Nat} {v v' u : Value} {z : Int} {l : List Nat} {vs : List (Value × Value)} {ns : List NdM} (h : OwnNA w base v vs ns) (hx : OwnB w base u l) (hne : ∀ y ∈ vs.map (·.1), awayV y u)
    (ho : w'.ownsRow base 56 2 v' (vs.length + 1) (two vs ++ [u, .int .i64 z])) (hg : w.grownBy w' v.ownBlock) : OwnNA w' base v' (vs ++ [(u, .int .i64 z)]) (ns ++ [(l, z)]) := by
  have k : ∀ {x : Value} {m : List Nat}, OwnB w base x m → OwnB w' base x m := fun hx => World.ownsRow.kept hx hg (owns_away hx h.row (by decide))
  have hl := h.len
  refine ⟨by rw [List.length_append, List.length_append, hl]; rfl, ?_, fun i hi => ?_, ?_⟩
  · unfold Own2
    rw [List.length_append, two_append]
    exact ho
  · by_cases e : i < ns.length
    · obtain ⟨y, hy, p1⟩ := h.body i e
      refine ⟨y, by rw [List.getElem?_append_left (by omega), List.getElem_append_left e]; exact hy, ?_⟩
      rw [List.getElem_append_left e]
      exact k p1
    · have e2 : i = ns.length := by simp at hi; omega
      subst e2
      refine ⟨u, by rw [List.getElem?_append_right (by omega)]; simp [hl], ?_⟩
      simp only [List.getElem_concat_length]
      exact k hx
  · rw [List.map_append, List.pairwise_append]
    refine ⟨h.apart, by simp, fun y hy z' hz => ?_⟩
    obtain rfl : z' = u := by simpa using hz
    exact hne y hy
/-- The disk that is being made: its box o, its rows behind it. -/
structure CrL (w0 W : World) (o : Nat) (q : Int) (v1 v2 v3 : Value) (vs : List (Value × Value)) (N : List NdM) (E K : List EN) : Prop where
  box : Laid W o #[v1, v2, v3, .slice none 0 0, .int .i64 q] 36
  n : OwnNA W (o + 1) v1 vs N
  e : OwnE W (o + 1) v2 E
  k : OwnE W (o + 1) v3 K
  aw : awayV v2 v3
  bel : Below o w0 W
  sz : o + 1 ≤ W.heap.size
theorem CrL.below {w0 W W' : World} {o : Nat} {q : Int} {v1 v2 v3 : Value} {vs : List (Value × Value)} {N : List NdM} {E K : List EN} (h : CrL w0 W o q v1 v2 v3 vs N E K) (hb : Below W.heap.size W W') : CrL w0 W' o q v1 v2 v3 vs N E K :=
  ⟨h.box.below hb h.box.lt, h.n.fr (S := fun _ => False) (Fr.of_below hb) (fun _ _ => id), h.e.below hb, h.k.below hb, h.aw, h.bel.trans (hb.mono (by have := h.sz; omega)), Nat.le_trans h.sz hb.size⟩
theorem CrL.start (w : World) (q : Int) : CrL w (w.alloc (.cells #[.slice none 0 0, .slice none 0 0, .slice none 0 0, .slice none 0 0, .int .i64 q] 36)) w.heap.size q (.slice none 0 0) (.slice none 0 0) (.slice none 0 0) [] [] [] [] :=
  ⟨Laid.new w _ _, OwnNA.nil _ _, World.ownsRow_nil _ _ _ 2, World.ownsRow_nil _ _ _ 2, .inl rfl, (Below.refl _ _).alloc (Nat.le_refl _) _, by simp⟩
theorem own_ge {w : World} {b e k n : Nat} {v : Value} {xs : List Value} (h : w.ownsRow b e k v n xs) {g : Nat} (hg : v.ownBlock = some g) : b ≤ g ∧ g < w.heap.size := World.ownsRow.lt h g hg
/-- A node is put at its end. -/
theorem CrL.pushN {w0 W W2 w3 : World} {o : Nat} {q z : Int} {v1 v2 v3 v' u : Value} {vs : List (Value × Value)} {N : List NdM} {E K : List EN} {l : List Nat} (h : CrL w0 W o q v1 v2 v3 vs N E K) (hb : Below W.heap.size W W2) (hn : OwnNA w3 (o + 1) v' (vs ++ [(u, .int .i64 z)]) (N ++ [(l, z)])) (hg : W2.grownBy w3 v1.ownBlock) :
    CrL w0 (w3.setCell ⟨o, 0, none⟩ v') o q v' v2 v3 (vs ++ [(u, .int .i64 z)]) (N ++ [(l, z)]) E K := by
  have h2 := h.below hb
  have hlo : ∀ b, v1.ownBlock = some b → o + 1 ≤ b := fun b hb => (own_ge h2.n.row hb).1
  have ne : some o ≠ v1.ownBlock := fun e => by have := hlo o e.symm; omega
  have kb : Laid w3 o #[v1, v2, v3, .slice none 0 0, .int .i64 q] 36 := (hg.block o h2.box.lt ne).trans h2.box
  have ke : OwnE w3 (o + 1) v2 E := World.ownsRow.kept h2.e hg (owns_away h2.e h2.n.row (by decide))
  have kk : OwnE w3 (o + 1) v3 K := World.ownsRow.kept h2.k hg (owns_away h2.k h2.n.row (by decide))
  refine ⟨kb.set 0 v', hn.fr (S := fun g => g = o) ((Fr.refl _ _).set rfl) (fun g hg' e => by have := (hn.lo hg').1; omega), ke.set_low (by simp) _, kk.set_low (by simp) _, h.aw, (h2.bel.grown hg (by have := h2.sz; omega) (fun b e => by have := hlo b e; omega)).setCell (p := ⟨o, 0, none⟩) (by simp) _, by have := hg.size; have := h2.sz; simp; omega⟩
/-- A name is put at the end of Names. -/
theorem CrL.pushE {w0 W W2 w3 : World} {o : Nat} {q : Int} {v1 v2 v3 v' : Value} {vs : List (Value × Value)} {N : List NdM} {E K : List EN} {x : EN} (h : CrL w0 W o q v1 v2 v3 vs N E K) (hb : Below W.heap.size W W2) (hn : OwnE w3 (o + 1) v' (E ++ [x])) (hg : W2.grownBy w3 v2.ownBlock) (ha : awayV v' v3) :
    CrL w0 (w3.setCell ⟨o, 1, none⟩ v') o q v1 v' v3 vs N (E ++ [x]) K := by
  have h2 := h.below hb
  have hlo : ∀ b, v2.ownBlock = some b → o + 1 ≤ b := fun b hb => (own_ge h2.e hb).1
  have ne : some o ≠ v2.ownBlock := fun e => by have := hlo o e.symm; omega
  have kb : Laid w3 o #[v1, v2, v3, .slice none 0 0, .int .i64 q] 36 := (hg.block o h2.box.lt ne).trans h2.box
  have f3 : Fr (fun g => v2.ownBlock = some g) W2 w3 := Fr.of_grown hg (fun k e => e)
  have kn : OwnNA w3 (o + 1) v1 vs N := h2.n.fr f3 (fun g hg' e => h2.n.notin h2.e (by decide) (by decide) g e hg')
  have kk : OwnE w3 (o + 1) v3 K := owns_fr h2.k f3 (away_not h.aw.symm)
  refine ⟨kb.set 1 v', kn.fr (S := fun g => g = o) ((Fr.refl _ _).set rfl) (fun g hg' e => by have := (kn.lo hg').1; omega), hn.set_low (by simp) _, kk.set_low (by simp) _, ha, (h2.bel.grown hg (by have := h2.sz; omega) (fun b e => by have := hlo b e; omega)).setCell (p := ⟨o, 1, none⟩) (by simp) _, by have := hg.size; have := h2.sz; simp; omega⟩
/-- A name is put at the end of Kept. -/
theorem CrL.pushK {w0 W W2 w3 : World} {o : Nat} {q : Int} {v1 v2 v3 v' : Value} {vs : List (Value × Value)} {N : List NdM} {E K K' : List EN} (h : CrL w0 W o q v1 v2 v3 vs N E K) (hb : Below W.heap.size W W2) (hn : OwnE w3 (o + 1) v' K') (hg : W2.grownBy w3 v3.ownBlock) (ha : awayV v2 v') :
    CrL w0 (w3.setCell ⟨o, 2, none⟩ v') o q v1 v2 v' vs N E K' := by
  have h2 := h.below hb
  have hlo : ∀ b, v3.ownBlock = some b → o + 1 ≤ b := fun b hb => (own_ge h2.k hb).1
  have ne : some o ≠ v3.ownBlock := fun e => by have := hlo o e.symm; omega
  have kb : Laid w3 o #[v1, v2, v3, .slice none 0 0, .int .i64 q] 36 := (hg.block o h2.box.lt ne).trans h2.box
  have f3 : Fr (fun g => v3.ownBlock = some g) W2 w3 := Fr.of_grown hg (fun k e => e)
  have kn : OwnNA w3 (o + 1) v1 vs N := h2.n.fr f3 (fun g hg' e => h2.n.notin h2.k (by decide) (by decide) g e hg')
  have ke : OwnE w3 (o + 1) v2 E := owns_fr h2.e f3 (away_not h.aw)
  refine ⟨kb.set 2 v', kn.fr (S := fun g => g = o) ((Fr.refl _ _).set rfl) (fun g hg' e => by have := (kn.lo hg').1; omega), ke.set_low (by simp) _, hn.set_low (by simp) _, ha, (h2.bel.grown hg (by have := h2.sz; omega) (fun b e => by have := hlo b e; omega)).setCell (p := ⟨o, 2, none⟩) (by simp) _, by have := hg.size; have := h2.sz; simp; omega⟩
theorem away_at {W : World} {v v' v3 : Value} {b e k n : Nat} {xs : List Value} (hat : v'.ownBlock = v.ownBlock ∨ v'.ownBlock = some W.heap.size) (h : awayV v v3) (h3 : W.ownsRow b e k v3 n xs) : awayV v' v3 := by
  rcases hat with e1 | e1
  · rcases h with h | h
    · exact .inl (e1.trans h)
    · exact .inr (fun e2 => h (e1.symm.trans e2))
  · exact .inr (fun e2 => by have := (own_ge h3 (e2.symm.trans e1)).2; omega)
/-- append of one entry, and where the row then lies. -/
theorem wpList_append_entry_at {ops : Array Oper} {rest : List Oper} {o : Oper} {act : Act} {Q : Exit → Act → World → Prop} (w : World) (hgd : o.guard = none) (s x : Operand)
    (ho : o.op = .call { callee := .builtin .append, args := #[s, x], argTypes := #[33, 33] })
    (base : Nat) (v : Value) (es : List EN) (e : EN) (g1 c : Nat) (hs : act.eval s = v) (hx : act.eval x = .slice (some ⟨g1, 0, none⟩) 1 c) (hown : OwnE w base v es)
    (h0 : w.cell? ⟨g1, 0, none⟩ = some (.string e.1)) (h1 : w.cell? ⟨g1, 1, none⟩ = some (.int .i64 e.2)) (hlen : es.length ≤ 1048576) (hbase : base ≤ w.heap.size)
    (h : ∀ v' w', OwnE w' base v' (es ++ [e]) → w.grownBy w' v.ownBlock → (v'.ownBlock = v.ownBlock ∨ v'.ownBlock = some w.heap.size) → wpList Try.prog ops Q rest (act.put o.dst v') w') : wpList Try.prog ops Q (o :: rest) act w := by
  obtain ⟨i0, hi, hz0, hz1, hz2⟩ := info_parts Try.infoEntry
  have hown' : w.ownsRow base 58 2 v es.length (two (es.map entP)) := by have := hown; unfold OwnE Own2 at this; rw [List.length_map] at this; exact this
  refine wpList_append_own_at w hgd s x 33 ho base 58 i0 (.agg #[.string ByteArray.empty, .int .i64 0]) 2 24 Try.underlying33 hi hz0 hz1 hz2 rfl (by decide) v es.length (two (es.map entP)) hs hown' ⟨g1, 0, none⟩ 1 c [.string e.1, .int .i64 e.2] hx (by simp) ?_ ?_ (by unfold maxLen; omega) (by omega) hbase ?_
  · intro j u hj
    rw [addr_add]
    match j with
    | 0 => simp only [List.getElem?_cons_zero, Option.some.injEq] at hj; rw [← hj]; exact h0
    | 1 => simp only [List.getElem?_cons_succ, List.getElem?_cons_zero, Option.some.injEq] at hj; rw [← hj]; exact h1
    | j + 2 => simp at hj
  · intro u hu
    simp only [List.mem_cons, List.not_mem_nil, or_false] at hu
    rcases hu with rfl | rfl <;> rfl
  · intro v' w' hown2 hg _ hat
    refine h v' w' ?_ hg hat
    unfold OwnE Own2
    rw [List.length_map, List.length_append, List.map_append, two_append]
    exact hown2
/-- append of one node, as a step of a statement whose order is drawn. -/
theorem step_append_node {ops : Array Oper} {o : Oper} {act : Act} {K : Act → World → Prop} {Q : Exit → Act → World → Prop} {E : Prop} (w : World) (hgd : o.guard = none) (s x : Operand)
    (ho : o.op = .call { callee := .builtin .append, args := #[s, x], argTypes := #[32, 32] })
    (lo : Nat) (v : Value) (vs : List (Value × Value)) (ns : List NdM) (u : Value) (l : List Nat) (z : Int) (g1 c : Nat) (hs : act.eval s = v) (hx : act.eval x = .slice (some ⟨g1, 0, none⟩) 1 c) (hown : OwnNA w lo v vs ns) (h0 : w.cell? ⟨g1, 0, none⟩ = some u) (h1 : w.cell? ⟨g1, 1, none⟩ = some (.int .i64 z)) (hox : OwnB w lo u l)
    (hne : ∀ y ∈ vs.map (·.1), awayV y u) (hlen : ns.length ≤ 1048576) (hbase : lo ≤ w.heap.size)
    (h : ∀ v' w', OwnNA w' lo v' (vs ++ [(u, .int .i64 z)]) (ns ++ [(l, z)]) → w.grownBy w' v.ownBlock → K (act.put o.dst v') w') : if Region.wanted o (yielded ops act.tmps) = true then Oper.wp Try.prog o act w K Q else E := by
  have hw : Region.wanted o (yielded ops act.tmps) = true := by simp [Region.wanted, hgd]
  rw [if_pos hw]
  obtain ⟨i0, hi, hz0, hz1, hz2⟩ := info_parts Try.infoNode
  have hl := hown.len
  refine wp_append_own w s x 32 ho lo 56 i0 (.agg #[.slice none 0 0, .int .i64 0]) 2 32 Try.underlying32 hi hz0 hz1 hz2 rfl (by decide) v vs.length (two vs) hs hown.row ⟨g1, 0, none⟩ 1 c [u, .int .i64 z] hx (by simp) ?_ ?_ (by unfold maxLen; omega) (by omega) hbase ?_
  · intro j y hj
    rw [addr_add]
    match j with
    | 0 => simp only [List.getElem?_cons_zero, Option.some.injEq] at hj; rw [← hj]; exact h0
    | 1 => simp only [List.getElem?_cons_succ, List.getElem?_cons_zero, Option.some.injEq] at hj; rw [← hj]; exact h1
    | j + 2 => simp at hj
  · intro y hy
    simp only [List.mem_cons, List.not_mem_nil, or_false] at hy
    rcases hy with rfl | rfl
    · obtain ⟨a, c', rfl⟩ := hox.slice; rfl
    · rfl
  · intro v' w' hown' hg _
    exact h v' w' (hown.push hox hne hown' hg) hg
/-- What a call that hands back a disk answers. -/
def DiskPost (C : MDisk) (w : World) (e : Ending) (w' : World) : Prop := ∃ v1 v2 v3 v4 vs, e = .returned (.agg #[v1, v2, v3, v4, .int .i64 C.quota]) ∧ OwnDA w' w.heap.size w'.heap.size v1 v2 v3 v4 vs C ∧ Below w.heap.size w w'
end Go.Proofs.Ytledlicandlekab
namespace Go.Proofs.Ytledlicandlekab
open Go.RowKit
/-- append of a list of entries, perhaps none. -/
theorem wpList_append_ents {ops : Array Oper} {rest : List Oper} {o : Oper} {act : Act} {Q : Exit → Act → World → Prop} (w : World) (hgd : o.guard = none) (s x : Operand)
    (ho : o.op = .call { callee := .builtin .append, args := #[s, x], argTypes := #[33, 33] })
    (base : Nat) (v : Value) (es l : List EN) (hs : act.eval s = v) (hown : OwnE w base v es) (ad : Option Addr) (c : Nat) (hx : act.eval x = .slice ad l.length c) (hr : EntAt w ad l) (hlen : es.length + l.length ≤ 1048576) (hbase : base ≤ w.heap.size)
    (h : ∀ v' w', OwnE w' base v' (es ++ l) → w.grownBy w' v.ownBlock → wpList Try.prog ops Q rest (act.put o.dst v') w') : wpList Try.prog ops Q (o :: rest) act w := by
  obtain ⟨i0, hi, hz0, hz1, hz2⟩ := info_parts Try.infoEntry
  have hown' : w.ownsRow base 58 2 v es.length (two (es.map entP)) := by have := hown; unfold OwnE Own2 at this; rw [List.length_map] at this; exact this
  by_cases hm : 0 < l.length
  · obtain ⟨b, off, rfl, hc⟩ := hr hm
    have hcl : ∀ k (hk : k < l.length), w.cell? ⟨b, off + k * 2, none⟩ = (two (l.map entP))[k * 2]? ∧ w.cell? ⟨b, off + (k * 2 + 1), none⟩ = (two (l.map entP))[k * 2 + 1]? := fun k hk => by
      obtain ⟨h1, h2⟩ := hc k hk
      have hk' : k < (l.map entP).length := by rw [List.length_map]; exact hk
      rw [two_get0 _ k hk', two_get1 _ k hk', h1, show off + (k * 2 + 1) = off + k * 2 + 1 from by omega, h2]
      simp [entP]
    refine wpList_append_own w hgd s x 33 ho base 58 i0 (.agg #[.string ByteArray.empty, .int .i64 0]) 2 24 Try.underlying33 hi hz0 hz1 hz2 rfl (by decide) v es.length (two (es.map entP)) hs hown' ⟨b, off, none⟩ l.length c (two (l.map entP)) hx (by rw [two_length, List.length_map]) ?_ ?_ (by unfold maxLen; omega) (by omega) hbase ?_
    · intro j u hj
      rw [addr_add]
      have hj2 : j < l.length * 2 := by
        rcases Nat.lt_or_ge j (l.length * 2) with h' | h'
        · exact h'
        · rw [List.getElem?_eq_none (by rw [two_length, List.length_map]; exact h')] at hj; cases hj
      rw [← hj]
      rcases Nat.mod_two_eq_zero_or_one j with e | e
      · obtain ⟨k, rfl⟩ : ∃ k, j = k * 2 := ⟨j / 2, by omega⟩
        exact (hcl k (by omega)).1
      · obtain ⟨k, rfl⟩ : ∃ k, j = k * 2 + 1 := ⟨j / 2, by omega⟩
        exact (hcl k (by omega)).2
    · intro u hu
      unfold two at hu
      obtain ⟨p, hp, hu⟩ := List.mem_flatMap.1 hu
      obtain ⟨y, _, rfl⟩ := List.mem_map.1 hp
      simp only [entP, List.mem_cons, List.not_mem_nil, or_false] at hu
      rcases hu with rfl | rfl <;> rfl
    · intro v' w' hown2 hg _
      refine h v' w' ?_ hg
      unfold OwnE Own2
      rw [List.length_map, List.length_append, List.map_append, two_append]
      exact hown2
  · have hm0 : l = [] := List.eq_nil_of_length_eq_zero (by omega)
    subst hm0
    have hr' : (Builtin.append_ #[33, 33] o.type #[v, .slice ad 0 c]).run Try.prog w = .ok v w := by
      rcases hown'.2 with ⟨rfl, hn⟩ | ⟨g, cap, cur, rfl, hbg, hg, hnc, _⟩
      · cases ad <;> simp [Builtin.append_, run_underlying Try.underlying33, sizeOf, typeInfo, hi, Builtin.lenOf, Builtin.firstCells, loadCells, loadCellsFrom]
      · cases ad <;> simp [Builtin.append_, run_underlying Try.underlying33, sizeOf, typeInfo, hi, Builtin.lenOf, Builtin.firstCells, storeCells, loadCells, loadCellsFrom, hnc]
    refine wpList_plain hgd fun K hK => ?_
    unfold Oper.wp execOp
    simp only [List.length_nil] at hx
    simp only [ho, resolve, invoke, builtin, Sem.run_bind, Sem.run_pure, Result.andThen_ok, List.map_toArray, List.map_cons, List.map_nil, hs, hx, hr']
    exact hK _ _ (h v w (by rw [List.append_nil]; exact hown) (grown_refl _ _))
theorem l1Entries_any (a : Option Addr) (cap : Nat) (es : List EN) (w : World) (hn : es.length ≤ 1048576) (hr : EntAt w a es) :
    Calls Try.prog 41 #[.slice a es.length cap] w fun e w' => ∃ v, e = .returned v ∧ OwnE w' w.heap.size v es ∧ Below w.heap.size w w' := by
  have h0 : OwnE w w.heap.size (.slice none 0 0) [] := World.ownsRow_nil w _ _ 2
  go_enter Try.func41, Try.ntmps41
  go_wp2_with (at_builtin; refine wpList_append_ents _ rfl _ _ rfl w.heap.size (.slice none 0 0) [] es rfl h0 _ _ rfl hr (by simp; omega) (by simp) ?_; intro v2 w2 ho2 hg2)
  go_ret
  exact ⟨_, rfl, ho2, (Below.refl _ _).grown hg2 (Nat.le_refl _) (fun k h => by simp [Value.ownBlock] at h)⟩
theorem cloneE_any (a : Option Addr) (cap : Nat) (es : List EN) (w : World) (hn : es.length ≤ 1048576) (hr : EntAt w a es) :
    Calls Try.prog 48 #[.slice a es.length cap] w fun e w' => ∃ v, e = .returned v ∧ OwnE w' w.heap.size v es ∧ Below w.heap.size w w' := by
  have hnn := fun (n c : Nat) (x : Option Addr) (w : World) => Lib.run_eql_slice_nil (P := Try.prog) w 33 58 x n c 0 0 Try.underlying33
  have hA : Below w.heap.size w (w.alloc (.cells #[] 58)) := (Below.refl _ _).alloc (Nat.le_refl _) _
  have hE : OwnE (w.alloc (.cells #[] 58)) w.heap.size (.slice (some ⟨w.heap.size, 0, none⟩) 0 0) [] := ⟨rfl, .inr ⟨w.heap.size, 0, #[], rfl, Nat.le_refl _, heap_alloc_new w _, by simp, by simp [maxLen], by simp, by simp [two]⟩⟩
  cases a with
  | none =>
    have h0 : es = [] := by
      cases es with
      | nil => rfl
      | cons x r => obtain ⟨b, off, e, _⟩ := hr (by simp); cases e
    subst h0
    go_enter Try.func48, Try.ntmps48
    go_wp2
    go_ret
    exact ⟨_, rfl, World.ownsRow_nil w _ _ 2, Below.refl _ _⟩
  | some x =>
    go_enter Try.func48, Try.ntmps48
    go_wp2_with (at_builtin; refine wpList_append_ents _ rfl _ _ rfl w.heap.size (.slice (some ⟨w.heap.size, 0, none⟩) 0 0) [] es rfl hE _ _ rfl (hr.below hA) (by simp; omega) (by simp) ?_; intro v2 w2 ho2 hg2)
    go_ret
    exact ⟨_, rfl, ho2, hA.grown hg2 (by simp) (fun k h => by simp [Value.ownBlock] at h; omega)⟩
theorem firstOf_any (a : Option Addr) (cap n : Nat) (d : Int) (w : World) (hn : n ≤ 1048576) (hc : n ≤ cap) :
    Calls Try.prog 44 #[.slice a n cap, .int .i64 d] w fun e w' => e = .returned (.slice a (min d.toNat n) cap) ∧ w' = w := by
  have he : (min (max d 0) (n : Int)).toNat = min d.toNat n := by omega
  have HE := hide he
  clear he
  go_enter Try.func44, Try.ntmps44
  go_wp2
  go_ret
  exact ⟨congrArg (fun m => Ending.returned (.slice a m cap)) HE.out, rfl⟩
theorem looseKept_any (a : Option Addr) (cap : Nat) (ps : List Int) (i z : Nat) (w : World) (hn : ps.length ≤ 1048576) (hi : i ≤ 1048576) (hz : z ≤ 1048576) (hr : IntAt w a ps) :
    Calls Try.prog 47 #[.slice a ps.length cap, .int .i64 (i : Int), .int .i64 (z : Int)] w fun e w' => e = .returned (.int .i64 (((if ps.length = 0 then 0 else (max (ps.getD (i % ps.length) 0) 0).toNat % (z + 1)) : Nat) : Int)) ∧ w' = w := by
  by_cases h0 : ps.length = 0
  · have hi0 : (ps.length : Int) = 0 := by omega
    rw [if_pos h0]
    go_enter Try.func47, Try.ntmps47
    go_wp2
    go_ret
    exact ⟨rfl, rfl⟩
  · obtain ⟨b, off, rfl, hc⟩ := hr (by omega)
    have hlt : i % ps.length < ps.length := Nat.mod_lt _ (by omega)
    have hc0 := hc (i % ps.length) hlt
    have hg : ps.getD (i % ps.length) 0 = ps[i % ps.length] := by simp [List.getD_eq_getElem?_getD, List.getElem?_eq_getElem hlt]
    rw [if_neg h0, hg]
    have hne : ¬ (ps.length : Int) = 0 := by omega
    have hmod : ((i : Int) % (ps.length : Int)) = ((i % ps.length : Nat) : Int) := by omega
    clear hc hr hg
    generalize ps[i % ps.length] = p at hc0 ⊢
    generalize i % ps.length = m at hlt hc0 hmod
    have HE := hide (show max p 0 % ((z : Int) + 1) = (((max p 0).toNat % (z + 1) : Nat) : Int) by rw [Int.natCast_emod, Int.toNat_of_nonneg (by omega)]; push_cast; rfl)
    go_enter Try.func47, Try.ntmps47
    go_wp2
    go_ret
    exact ⟨ret_int HE.out, rfl⟩
end Go.Proofs.Ytledlicandlekab
