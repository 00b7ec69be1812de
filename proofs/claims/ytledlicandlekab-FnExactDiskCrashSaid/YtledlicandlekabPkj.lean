import Derived.Test.YtledlicandlekabPka
import Derived.Test.YtledlicandlekabPkb
import Derived.Test.YtledlicandlekabPkc
import Derived.Test.YtledlicandlekabPkd
import Derived.Test.YtledlicandlekabPke
import Derived.Test.YtledlicandlekabPkf
import Derived.Test.YtledlicandlekabPkg
import Derived.Test.YtledlicandlekabShelfI
import Derived.Test.YtledlicandlekabPkh
import Derived.Test.YtledlicandlekabPki
import Derived.Laws.BytesArg
namespace Go.Proofs.Ytledlicandlekab
open Go.RowKit
/-- The bytes l as a string. -/
def strB (l : List Nat) : ByteArray := ⟨(l.map UInt8.ofNat).toArray⟩
theorem map_back (l : List Nat) (h : ∀ x ∈ l, x < 256) : (l.map UInt8.ofNat).map UInt8.toNat = l := by
  rw [List.map_map]
  conv => rhs; rw [← List.map_id l]
  apply List.map_congr_left
  intro x hx
  have := h x hx
  simp
  omega
/-- string of bytes that lie somewhere. -/
theorem run_string_of (w : World) (a : Option Addr) (cap : Nat) (l : List Nat) (hr : RowAt w a l) :
    (convert 28 9 (.slice a l.length cap)).run Try.prog w = .ok (.string (strB l)) w := by
  by_cases h0 : l.length = 0
  · obtain rfl : l = [] := List.eq_nil_of_length_eq_zero h0
    rw [run_convert_bytes_string w _ _ 5 a _ cap Try.underlying28 Try.underlying5 Try.underlying9]
    cases a <;> simp [Conv.bytesToString, loadCells] <;> rfl
  · obtain ⟨b, off, rfl, hc⟩ := hr (by omega)
    have h := run_convert_bytes_arg w 28 5 Try.underlying28 Try.underlying5 b off l.length cap (l.map fun n : Nat => (n : Int)) (by simp) (fun i hi => by rw [hc i hi]; simp [hi]) 9 Try.underlying9
    rw [h]
    unfold strOfNums strB
    rw [List.map_map]
    rfl
theorem strB_inj {l m : List Nat} (hl : ∀ x ∈ l, x < 256) (hm : ∀ x ∈ m, x < 256) (h : strB l = strB m) : l = m := by
  unfold strB at h
  have h1 : (l.map UInt8.ofNat).toArray = (m.map UInt8.ofNat).toArray := congrArg ByteArray.data h
  have h2 : l.map UInt8.ofNat = m.map UInt8.ofNat := congrArg Array.toList h1
  rw [← map_back l hl, ← map_back m hm, h2]
theorem strB_dec {l m : List Nat} (hl : ∀ x ∈ l, x < 256) (hm : ∀ x ∈ m, x < 256) : decide (strB l = strB m) = decide (l = m) := by
  by_cases h : l = m
  · subst h; simp
  · rw [decide_eq_false h, decide_eq_false fun e => h (strB_inj hl hm e)]
theorem strB_list (l : List Nat) : (strB l).toList = l.map UInt8.ofNat := by rw [ByteArray.toList_eq]; rfl
theorem strB_beq {l m : List Nat} (hl : ∀ x ∈ l, x < 256) (hm : ∀ x ∈ m, x < 256) : ((strB l).toList == (strB m).toList) = decide (l = m) := by
  rw [strB_list, strB_list]
  by_cases h : l = m
  · subst h; simp
  · rw [decide_eq_false h]
    exact beq_eq_false_iff_ne.2 fun e => h (by rw [← map_back l hl, ← map_back m hm, e])
end Go.Proofs.Ytledlicandlekab
namespace Go.Proofs.Ytledlicandlekab
open Go.RowKit
/-- A block of n cells of type t, whatever they hold. -/
def Raw (w : World) (g : Nat) (t : TypeId) (n : Nat) : Prop := ∃ cur : Array Value, w.heap[g]? = some (.cells cur t (0, 0)) ∧ cur.size = n
theorem Raw.cell {w : World} {g t n : Nat} (h : Raw w g t n) (j : Nat) (hj : j < n) : ∃ v, w.cell? ⟨g, j, none⟩ = some v := by
  obtain ⟨cur, hc, hs⟩ := h
  rw [cell_of_row w g j _ _ _ hc]
  exact ⟨_, Array.getElem?_eq_getElem (by omega)⟩
theorem Raw.frozen {w : World} {g t n : Nat} (h : Raw w g t n) (j : Nat) : w.frozen? ⟨g, j, none⟩ = false := by
  obtain ⟨cur, hc, _⟩ := h
  simp [World.frozen?, hc]
theorem Raw.lt {w : World} {g t n : Nat} (h : Raw w g t n) : g < w.heap.size := by
  obtain ⟨cur, hc, _⟩ := h
  exact lt_of_block hc
theorem Raw.set {w : World} {g t n : Nat} (h : Raw w g t n) (g' j : Nat) (u : Value) : Raw (w.setCell ⟨g', j, none⟩ u) g t n := by
  obtain ⟨cur, hc, hs⟩ := h
  by_cases e : g = g'
  · subst e
    refine ⟨cur.setIfInBounds j u, ?_, by simpa using hs⟩
    rw [setCell_eq_setRow w g j _ _ _ _ hc, setRow_heap w g _ _ _ _ hc]
  · exact ⟨cur, (heap_setCell_other w ⟨g', j, none⟩ g u (by simpa using e)).trans hc, hs⟩
theorem Raw.apart {w : World} {g g' t t' n n' : Nat} (h : Raw w g t n) (h' : Raw w g' t' n') (ht : t ≠ t') : g ≠ g' := by
  rintro rfl
  obtain ⟨c, hc, _⟩ := h
  obtain ⟨c', hc', _⟩ := h'
  rw [hc] at hc'
  simp only [Option.some.injEq, Obj.cells.injEq] at hc'
  exact ht hc'.2.1
theorem Raw.of_eq {w w' : World} {g t n : Nat} (h : Raw w g t n) (e : w'.heap[g]? = w.heap[g]?) : Raw w' g t n := by
  obtain ⟨cur, hc, hs⟩ := h
  exact ⟨cur, e.trans hc, hs⟩
theorem Out.set {lo hi g j : Nat} {a w : World} {u : Value} (h : Out lo hi a w) (h1 : lo ≤ g) (h2 : g < hi) : Out lo hi a (w.setCell ⟨g, j, none⟩ u) :=
  ⟨h.os, h.tape, h.output, by simpa using h.size, fun k hk ho => by
    rw [heap_setCell_other w ⟨g, j, none⟩ k u (by simp; omega)]
    exact h.block k hk ho⟩
theorem Out.andThen {lo hi B : Nat} {a b c : World} (h : Out lo hi a b) (k : Below B b c) (hB : a.heap.size ≤ B) : Out lo hi a c :=
  ⟨k.os.trans h.os, k.tape.trans h.tape, k.output.trans h.output, Nat.le_trans h.size k.size, fun i hi ho => (k.block i (by omega)).trans (h.block i hi ho)⟩
/-- What marking bytes leaves, whatever they were. -/
theorem markB_raw (g n cap m k : Nat) (w : World) (hn : n ≤ m) (hk : k ≤ 4503599627370496) (hn2 : n ≤ 4503599627370496) (hr : Raw w g 5 m) :
    Calls Try.prog 39 #[.slice (some ⟨g, 0, none⟩) n cap, .int .i64 (k : Int)] w fun e w' => e = .returned (.int .i64 ((k + n : Nat) : Int)) ∧ (∀ g' t n', Raw w g' t n' → Raw w' g' t n') ∧ (∀ b, b ≠ g → w'.heap[b]? = w.heap[b]?) ∧ w'.os = w.os ∧ w'.tape = w.tape ∧ w'.output = w.output ∧ w'.heap.size = w.heap.size := by
  go_enter Try.func39, Try.ntmps39
  go_wp2
  go_loopw [1, 5] (fun s i wr => ∃ j : Nat, j ≤ n ∧ i = .int .i64 j ∧ s = .int .i64 ((k + j : Nat) : Int) ∧ (∀ g' t n', Raw w g' t n' → Raw wr g' t n') ∧ (∀ b, b ≠ g → wr.heap[b]? = w.heap[b]?) ∧ wr.os = w.os ∧ wr.tape = w.tape ∧ wr.output = w.output ∧ wr.heap.size = w.heap.size) (fun _ i _ => n - (intOf i).toNat)
  case atStart => exact ⟨0, Nat.zero_le _, rfl, rfl, fun _ _ _ h => h, fun _ _ => rfl, rfl, rfl, rfl, rfl⟩
  case round =>
    obtain ⟨j, hj, rfl, rfl, hrk, hbk, ho, ht, hou, hsz⟩ := hrel
    by_cases hlt : j < n
    · have hraw := hrk g 5 m hr
      obtain ⟨v, hcell⟩ := hraw.cell j (by omega)
      have hfz := hraw.frozen j
      have HX := hide (show (∀ (u : Value) g' t n', Raw w g' t n' → Raw (wr.setCell ⟨g, j, none⟩ u) g' t n') ∧ (∀ (u : Value) b, b ≠ g → (wr.setCell ⟨g, j, none⟩ u).heap[b]? = w.heap[b]?) ∧ (∀ u : Value, (wr.setCell ⟨g, j, none⟩ u).os = w.os ∧ (wr.setCell ⟨g, j, none⟩ u).tape = w.tape ∧ (wr.setCell ⟨g, j, none⟩ u).output = w.output ∧ (wr.setCell ⟨g, j, none⟩ u).heap.size = w.heap.size) from
        ⟨fun u g' t n' h => (hrk g' t n' h).set g j u, fun u b hb => (heap_setCell_other wr ⟨g, j, none⟩ b u (by simpa using hb)).trans (hbk b hb), fun u => ⟨ho, ht, hou, by rw [← hsz]; simp⟩⟩)
      clear hrk hbk ho ht hou hsz hr hraw
      go_wp2
      go_roundw
      case rel => exact ⟨j + 1, by omega, by go_num, val_int (by omega), HX.out.1 _, HX.out.2.1 _, (HX.out.2.2 _).1, (HX.out.2.2 _).2.1, (HX.out.2.2 _).2.2.1, (HX.out.2.2 _).2.2.2⟩
      case measure => simp [intOf]; omega
    · obtain rfl : j = n := by omega
      go_wp2
      go_ret
      exact ⟨rfl, hrk, hbk, ho, ht, hou, hsz⟩
end Go.Proofs.Ytledlicandlekab
namespace Go.Proofs.Ytledlicandlekab
open Go.RowKit
/-- The nodes of a disk, whatever they hold, all in blocks of [lo, hi). -/
structure NodesRaw (w : World) (lo hi g n m : Nat) (vs : Nat → Value) : Prop where
  raw : Raw w g 56 m
  room : n * 2 ≤ m
  low : lo ≤ g
  high : g < hi
  sl : ∀ j, j < n → w.cell? ⟨g, j * 2, none⟩ = some (vs j)
  el : ∀ j, j < n → vs j = .slice none 0 0 ∨ ∃ gj nj cj mj, vs j = .slice (some ⟨gj, 0, none⟩) nj cj ∧ Raw w gj 5 mj ∧ nj ≤ mj ∧ lo ≤ gj ∧ gj < hi ∧ nj ≤ 1048576
theorem NodesRaw.turn {w w' : World} {lo hi g n m : Nat} {vs : Nat → Value} (h : NodesRaw w lo hi g n m vs) (hr : ∀ g' t n', Raw w g' t n' → Raw w' g' t n') (hc : ∀ j, j < n → w'.cell? ⟨g, j * 2, none⟩ = w.cell? ⟨g, j * 2, none⟩) : NodesRaw w' lo hi g n m vs :=
  ⟨hr _ _ _ h.raw, h.room, h.low, h.high, fun j hj => (hc j hj).trans (h.sl j hj), fun j hj => by
    rcases h.el j hj with e | ⟨gj, nj, cj, mj, e, r, rest⟩
    · exact .inl e
    · exact .inr ⟨gj, nj, cj, mj, e, hr _ _ _ r, rest⟩⟩
theorem cell_of_block {w w' : World} {g j : Nat} (h : w'.heap[g]? = w.heap[g]?) : w'.cell? ⟨g, j, none⟩ = w.cell? ⟨g, j, none⟩ := by
  unfold World.cell?
  simp only [h]
theorem Raw.ty {w : World} {g t t' n n' : Nat} (h : Raw w g t n) (h' : Raw w g t' n') : t = t' := by
  obtain ⟨c, hc, _⟩ := h
  obtain ⟨c', hc', _⟩ := h'
  rw [hc] at hc'
  simp only [Option.some.injEq, Obj.cells.injEq] at hc'
  exact hc'.2.1
theorem markB_nil (k : Nat) (w : World) :
    Calls Try.prog 39 #[.slice none 0 0, .int .i64 (k : Int)] w fun e w' => e = .returned (.int .i64 (k : Int)) ∧ w' = w := by
  go_enter Try.func39, Try.ntmps39
  go_wp2
  go_loopw [1, 5] (fun s i wr => i = .int .i64 0 ∧ s = .int .i64 (k : Int) ∧ wr = w) (fun _ _ _ => 0)
  case atStart => exact ⟨rfl, rfl, rfl⟩
  case round =>
    obtain ⟨rfl, rfl, rfl⟩ := hrel
    go_wp2
    go_ret
    exact ⟨rfl, rfl⟩
def ElOk (w : World) (lo hi : Nat) (v : Value) : Prop := v = .slice none 0 0 ∨ ∃ gj nj cj mj, v = .slice (some ⟨gj, 0, none⟩) nj cj ∧ Raw w gj 5 mj ∧ nj ≤ mj ∧ lo ≤ gj ∧ gj < hi ∧ nj ≤ 1048576
theorem markB_el (lo hi k : Nat) (v : Value) (w : World) (hk : k ≤ 4503599627370496) (h : ElOk w lo hi v) :
    Calls Try.prog 39 #[v, .int .i64 (k : Int)] w fun e w' => (∃ nn : Nat, nn ≤ 1048576 ∧ e = .returned (.int .i64 ((k + nn : Nat) : Int))) ∧ (∀ g' t n', Raw w g' t n' → Raw w' g' t n') ∧ (∀ b t n', t ≠ 5 → Raw w b t n' → w'.heap[b]? = w.heap[b]?) ∧ Out lo hi w w' := by
  rcases h with rfl | ⟨gj, nj, cj, mj, rfl, r, hnm, hl, hh, hnb⟩
  · refine (markB_nil k w).mono ?_
    rintro e w' ⟨rfl, rfl⟩
    exact ⟨⟨0, by omega, rfl⟩, fun _ _ _ h => h, fun _ _ _ _ _ => rfl, Out.refl _ _ _⟩
  · refine (markB_raw gj nj cj mj k w hnm hk (by omega) r).mono ?_
    rintro e w' ⟨rfl, h1, h2, h3, h4, h5, h6⟩
    refine ⟨⟨nj, hnb, rfl⟩, h1, fun b t n' ht hb => h2 b (hb.apart r ht), ⟨h3, h4, h5, by omega, fun x hx ho => h2 x (by omega)⟩⟩
set_option maxRecDepth 20000 in
set_option maxHeartbeats 1000000 in
theorem markN_raw (lo hi g n cap m k : Nat) (vs : Nat → Value) (w : World) (hn : n ≤ 1048576) (hk : k ≤ 1048576) (hr : NodesRaw w lo hi g n m vs) :
    Calls Try.prog 36 #[.slice (some ⟨g, 0, none⟩) n cap, .int .i64 (k : Int)] w fun e w' => (∃ k' : Nat, e = .returned (.int .i64 (k' : Int)) ∧ k' ≤ k + n * 1048577) ∧ (∀ g' t n', Raw w g' t n' → Raw w' g' t n') ∧ Out lo hi w w' := by
  go_enter Try.func36, Try.ntmps36
  go_wp2
  go_loopw [1, 5] (fun s i wr => ∃ j s' : Nat, j ≤ n ∧ i = .int .i64 j ∧ s = .int .i64 (s' : Int) ∧ s' ≤ k + j * 1048577 ∧ NodesRaw wr lo hi g n m vs ∧ (∀ g' t n', Raw w g' t n' → Raw wr g' t n') ∧ Out lo hi w wr) (fun _ i _ => n - (intOf i).toNat)
  case atStart => exact ⟨0, k, Nat.zero_le _, rfl, rfl, by omega, hr, fun _ _ _ h => h, Out.refl _ _ _⟩
  case round =>
    obtain ⟨j, s', hj, rfl, rfl, hs', hN, hrk, ho⟩ := hrel
    by_cases hlt : j < n
    · have hc0 := hN.sl j hlt
      have HN := hide hN
      have HRK := hide hrk
      have HO := hide ho
      have hsb : s' ≤ 1099512676352 := by
        omega
      have HEL := hide (markB_el lo hi s' (vs j) wr (by omega) (hN.el j hlt))
      have HTN := hide (show (∀ W : World, (∀ g' t n', Raw wr g' t n' → Raw W g' t n') → (∀ b t n', t ≠ 5 → Raw wr b t n' → W.heap[b]? = wr.heap[b]?) → NodesRaw W lo hi g n m vs) from fun W h1 h2 => hN.turn h1 (fun j _ => cell_of_block (h2 g _ _ (by decide) hN.raw)))
      have hsl : ∃ sa sn sc, vs j = .slice sa sn sc := by
        rcases hN.el j hlt with e | ⟨gj, nj, cj, mj, e, _⟩
        · exact ⟨_, _, _, e⟩
        · exact ⟨_, _, _, e⟩
      obtain ⟨sa, sn, sc, esl⟩ := hsl
      rw [esl] at hc0 HEL
      clear hr hN hrk ho esl
      go_wp2_with fail
      refine HEL.out.mono ?_
      rintro e w2 ⟨⟨nn, hnn, rfl⟩, hk1, hk2, ho2⟩
      have hN2 := HTN.out w2 hk1 hk2
      obtain ⟨z, hz⟩ := hN2.raw.cell (j * 2 + 1) (by have := hN2.room; omega)
      have hfz := hN2.raw.frozen (j * 2 + 1)
      have hj2 : j * 1048577 + 1048577 = (j + 1) * 1048577 := by omega
      have HX := hide (show ∀ u : Value, NodesRaw (w2.setCell ⟨g, j * 2 + 1, none⟩ u) lo hi g n m vs ∧ (∀ g' t n', Raw w g' t n' → Raw (w2.setCell ⟨g, j * 2 + 1, none⟩ u) g' t n') ∧ Out lo hi w (w2.setCell ⟨g, j * 2 + 1, none⟩ u) from fun u =>
        ⟨hN2.turn (fun _ _ _ h => h.set _ _ _) (fun i _ => World.cell?_setCell_other _ _ _ _ (by intro e; simp only [Addr.mk.injEq] at e; omega)), fun _ _ _ h => (hk1 _ _ _ (HRK.out _ _ _ h)).set _ _ _, (HO.out.trans ho2).set hN2.low hN2.high⟩)
      clear hN2 hk1 hk2 ho2 HTN HEL HRK HO HN
      go_wp2
      go_roundw
      case rel => exact ⟨j + 1, s' + nn + 1, by omega, by go_num, by go_num, by omega, (HX.out _).1, (HX.out _).2.1, (HX.out _).2.2⟩
      case measure => simp [intOf]; omega
    · obtain rfl : j = n := by omega
      have HF := hide hs'
      clear hs'
      go_wp2
      go_ret
      exact ⟨⟨s', rfl, HF.out⟩, hrk, ho⟩
end Go.Proofs.Ytledlicandlekab
namespace Go.Proofs.Ytledlicandlekab
open Go.RowKit
theorem str_one (W : World) (z : Int) (x : Nat) (h : z = (x : Int)) : (convert 28 9 (.slice (some ⟨W.heap.size, 0, none⟩) 1 1)).run Try.prog (W.alloc (.cells #[.int .u8 z] 5)) = .ok (.string (strB [x])) (W.alloc (.cells #[.int .u8 z] 5)) := by
  subst h
  refine run_string_of _ _ 1 [x] fun _ => ⟨W.heap.size, 0, rfl, fun i hi => ?_⟩
  have hi0 : i = 0 := by simpa using hi
  subst hi0
  rw [cell_of_row _ _ _ _ _ _ (heap_alloc_new W _)]
  rfl
set_option maxRecDepth 20000 in
theorem markText_any (k : Nat) (w : World) (hk : k ≤ 4503599627370496) :
    Calls Try.prog 69 #[.int .i64 (k : Int)] w fun e w' => (∃ s, e = .returned (.string s)) ∧ Below w.heap.size w w' := by
  by_cases h0 : k = 0
  · subst h0
    go_enter Try.func69, Try.ntmps69
    go_wp2
    go_ret
    exact ⟨⟨_, rfl⟩, Below.refl _ _⟩
  · have hpos : ¬ (k : Int) ≤ 0 := by omega
    go_enter Try.func69, Try.ntmps69
    go_wp2
    go_loopw [0, 3] (fun kv ov wr => ∃ (j : Nat) (s : ByteArray), kv = .int .i64 (j : Int) ∧ ov = .string s ∧ s.size + j ≤ k ∧ Below w.heap.size w wr) (fun kv _ _ => (intOf kv).toNat)
    case atStart => exact ⟨k, _, rfl, rfl, by simp [ByteArray.size], Below.refl _ _⟩
    case round =>
      obtain ⟨j, s, rfl, rfl, hs, hb⟩ := hrel
      by_cases hj : 0 < j
      · have hji : (0 : Int) < (j : Int) := by omega
        have hs1 := str_one wr ((48 : Int) + (j : Int) % 10) (48 + j % 10) (by omega)
        have htz : (strB [48 + j % 10]).size = 1 := by simp [strB, ByteArray.size]
        generalize strB [48 + j % 10] = t at hs1 htz
        have HB := hide (hb.alloc hb.size (.cells #[.int .u8 ((48 : Int) + (j : Int) % 10)] 5))
        clear hb
        have HZ := hide (show (t ++ s).size + j / 10 ≤ k by rw [ByteArray.size_append]; omega)
        go_wp2
        go_roundw
        case rel => exact ⟨j / 10, t ++ s, by go_num, rfl, HZ.out, HB.out⟩
        case measure => simp [intOf]; omega
      · obtain rfl : j = 0 := by omega
        go_wp2
        go_ret
        exact ⟨⟨_, rfl⟩, hb⟩
set_option maxRecDepth 20000 in
set_option maxHeartbeats 1000000 in
theorem markE_raw (lo hi g n cap m k : Nat) (w : World) (hn : n ≤ 1048576) (hk : k ≤ 1125899906842624) (hr : Raw w g 58 m) (hm : n * 2 ≤ m) (h1 : lo ≤ g) (h2 : g < hi) :
    Calls Try.prog 37 #[.slice (some ⟨g, 0, none⟩) n cap, .int .i64 (k : Int)] w fun e w' => e = .returned (.int .i64 ((k + 2 * n : Nat) : Int)) ∧ (∀ g' t n', Raw w g' t n' → Raw w' g' t n') ∧ Out lo hi w w' := by
  go_enter Try.func37, Try.ntmps37
  go_wp2
  go_loopw [1, 5] (fun s i wr => ∃ j : Nat, j ≤ n ∧ i = .int .i64 j ∧ s = .int .i64 ((k + 2 * j : Nat) : Int) ∧ (∀ g' t n', Raw w g' t n' → Raw wr g' t n') ∧ Out lo hi w wr) (fun _ i _ => n - (intOf i).toNat)
  case atStart => exact ⟨0, Nat.zero_le _, rfl, rfl, fun _ _ _ h => h, Out.refl _ _ _⟩
  case round =>
    obtain ⟨j, hj, rfl, rfl, hrk, ho⟩ := hrel
    by_cases hlt : j < n
    · obtain ⟨s', hs'⟩ : ∃ s', s' = k + 2 * j := ⟨_, rfl⟩
      rw [← hs']
      have hb' : s' ≤ 4503599627370000 := by omega
      have HRK := hide hrk
      have HO := hide ho
      have HJ := hide hs'
      clear hrk ho hs'
      go_wp2_with fail
      refine (markText_any s' wr (by omega)).mono ?_
      rintro e w2 ⟨⟨t, rfl⟩, hb2⟩
      have hraw2 := ((HRK.out g _ m hr).of_eq (hb2.block g (HRK.out g _ m hr).lt))
      have HRK2 := hide (fun g' t' n' (h : Raw w g' t' n') => ((HRK.out g' t' n' h).of_eq (hb2.block g' (HRK.out g' t' n' h).lt)))
      have HO2 := hide (HO.out.andThen hb2 HO.out.size)
      obtain ⟨z0, hz0⟩ := hraw2.cell (j * 2) (by omega)
      obtain ⟨z1, hz1⟩ := hraw2.cell (j * 2 + 1) (by omega)
      have hf0 := hraw2.frozen (j * 2)
      have hf1 := hraw2.frozen (j * 2 + 1)
      have HX := hide (show ∀ u v : Value, (∀ g' t' n', Raw w g' t' n' → Raw ((w2.setCell ⟨g, j * 2, none⟩ u).setCell ⟨g, j * 2 + 1, none⟩ v) g' t' n') ∧ Out lo hi w ((w2.setCell ⟨g, j * 2, none⟩ u).setCell ⟨g, j * 2 + 1, none⟩ v) from fun u v =>
        ⟨fun _ _ _ h => ((HRK2.out _ _ _ h).set _ _ _).set _ _ _, (HO2.out.set h1 h2).set h1 h2⟩)
      clear hraw2 hb2 HRK HO HRK2 HO2
      go_wp2
      go_roundw
      case rel => exact ⟨j + 1, by omega, by go_num, by rw [show k + 2 * (j + 1) = s' + 1 + 1 from by have := HJ.out; omega]; go_num, (HX.out _ _).1, (HX.out _ _).2⟩
      case measure => simp [intOf]; omega
    · obtain rfl : j = n := by omega
      have HO := hide ho
      have HRK := hide hrk
      clear ho hrk
      go_wp2
      go_ret
      exact ⟨rfl, HRK.out, HO.out⟩
end Go.Proofs.Ytledlicandlekab
namespace Go.Proofs.Ytledlicandlekab
open Go.RowKit
set_option maxRecDepth 20000 in
set_option maxHeartbeats 1000000 in
theorem markO_raw (lo hi g n cap m k : Nat) (w : World) (hn : n ≤ 1048576) (hk : k ≤ 1125899906842624) (hr : Raw w g 74 m) (hm : n * 4 ≤ m) (h1 : lo ≤ g) (h2 : g < hi) :
    Calls Try.prog 38 #[.slice (some ⟨g, 0, none⟩) n cap, .int .i64 (k : Int)] w fun e w' => e = .returned (.int .i64 ((k + 4 * n : Nat) : Int)) ∧ (∀ g' t n', Raw w g' t n' → Raw w' g' t n') ∧ Out lo hi w w' := by
  go_enter Try.func38, Try.ntmps38
  go_wp2
  go_loopw [1, 5] (fun s i wr => ∃ j : Nat, j ≤ n ∧ i = .int .i64 j ∧ s = .int .i64 ((k + 4 * j : Nat) : Int) ∧ (∀ g' t n', Raw w g' t n' → Raw wr g' t n') ∧ Out lo hi w wr) (fun _ i _ => n - (intOf i).toNat)
  case atStart => exact ⟨0, Nat.zero_le _, rfl, rfl, fun _ _ _ h => h, Out.refl _ _ _⟩
  case round =>
    obtain ⟨j, hj, rfl, rfl, hrk, ho⟩ := hrel
    by_cases hlt : j < n
    · obtain ⟨s', hs'⟩ : ∃ s', s' = k + 4 * j := ⟨_, rfl⟩
      rw [← hs']
      have hb' : s' ≤ 4503599627370000 := by omega
      have HJ := hide hs'
      have hraw := hrk g _ m hr
      obtain ⟨z0, hz0⟩ := hraw.cell (j * 4) (by omega)
      have hf0 := hraw.frozen (j * 4)
      have HRK := hide (show ∀ u : Value, ∀ g' t' n', Raw w g' t' n' → Raw (wr.setCell ⟨g, j * 4, none⟩ u) g' t' n' from fun u _ _ _ h => (hrk _ _ _ h).set _ _ _)
      have HO := hide (show ∀ u : Value, Out lo hi w (wr.setCell ⟨g, j * 4, none⟩ u) from fun u => ho.set h1 h2)
      clear hrk ho hs' hraw
      go_wp2_with fail
      replace HRK := hide (HRK.out (.int .i64 (s' : Int)))
      replace HO := hide (HO.out (.int .i64 (s' : Int)))
      generalize wr.setCell ⟨g, j * 4, none⟩ (.int .i64 (s' : Int)) = w1 at HRK HO ⊢
      have e1 : ((s' : Int) + 1) = ((s' + 1 : Nat) : Int) := by omega
      rw [e1]
      clear e1
      obtain ⟨s1, hs1⟩ : ∃ s1, s1 = s' + 1 := ⟨_, rfl⟩
      rw [← hs1]
      have hb1 : s1 ≤ 4503599627370001 := by omega
      have HJ1 := hide hs1
      clear hs1
      refine (markText_any s1 w1 (by omega)).mono ?_
      rintro e w2 ⟨⟨t, rfl⟩, hb2⟩
      have hraw2 := ((HRK.out g _ m hr).of_eq (hb2.block g (HRK.out g _ m hr).lt))
      have HRK2 := hide (fun (u : Value) g' t' n' (h : Raw w g' t' n') => ((HRK.out g' t' n' h).of_eq (hb2.block g' (HRK.out g' t' n' h).lt)).set g (j * 4 + 1) u)
      have HO2 := hide (fun (u : Value) => (HO.out.andThen hb2 HO.out.size).set (j := j * 4 + 1) (u := u) h1 h2)
      obtain ⟨z1, hz1⟩ := hraw2.cell (j * 4 + 1) (by omega)
      have hf1 := hraw2.frozen (j * 4 + 1)
      clear hraw2 hb2 HRK HO hz0 hf0
      go_wp2_with fail
      replace HRK2 := hide (HRK2.out (.string t))
      replace HO2 := hide (HO2.out (.string t))
      generalize w2.setCell ⟨g, j * 4 + 1, none⟩ (.string t) = w3 at HRK2 HO2 ⊢
      have e2 : ((s1 : Int) + 1) = ((s1 + 1 : Nat) : Int) := by omega
      rw [e2]
      clear e2
      obtain ⟨s2, hs2⟩ : ∃ s2, s2 = s1 + 1 := ⟨_, rfl⟩
      rw [← hs2]
      have hb3 : s2 ≤ 4503599627370002 := by omega
      have HJ2 := hide hs2
      clear hs2 hz1 hf1
      refine (markText_any s2 w3 (by omega)).mono ?_
      rintro e w4 ⟨⟨t4, rfl⟩, hb4⟩
      have hraw4 := ((HRK2.out g _ m hr).of_eq (hb4.block g (HRK2.out g _ m hr).lt))
      have HX := hide (show ∀ u v : Value, (∀ g' t' n', Raw w g' t' n' → Raw ((w4.setCell ⟨g, j * 4 + 2, none⟩ u).setCell ⟨g, j * 4 + 3, none⟩ v) g' t' n') ∧ Out lo hi w ((w4.setCell ⟨g, j * 4 + 2, none⟩ u).setCell ⟨g, j * 4 + 3, none⟩ v) from fun u v =>
        ⟨fun g' t' n' h => (((HRK2.out g' t' n' h).of_eq (hb4.block g' (HRK2.out g' t' n' h).lt)).set _ _ _).set _ _ _, ((HO2.out.andThen hb4 HO2.out.size).set h1 h2).set h1 h2⟩)
      obtain ⟨z2, hz2⟩ := hraw4.cell (j * 4 + 2) (by omega)
      obtain ⟨z3, hz3⟩ := hraw4.cell (j * 4 + 3) (by omega)
      have hf2 := hraw4.frozen (j * 4 + 2)
      have hf3 := hraw4.frozen (j * 4 + 3)
      clear hraw4 hb4 HRK2 HO2
      go_wp2
      go_roundw
      case rel => exact ⟨j + 1, by omega, by go_num, by rw [show k + 4 * (j + 1) = s2 + 1 + 1 from by have := HJ.out; have := HJ1.out; have := HJ2.out; omega]; go_num, (HX.out _ _).1, (HX.out _ _).2⟩
      case measure => simp [intOf]; omega
    · obtain rfl : j = n := by omega
      have HO := hide ho
      have HRK := hide hrk
      clear ho hrk
      go_wp2
      go_ret
      exact ⟨rfl, HRK.out, HO.out⟩
theorem markN_nil (k : Nat) (w : World) : Calls Try.prog 36 #[.slice none 0 0, .int .i64 (k : Int)] w fun e w' => e = .returned (.int .i64 (k : Int)) ∧ w' = w := by
  go_enter Try.func36, Try.ntmps36
  go_wp2
  go_loopw [1, 5] (fun s i wr => i = .int .i64 0 ∧ s = .int .i64 (k : Int) ∧ wr = w) (fun _ _ _ => 0)
  case atStart => exact ⟨rfl, rfl, rfl⟩
  case round =>
    obtain ⟨rfl, rfl, rfl⟩ := hrel
    go_wp2
    go_ret
    exact ⟨rfl, rfl⟩
theorem markE_nil (k : Nat) (w : World) : Calls Try.prog 37 #[.slice none 0 0, .int .i64 (k : Int)] w fun e w' => e = .returned (.int .i64 (k : Int)) ∧ w' = w := by
  go_enter Try.func37, Try.ntmps37
  go_wp2
  go_loopw [1, 5] (fun s i wr => i = .int .i64 0 ∧ s = .int .i64 (k : Int) ∧ wr = w) (fun _ _ _ => 0)
  case atStart => exact ⟨rfl, rfl, rfl⟩
  case round =>
    obtain ⟨rfl, rfl, rfl⟩ := hrel
    go_wp2
    go_ret
    exact ⟨rfl, rfl⟩
theorem markO_nil (k : Nat) (w : World) : Calls Try.prog 38 #[.slice none 0 0, .int .i64 (k : Int)] w fun e w' => e = .returned (.int .i64 (k : Int)) ∧ w' = w := by
  go_enter Try.func38, Try.ntmps38
  go_wp2
  go_loopw [1, 5] (fun s i wr => i = .int .i64 0 ∧ s = .int .i64 (k : Int) ∧ wr = w) (fun _ _ _ => 0)
  case atStart => exact ⟨rfl, rfl, rfl⟩
  case round =>
    obtain ⟨rfl, rfl, rfl⟩ := hrel
    go_wp2
    go_ret
    exact ⟨rfl, rfl⟩
end Go.Proofs.Ytledlicandlekab
namespace Go.Proofs.Ytledlicandlekab
open Go.RowKit
def Kept (w w' : World) : Prop := ∀ g t n, Raw w g t n → Raw w' g t n
def SlRaw (w : World) (lo hi : Nat) (t : TypeId) (sz : Nat) (v : Value) : Prop := v = .slice none 0 0 ∨ ∃ g n cap m, v = .slice (some ⟨g, 0, none⟩) n cap ∧ Raw w g t m ∧ n * sz ≤ m ∧ lo ≤ g ∧ g < hi ∧ n ≤ 1048576
def NdRaw (w : World) (lo hi : Nat) (v : Value) : Prop := v = .slice none 0 0 ∨ ∃ g n cap m vs, v = .slice (some ⟨g, 0, none⟩) n cap ∧ NodesRaw w lo hi g n m vs ∧ n ≤ 1048576
theorem SlRaw.turn {w w' : World} {lo hi sz : Nat} {t : TypeId} {v : Value} (h : SlRaw w lo hi t sz v) (hk : Kept w w') : SlRaw w' lo hi t sz v := by
  rcases h with rfl | ⟨g, n, cap, m, e, r, rest⟩
  · exact .inl rfl
  · exact .inr ⟨g, n, cap, m, e, hk _ _ _ r, rest⟩
theorem NdRaw.below {w w' : World} {lo hi : Nat} {v : Value} (h : NdRaw w lo hi v) (hb : Below w.heap.size w w') : NdRaw w' lo hi v := by
  rcases h with rfl | ⟨g, n, cap, m, vs, e, r, rest⟩
  · exact .inl rfl
  · exact .inr ⟨g, n, cap, m, vs, e, r.turn (fun _ _ _ h => h.of_eq (hb.block _ h.lt)) (fun j _ => cell_of_block (hb.block _ r.raw.lt)), rest⟩
theorem SlRaw.below {w w' : World} {lo hi sz : Nat} {t : TypeId} {v : Value} (h : SlRaw w lo hi t sz v) (hb : Below w.heap.size w w') : SlRaw w' lo hi t sz v := h.turn (fun _ _ _ h => h.of_eq (hb.block _ h.lt))
theorem markN_el (lo hi k : Nat) (v : Value) (w : World) (hk : k ≤ 1048576) (h : NdRaw w lo hi v) :
    Calls Try.prog 36 #[v, .int .i64 (k : Int)] w fun e w' => (∃ k' : Nat, e = .returned (.int .i64 (k' : Int)) ∧ k' ≤ k + 1099512676352) ∧ Kept w w' ∧ Out lo hi w w' := by
  rcases h with rfl | ⟨g, n, cap, m, vs, rfl, r, hn⟩
  · refine (markN_nil k w).mono ?_
    rintro e w' ⟨rfl, rfl⟩
    exact ⟨⟨k, rfl, by omega⟩, fun _ _ _ h => h, Out.refl _ _ _⟩
  · refine (markN_raw lo hi g n cap m k vs w hn hk r).mono ?_
    rintro e w' ⟨⟨k', rfl, hk'⟩, h1, h2⟩
    exact ⟨⟨k', rfl, by omega⟩, h1, h2⟩
theorem markE_el (lo hi k : Nat) (v : Value) (w : World) (hk : k ≤ 1125899906842624) (h : SlRaw w lo hi 58 2 v) :
    Calls Try.prog 37 #[v, .int .i64 (k : Int)] w fun e w' => (∃ k' : Nat, e = .returned (.int .i64 (k' : Int)) ∧ k' ≤ k + 2097152) ∧ Kept w w' ∧ Out lo hi w w' := by
  rcases h with rfl | ⟨g, n, cap, m, rfl, r, hm, hl, hh, hn⟩
  · refine (markE_nil k w).mono ?_
    rintro e w' ⟨rfl, rfl⟩
    exact ⟨⟨k, rfl, by omega⟩, fun _ _ _ h => h, Out.refl _ _ _⟩
  · refine (markE_raw lo hi g n cap m k w hn hk r hm hl hh).mono ?_
    rintro e w' ⟨rfl, h1, h2⟩
    exact ⟨⟨_, rfl, by omega⟩, h1, h2⟩
theorem markO_el (lo hi k : Nat) (v : Value) (w : World) (hk : k ≤ 1125899906842624) (h : SlRaw w lo hi 74 4 v) :
    Calls Try.prog 38 #[v, .int .i64 (k : Int)] w fun e w' => (∃ k' : Nat, e = .returned (.int .i64 (k' : Int)) ∧ k' ≤ k + 4194304) ∧ Kept w w' ∧ Out lo hi w w' := by
  rcases h with rfl | ⟨g, n, cap, m, rfl, r, hm, hl, hh, hn⟩
  · refine (markO_nil k w).mono ?_
    rintro e w' ⟨rfl, rfl⟩
    exact ⟨⟨k, rfl, by omega⟩, fun _ _ _ h => h, Out.refl _ _ _⟩
  · refine (markO_raw lo hi g n cap m k w hn hk r hm hl hh).mono ?_
    rintro e w' ⟨rfl, h1, h2⟩
    exact ⟨⟨_, rfl, by omega⟩, h1, h2⟩
/-- A disk, whatever it holds, all in blocks of [lo, hi). -/
structure DiskRaw (w : World) (lo hi : Nat) (v : Value) : Prop where
  ex : ∃ a1 m1 c1 a2 m2 c2 a3 m3 c3 a4 m4 c4 q, v = .agg #[.slice a1 m1 c1, .slice a2 m2 c2, .slice a3 m3 c3, .slice a4 m4 c4, .int .i64 q] ∧ NdRaw w lo hi (.slice a1 m1 c1) ∧ SlRaw w lo hi 58 2 (.slice a2 m2 c2) ∧ SlRaw w lo hi 58 2 (.slice a3 m3 c3) ∧ SlRaw w lo hi 74 4 (.slice a4 m4 c4)
theorem DiskRaw.below {w w' : World} {lo hi : Nat} {v : Value} (h : DiskRaw w lo hi v) (hb : Below w.heap.size w w') : DiskRaw w' lo hi v := by
  obtain ⟨a1, m1, c1, a2, m2, c2, a3, m3, c3, a4, m4, c4, q, e, r1, r2, r3, r4⟩ := h.ex
  exact ⟨a1, m1, c1, a2, m2, c2, a3, m3, c3, a4, m4, c4, q, e, r1.below hb, r2.below hb, r3.below hb, r4.below hb⟩
theorem ownB_el {w : World} {base : Nat} {v : Value} {l : List Nat} (h : OwnB w base v l) (hl : l.length ≤ 1048576) : ElOk w base w.heap.size v := by
  rcases h.2 with ⟨hv, hn⟩ | ⟨g, cap, cur, hv, hb, hg, hnc, hcm, hcs, hx⟩
  · exact .inl hv
  · exact .inr ⟨g, l.length, cap, cur.size, hv, ⟨cur, hg, rfl⟩, by omega, hb, lt_of_block hg, hl⟩
theorem ownE_sl {w : World} {base : Nat} {v : Value} {es : List (ByteArray × Int)} (h : OwnE w base v es) (hl : es.length ≤ 1048576) : SlRaw w base w.heap.size 58 2 v := by
  rcases h.2 with ⟨hv, hn⟩ | ⟨g, cap, cur, hv, hb, hg, hnc, hcm, hcs, hx⟩
  · exact .inl hv
  · rw [List.length_map] at hv hnc
    exact .inr ⟨g, es.length, cap, cur.size, hv, ⟨cur, hg, rfl⟩, by rw [hcs]; exact Nat.mul_le_mul_right _ hnc, hb, lt_of_block hg, hl⟩
theorem ownO_sl {w : World} {base : Nat} {v : Value} {es : List (Int × ByteArray × ByteArray × Int)} (h : OwnO w base v es) (hl : es.length ≤ 1048576) : SlRaw w base w.heap.size 74 4 v := by
  rcases h.2 with ⟨hv, hn⟩ | ⟨g, cap, cur, hv, hb, hg, hnc, hcm, hcs, hx⟩
  · exact .inl hv
  · rw [List.length_map] at hv hnc
    exact .inr ⟨g, es.length, cap, cur.size, hv, ⟨cur, hg, rfl⟩, by rw [hcs]; exact Nat.mul_le_mul_right _ hnc, hb, lt_of_block hg, hl⟩
theorem ownN_nd {w : World} {base : Nat} {v : Value} {ns : List (List Nat × Int)} (h : OwnN w base v ns) (hl : ns.length ≤ 1048576) (hls : ∀ e ∈ ns, e.1.length ≤ 1048576) : NdRaw w base w.heap.size v := by
  obtain ⟨vs, hlen, h2, hi⟩ := h
  have h2' := h2
  rcases h2.2 with ⟨hv, hn⟩ | ⟨g, cap, cur, hv, hb, hg, hnc, hcm, hcs, hx⟩
  · exact .inl hv
  · refine .inr ⟨g, ns.length, cap, cur.size, fun j => (vs.getD j (.slice none 0 0, .slice none 0 0)).1, by rw [hv, hlen], ⟨⟨cur, hg, rfl⟩, by rw [hcs]; exact Nat.mul_le_mul_right _ (by omega), hb, lt_of_block hg, fun j hj => ?_, fun j hj => ?_⟩, hl⟩
    · rw [hv] at h2'
      have := (Own2.cells h2' j (by omega)).1
      rw [this]
      simp [List.getD, show j < vs.length by omega]
    · obtain ⟨x, hx1, hx2⟩ := hi j hj
      have e : (vs.getD j (.slice none 0 0, .slice none 0 0)).1 = x := by simp [List.getD, hx1]
      rw [e]
      exact ownB_el hx2 (hls _ (List.getElem_mem hj))
theorem ownD_raw {w : World} {base : Nat} {v : Value} {D : MDisk} (h : OwnD w base v D) (hM : Modest D) : DiskRaw w base w.heap.size v := by
  obtain ⟨v1, v2, v3, v4, rfl, h1, h2, h3, h4⟩ := h
  have r1 := ownN_nd h1 hM.n1 (fun e he => by have := node_le D.nodes e he; have := hM.sum; omega)
  have r2 := ownE_sl h2 hM.n2
  have r3 := ownE_sl h3 hM.n3
  have r4 := ownO_sl h4 hM.n4
  obtain ⟨a1, c1, rfl⟩ := h1.slice
  obtain ⟨a2, c2, rfl⟩ := h2.slice
  obtain ⟨a3, c3, rfl⟩ := h3.slice
  obtain ⟨a4, c4, rfl⟩ := h4.slice
  exact ⟨_, _, _, _, _, _, _, _, _, _, _, _, _, rfl, r1, r2, r3, r4⟩
set_option maxRecDepth 20000 in
set_option maxHeartbeats 1000000 in
theorem markDisk_raw (lo hi : Nat) (v : Value) (w : World) (hhi : hi ≤ w.heap.size) (h : DiskRaw w lo hi v) :
    Calls Try.prog 11 #[v, .int .i64 1] w fun e w' => (∃ k' : Nat, e = .returned (.int .i64 (k' : Int))) ∧ Out lo hi w w' := by
  obtain ⟨a1, m1, c1, a2, m2, c2, a3, m3, c3, a4, m4, c4, q, rfl, r1, r2, r3, r4⟩ := h.ex
  have hA := (Below.refl w.heap.size w).alloc (Nat.le_refl _) (.cells #[.slice a1 m1 c1, .slice a2 m2 c2, .slice a3 m3 c3, .slice a4 m4 c4, .int .i64 q] 36)
  have L0 := Laid.new w #[.slice a1 m1 c1, .slice a2 m2 c2, .slice a3 m3 c3, .slice a4 m4 c4, .int .i64 q] 36
  have HN := hide (markN_el lo hi 1 _ _ (by omega) (r1.below hA))
  have HO0 := hide (show Out lo hi w _ from Out.of_below hA)
  have HE2 := hide (r2.below hA)
  have HE3 := hide (r3.below hA)
  have HE4 := hide (r4.below hA)
  clear h r1 r2 r3 r4
  go_enter Try.func11, Try.ntmps11
  go_wp2_with fail
  generalize w.alloc (.cells #[.slice a1 m1 c1, .slice a2 m2 c2, .slice a3 m3 c3, .slice a4 m4 c4, .int .i64 q] 36) = w0 at hA L0 HN HO0 HE2 HE3 HE4 ⊢
  refine HN.out.mono ?_
  rintro e w1 ⟨⟨k1, rfl, hk1⟩, hkp1, ho1⟩
  have L1 : Laid w1 w.heap.size #[.slice a1 m1 c1, .slice a2 m2 c2, .slice a3 m3 c3, .slice a4 m4 c4, .int .i64 q] 36 := (ho1.block w.heap.size L0.lt (.inr hhi)).trans L0
  have t1 : w1.cell? ⟨w.heap.size, 1, none⟩ = some (.slice a2 m2 c2) := L1.cell 1
  have HM := hide (markE_el lo hi k1 _ w1 (by omega) (HE2.out.turn hkp1))
  replace HE3 := hide (HE3.out.turn hkp1)
  replace HE4 := hide (HE4.out.turn hkp1)
  replace HO0 := hide (HO0.out.trans ho1)
  clear HN HE2 hkp1 ho1 L0 hA
  go_wp2_with fail
  refine HM.out.mono ?_
  rintro e w2 ⟨⟨k2, rfl, hk2⟩, hkp2, ho2⟩
  have L2 : Laid w2 w.heap.size #[.slice a1 m1 c1, .slice a2 m2 c2, .slice a3 m3 c3, .slice a4 m4 c4, .int .i64 q] 36 := (ho2.block w.heap.size L1.lt (.inr hhi)).trans L1
  have t2 : w2.cell? ⟨w.heap.size, 2, none⟩ = some (.slice a3 m3 c3) := L2.cell 2
  replace HM := hide (markE_el lo hi k2 _ w2 (by omega) (HE3.out.turn hkp2))
  replace HE4 := hide (HE4.out.turn hkp2)
  replace HO0 := hide (HO0.out.trans ho2)
  clear HE3 hkp2 ho2 L1 t1
  go_wp2_with fail
  refine HM.out.mono ?_
  rintro e w3 ⟨⟨k3, rfl, hk3⟩, hkp3, ho3⟩
  have L3 : Laid w3 w.heap.size #[.slice a1 m1 c1, .slice a2 m2 c2, .slice a3 m3 c3, .slice a4 m4 c4, .int .i64 q] 36 := (ho3.block w.heap.size L2.lt (.inr hhi)).trans L2
  have t3 : w3.cell? ⟨w.heap.size, 3, none⟩ = some (.slice a4 m4 c4) := L3.cell 3
  replace HM := hide (markO_el lo hi k3 _ w3 (by omega) (HE4.out.turn hkp3))
  replace HO0 := hide (HO0.out.trans ho3)
  clear HE4 hkp3 ho3 L2 t2 L3
  go_wp2_with fail
  refine HM.out.mono ?_
  rintro e w4 ⟨⟨k4, rfl, hk4⟩, hkp4, ho4⟩
  replace HO0 := hide (HO0.out.trans ho4)
  clear hkp4 ho4 t3 HM
  go_wp2
  go_ret
  exact ⟨⟨k4, rfl⟩, HO0.out⟩
end Go.Proofs.Ytledlicandlekab
