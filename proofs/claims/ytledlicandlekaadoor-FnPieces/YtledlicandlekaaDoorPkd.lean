import Derived.Test.YtledlicandlekaaDoorPka
import Derived.Test.YtledlicandlekaaDoorPkb
import Derived.Test.YtledlicandlekaaDoorShelf
import Derived.Test.YtledlicandlekaaDoorPkc
import Derived.Test.YtledlicandlekaaDoorShelfB
import Derived.Laws.CopyOwn
import Derived.Laws.ResultCell
import Derived.Deep.RegionWith
namespace Go.Proofs.YtledlicandlekaaDoor
open Go.RowKit
def intsOf (d : List Nat) : List Int := d.map fun (x : Nat) => (x : Int)
theorem intsOf_len (d : List Nat) : (intsOf d).length = d.length := by unfold intsOf; rw [List.length_map]
theorem bytes_intsOf (d : List Nat) : Lib.bytesOf (intsOf d) = d.map UInt8.ofNat := by
  unfold Lib.bytesOf intsOf
  rw [List.map_map]
  exact List.map_congr_left fun x _ => by simp
theorem Tx.bytesIn {w : World} {b off : Nat} {d : List Nat} (h : Tx w b off d) : Lib.BytesIn w (some ⟨b, off, none⟩) d.length (intsOf d) := fun _ => ⟨b, off, rfl, fun i hi => by
  rw [h i hi, List.getD_eq_getElem?_getD, intsOf, List.getElem?_map, List.getElem?_eq_getElem hi]
  rfl⟩
theorem two_bytes {w : World} {g : Nat} (h0 : w.cell? ⟨g, 0, none⟩ = some (.int .u8 13)) (h1 : w.cell? ⟨g, 1, none⟩ = some (.int .u8 10)) : Lib.BytesIn w (some ⟨g, 0, none⟩) 2 [13, 10] := fun _ => ⟨g, 0, rfl, fun i hi => by
  match i, hi with
  | 0, _ => exact h0
  | 1, _ => exact h1
  | i + 2, h => omega⟩
theorem one_byte {w : World} {g : Nat} (h0 : w.cell? ⟨g, 0, none⟩ = some (.int .u8 125)) : Lib.BytesIn w (some ⟨g, 0, none⟩) 1 [125] := fun _ => ⟨g, 0, rfl, fun i hi => by
  obtain rfl : i = 0 := by omega
  exact h0⟩
theorem ofNat_eq {x y : Nat} (hx : x < 256) (hy : y < 256) : (UInt8.ofNat x = UInt8.ofNat y) ↔ x = y := by
  constructor
  · intro h
    have := congrArg UInt8.toNat h
    simp at this
    omega
  · rintro rfl; rfl
/-- Does a text begin with a line's end? -/
def begE (d : List Nat) : Bool := decide (d.head? = some 13 ∧ d.tail.head? = some 10)
theorem pre_end {d : List Nat} (h : ∀ x ∈ d, x < 256) : Lib.hasPrefix (d.map UInt8.ofNat) (Lib.bytesOf [13, 10]) = begE d := by
  match d, h with
  | [], _ => rfl
  | [x], h => simp [Lib.hasPrefix, Lib.bytesOf, begE, List.isPrefixOf]
  | x :: y :: r, h =>
    have hx := ofNat_eq (h x (by simp)) (show 13 < 256 by omega)
    have hy := ofNat_eq (h y (by simp)) (show 10 < 256 by omega)
    have e1 : (13 : UInt8) = UInt8.ofNat 13 := rfl
    have e2 : (10 : UInt8) = UInt8.ofNat 10 := rfl
    simp only [Lib.hasPrefix, Lib.bytesOf, begE, List.map_cons, List.map_nil, List.isPrefixOf, Bool.and_true, List.head?_cons, List.tail_cons, Option.some.injEq]
    rw [Bool.eq_iff_iff]
    simp only [Bool.and_eq_true, beq_iff_eq, decide_eq_true_eq]
    rw [eq_comm, ← hx, eq_comm (b := UInt8.ofNat y), ← hy]
    exact Iff.rfl
theorem suf_end {d : List Nat} (h : ∀ x ∈ d, x < 256) : Lib.hasSuffix (d.map UInt8.ofNat) (Lib.bytesOf [125]) = decide (d.getLast? = some 125) := by
  rw [Bool.eq_iff_iff, decide_eq_true_eq]
  unfold Lib.hasSuffix
  rw [List.isSuffixOf_iff_suffix]
  rcases List.eq_nil_or_concat d with rfl | ⟨l, x, rfl⟩
  · simp [Lib.bytesOf]
  · have hx := ofNat_eq (h x (by simp)) (show 125 < 256 by omega)
    rw [List.concat_eq_append, List.map_append, List.getLast?_append]
    simp only [List.map_cons, List.map_nil, List.getLast?_singleton, Option.some.injEq, Option.some_or]
    rw [← hx, show Lib.bytesOf [125] = [UInt8.ofNat 125] from rfl]
    constructor
    · rintro ⟨t, e⟩
      exact (List.append_inj' e rfl).2 |> fun h => by simpa using h.symm
    · intro e
      exact ⟨_, by rw [e]⟩
theorem index_end : ∀ {d : List Nat}, (∀ x ∈ d, x < 256) → Lib.index (d.map UInt8.ofNat) (Lib.bytesOf [13, 10]) = match findEnd d with | some e => (e : Int) | none => -1
  | [], _ => rfl
  | x :: r, h => by
    have ih := index_end (d := r) (fun y hy => h y (by simp [hy]))
    have hp := pre_end h
    rw [List.map_cons] at hp ⊢
    rw [Lib.index, findEnd]
    unfold Lib.hasPrefix begE at hp
    rw [hp, ih]
    simp only [List.head?_cons, List.tail_cons, Option.some.injEq, decide_eq_true_eq]
    by_cases hc : x = 13 ∧ r.head? = some 10
    · rw [if_pos hc, if_pos hc]; rfl
    · rw [if_neg hc, if_neg hc]
      cases findEnd r with
      | none => rfl
      | some e =>
        simp only [Option.map_some]
        rw [if_neg (by simp)]
        simp
end Go.Proofs.YtledlicandlekaaDoor
namespace Go.Proofs.YtledlicandlekaaDoor
open Go.RowKit
/-- What bytes.Cut at the line's end answers. -/
def cutR (b off c : Nat) (d : List Nat) : Value := match findEnd d with
  | some e => .tuple #[.slice (some ⟨b, off, none⟩) e c, .slice (some ⟨b, if c = e + 2 then off else off + (e + 2), none⟩) (d.length - (e + 2)) (c - (e + 2)), .bool true]
  | none => .tuple #[.slice (some ⟨b, off, none⟩) d.length c, .slice none 0 0, .bool false]
theorem ints_256 {d : List Nat} (h : ∀ x ∈ d, x < 256) : ∀ x ∈ intsOf d, 0 ≤ x ∧ x < 256 := by
  intro x hx
  unfold intsOf at hx
  obtain ⟨y, hy, rfl⟩ := List.mem_map.1 hx
  have := h y hy
  omega
theorem bcut_any (b off c : Nat) (d : List Nat) (g cc : Nat) (w : World) (h256 : ∀ x ∈ d, x < 256) (hd : d.length ≤ 1048576) (hcap : d.length ≤ c) (hT : Tx w b off d) (hm : ∃ m, w.cell? ⟨0, 0, none⟩ = some (.int .i64 m))
    (h0 : w.cell? ⟨g, 0, none⟩ = some (.int .u8 13)) (h1 : w.cell? ⟨g, 1, none⟩ = some (.int .u8 10)) :
    Calls Tryd.prog 43 #[.slice (some ⟨b, off, none⟩) d.length c, .slice (some ⟨g, 0, none⟩) 2 cc] w fun e w' => e = .returned (cutR b off c d) ∧ ∃ q, w' = w.drewN q := by
  obtain ⟨m, hm⟩ := hm
  refine (Tryd.bytes_Cut_all (some ⟨b, off, none⟩) (some ⟨g, 0, none⟩) d.length c 2 cc (intsOf d) [13, 10] m w (intsOf_len d) rfl (ints_256 h256) (by decide) hT.bytesIn (two_bytes h0 h1) (fun h => by cases h) hcap (by omega) (by omega) hm).mono fun e w' ⟨he, hw⟩ => ⟨he.trans ?_, hw⟩
  rw [bytes_intsOf, index_end h256]
  unfold Lib.cutV cutR Lib.fromV
  cases findEnd d with
  | none => rfl
  | some e =>
    simp only []
    rw [if_pos (by omega)]
    simp only [Int.toNat_natCast, Option.map_some, addr_add]
    by_cases hc : c = e + 2
    · rw [if_pos hc, if_pos hc]
    · rw [if_neg hc, if_neg hc]
theorem bsuf_any (b off c : Nat) (r : List Nat) (g cc : Nat) (w : World) (h256 : ∀ x ∈ r, x < 256) (hd : r.length ≤ 1048576) (hcap : r.length ≤ c) (hT : Tx w b off r) (h0 : w.cell? ⟨g, 0, none⟩ = some (.int .u8 125)) :
    Calls Tryd.prog 61 #[.slice (some ⟨b, off, none⟩) r.length c, .slice (some ⟨g, 0, none⟩) 1 cc] w fun e w' => e = .returned (.tuple #[.slice (some ⟨b, off, none⟩) (if r.getLast? = some 125 then r.length - 1 else r.length) c, .bool (decide (r.getLast? = some 125))]) ∧ w' = w := by
  refine (Tryd.bytes_CutSuffix_all (some ⟨b, off, none⟩) (some ⟨g, 0, none⟩) r.length c 1 cc (intsOf r) [125] w (intsOf_len r) rfl hcap (by omega) hT.bytesIn (one_byte h0)).mono fun e w' ⟨he, hw⟩ => ⟨he.trans ?_, hw⟩
  unfold Lib.trimSuffixV Lib.bytesTrimSuffix Lib.sliceTo
  simp only []
  rw [bytes_intsOf, suf_end h256]
  by_cases hl : r.getLast? = some 125
  · simp [hl]
  · simp [hl]
theorem bpre_any (b off c : Nat) (r : List Nat) (g cc : Nat) (w : World) (h256 : ∀ x ∈ r, x < 256) (hcap : r.length ≤ c) (hT : Tx w b off r) (h0 : w.cell? ⟨g, 0, none⟩ = some (.int .u8 13)) (h1 : w.cell? ⟨g, 1, none⟩ = some (.int .u8 10)) :
    Calls Tryd.prog 45 #[.slice (some ⟨b, off, none⟩) r.length c, .slice (some ⟨g, 0, none⟩) 2 cc] w fun e w' => e = .returned (.tuple #[if begE r then .slice (some ⟨b, if c = 2 then off else off + 2, none⟩) (r.length - 2) (c - 2) else .slice (some ⟨b, off, none⟩) r.length c, .bool (begE r)]) ∧ w' = w := by
  refine (Tryd.bytes_CutPrefix_all (some ⟨b, off, none⟩) (some ⟨g, 0, none⟩) r.length c 2 cc (intsOf r) [13, 10] w (intsOf_len r) rfl hcap hT.bytesIn (two_bytes h0 h1)).mono fun e w' ⟨he, hw⟩ => ⟨he.trans ?_, hw⟩
  unfold Lib.trimPrefixV Lib.bytesTrimPrefix Lib.sliceFrom
  simp only []
  rw [bytes_intsOf, pre_end h256]
  cases begE r
  · simp
  · by_cases hc : c = 2
    · simp [hc]
    · simp [hc]
/-- What literalOf answers. -/
def litR (r : Option (Nat × Nat)) : Value := match r with
  | some (n, i) => .tuple #[.int .i64 (i : Int), .int .i64 (n : Int), .bool true]
  | none => .tuple #[.int .i64 0, .int .i64 0, .bool false]
end Go.Proofs.YtledlicandlekaaDoor
namespace Go.Proofs.YtledlicandlekaaDoor
open Go.RowKit
/-- The rows 'ls' lie at 'a'. -/
def RowsAt (w : World) (a : Option Addr) (ls : List (List Nat)) : Prop :=
  0 < ls.length → ∃ b off, a = some ⟨b, off, none⟩ ∧ ∀ i (h : i < ls.length), ∃ ai ci, w.cell? ⟨b, off + i, none⟩ = some (.slice ai ls[i].length ci) ∧ RowAt w ai ls[i]
theorem RowsAt.below {w w' : World} {a : Option Addr} {ls : List (List Nat)} (h : RowsAt w a ls) (hb : Below w.heap.size w w') : RowsAt w' a ls := fun hp => by
  obtain ⟨b, off, rfl, hc⟩ := h hp
  refine ⟨b, off, rfl, fun i hi => ?_⟩
  obtain ⟨ai, ci, hc1, hr⟩ := hc i hi
  exact ⟨ai, ci, by rw [hb.cell (p := ⟨b, off + i, none⟩) (lt_of_cell0 hc1)]; exact hc1, hr.below hb⟩
def sumL : List (List Nat) → Nat
  | [] => 0
  | r :: rs => r.length + sumL rs
theorem sumL_append (a b : List (List Nat)) : sumL (a ++ b) = sumL a + sumL b := by
  induction a with
  | nil => simp [sumL]
  | cons x r ih => simp [sumL, ih]; omega
theorem sumL_take_succ (ls : List (List Nat)) (k : Nat) (h : k < ls.length) : sumL (ls.take (k + 1)) = sumL (ls.take k) + ls[k].length := by
  rw [List.take_succ_eq_append_getElem h, sumL_append]; simp [sumL]
theorem sumL_take_le (ls : List (List Nat)) (k : Nat) : sumL (ls.take k) ≤ sumL ls := by
  have h := sumL_append (ls.take k) (ls.drop k)
  rw [List.take_append_drop] at h; omega
theorem len_le_sum (ls : List (List Nat)) (r : List Nat) (h : r ∈ ls) : r.length ≤ sumL ls := by
  induction ls with
  | nil => cases h
  | cons x t ih =>
    simp only [sumL]
    rcases List.mem_cons.1 h with rfl | h'
    · omega
    · have := ih h'; omega
theorem Tryd.info22 : (Tryd.prog.info? 22).map (fun i => (i.zero, i.size, i.bytes)) = some (some (.slice none 0 0), 1, 24) := by kernel_rfl
/-- v is a slice of the call's own whose elements, vs, are slices of the call's own, each with a row for itself. -/
def OwnBV (w : World) (lo : Nat) (v : Value) (vs : List Value) (ls : List (List Nat)) : Prop :=
  w.ownsRow lo 22 1 v ls.length vs ∧ (∀ i (h : i < ls.length), ∃ x, vs[i]? = some x ∧ OwnB w lo x ls[i]) ∧ vs.Pairwise fun x y => x.ownBlock = none ∨ x.ownBlock ≠ y.ownBlock
def OwnBB (w : World) (lo : Nat) (v : Value) (ls : List (List Nat)) : Prop := ∃ vs : List Value, OwnBV w lo v vs ls
theorem OwnBV.lt {w : World} {lo : Nat} {v : Value} {vs : List Value} {ls : List (List Nat)} (h : OwnBV w lo v vs ls) : ∀ x ∈ vs, ∀ g, x.ownBlock = some g → g < w.heap.size := by
  intro x hx g hg
  obtain ⟨h1, h2, _⟩ := h
  obtain ⟨i, hi, rfl⟩ := List.getElem_of_mem hx
  have hl : vs.length = ls.length := by have := h1.1; omega
  obtain ⟨y, hy, ho⟩ := h2 i (by omega)
  rw [List.getElem?_eq_getElem hi] at hy
  simp only [Option.some.injEq] at hy
  subst hy
  exact (World.ownsRow.lt ho g hg).2
theorem OwnBB.slice {w : World} {base : Nat} {v : Value} {ls : List (List Nat)} (h : OwnBB w base v ls) : ∃ a cap, v = .slice a ls.length cap := by
  obtain ⟨vs, h, _⟩ := h
  rcases h.2 with ⟨rfl, hn⟩ | ⟨g, cap, cur, rfl, _⟩
  · exact ⟨none, 0, by rw [hn]⟩
  · exact ⟨_, cap, rfl⟩
theorem outer_cell {w : World} {base e : Nat} {a : Option Addr} {n cap : Nat} {vs : List Value} (h : w.ownsRow base e 1 (.slice a n cap) n vs) (hp : 0 < n) : ∃ g, a = some ⟨g, 0, none⟩ ∧ ∀ i x, vs[i]? = some x → w.cell? ⟨g, i, none⟩ = some x := by
  rcases h.2 with ⟨_, hn⟩ | ⟨g, cap', cur, h', _⟩
  · omega
  · simp only [Value.slice.injEq, true_and] at h'
    obtain ⟨rfl, rfl⟩ := h'
    refine ⟨g, rfl, fun i x hx => ?_⟩
    have := World.ownsRow.cells h (g := g) rfl i x hx
    rwa [addr_add, Nat.zero_add] at this
theorem OwnBB.rows {w : World} {base : Nat} {a : Option Addr} {n cap : Nat} {ls : List (List Nat)} (h : OwnBB w base (.slice a n cap) ls) : RowsAt w a ls := fun hp => by
  obtain ⟨a', c', e⟩ := h.slice
  simp only [Value.slice.injEq] at e
  obtain ⟨rfl, rfl, rfl⟩ := e
  obtain ⟨vs, h1, h2, _⟩ := h
  obtain ⟨g, rfl, hc⟩ := outer_cell h1 hp
  refine ⟨g, 0, rfl, fun i hi => ?_⟩
  obtain ⟨x, hx, ho⟩ := h2 i hi
  obtain ⟨ai, ci, rfl⟩ := ho.slice
  exact ⟨ai, ci, by rw [Nat.zero_add]; exact hc i _ hx, ho.row⟩
theorem own_keep {w w' : World} {base e n : Nat} {v : Value} {xs : List Value} (h : w.ownsRow base e 1 v n xs) (hk : ∀ g, base ≤ g → g < w.heap.size → w'.heap[g]? = w.heap[g]?) : w'.ownsRow base e 1 v n xs := by
  refine ⟨h.1, ?_⟩
  rcases h.2 with hn | ⟨g, cap, cur, rfl, hbase, hg, rest⟩
  · exact .inl hn
  · exact .inr ⟨g, cap, cur, rfl, hbase, (hk g hbase (lt_of_block hg)).trans hg, rest⟩
theorem OwnBB.keep {w w' : World} {base : Nat} {v : Value} {ls : List (List Nat)} (h : OwnBB w base v ls) (hk : ∀ g, base ≤ g → g < w.heap.size → w'.heap[g]? = w.heap[g]?) : OwnBB w' base v ls := by
  obtain ⟨vs, h1, h2, h3⟩ := h
  refine ⟨vs, own_keep h1 hk, fun i hi => ?_, h3⟩
  obtain ⟨x, hx, ho⟩ := h2 i hi
  exact ⟨x, hx, own_keep ho hk⟩
theorem OwnBB.below {B base : Nat} {w w' : World} {v : Value} {ls : List (List Nat)} (h : OwnBB w base v ls) (hb : Below B w w') (hB : w.heap.size ≤ B) : OwnBB w' base v ls := h.keep fun g _ hg => hb.block g (by omega)
theorem OwnBB.out {lo hi base : Nat} {w w' : World} {v : Value} {ls : List (List Nat)} (h : OwnBB w base v ls) (ho : Out lo hi w w') (hb : hi ≤ base) : OwnBB w' base v ls := h.keep fun g hg hs => ho.block g hs (.inr (by omega))
/-- A row's block is not its list's. -/
theorem inner_ne_outer {w : World} {b1 b2 e1 e2 n1 n2 : Nat} {v x : Value} {xs ys : List Value} (h1 : w.ownsRow b1 e1 1 v n1 xs) (h2 : w.ownsRow b2 e2 1 x n2 ys) (he : e1 ≠ e2) : v.ownBlock = none ∨ v.ownBlock ≠ x.ownBlock := by
  rcases h1.2 with ⟨rfl, _⟩ | ⟨g, cap, cur, rfl, _, hg, _⟩
  · exact .inl rfl
  · refine .inr fun e => ?_
    rcases h2.2 with ⟨rfl, _⟩ | ⟨g', cap', cur', rfl, _, hg', _⟩
    · simp [Value.ownBlock] at e
    · simp only [Value.ownBlock, Option.some.injEq] at e
      subst e
      rw [hg] at hg'
      simp only [Option.some.injEq, Obj.cells.injEq] at hg'
      exact he hg'.2.1
/-- Behind a change of one row. -/
theorem OwnBV.set_row {w w' : World} {base i : Nat} {v x : Value} {ls : List (List Nat)} {l : List Nat} {vs : List Value} (h1 : w.ownsRow base 22 1 v ls.length vs) (h2 : ∀ i (h : i < ls.length), ∃ x, vs[i]? = some x ∧ OwnB w base x ls[i])
    (h3 : vs.Pairwise fun x y => x.ownBlock = none ∨ x.ownBlock ≠ y.ownBlock) (hi : i < ls.length) (hx : vs[i]? = some x) (hox : OwnB w base x ls[i]) (ho : OwnB w' base x l) (hg : w.grownBy w' x.ownBlock) : OwnBV w' base v vs (ls.set i l) := by
  refine ⟨?_, fun j hj => ?_, h3⟩
  · rw [List.length_set]
    exact World.ownsRow.kept h1 hg (inner_ne_outer h1 hox (by decide))
  · by_cases e : i = j
    · subst e
      exact ⟨x, hx, by simpa using ho⟩
    · have hj' : j < ls.length := by simpa using hj
      obtain ⟨y, hy, hoy⟩ := h2 j hj'
      refine ⟨y, hy, ?_⟩
      have e2 : (ls.set i l)[j] = ls[j] := by simp [e]
      rw [e2]
      refine World.ownsRow.kept hoy hg ?_
      have hp := List.pairwise_iff_getElem.1 h3
      have hl : vs.length = ls.length := by have := h1.1; omega
      have ei : vs[i]'(by omega) = x := by rw [List.getElem?_eq_getElem (by omega)] at hx; simpa using hx
      have ej : vs[j]'(by omega) = y := by rw [List.getElem?_eq_getElem (by omega)] at hy; simpa using hy
      rcases Nat.lt_or_gt_of_ne e with h | h
      · have := hp i j (by omega) (by omega) h
        rw [ei, ej] at this
        rcases this with h' | h'
        · rw [h']; cases hb : y.ownBlock
          · exact .inl rfl
          · exact .inr (by simp)
        · exact .inr (fun e => h' e.symm)
      · have := hp j i (by omega) (by omega) h
        rw [ei, ej] at this
        exact this
theorem OwnBV.below {B base : Nat} {w w' : World} {v : Value} {vs : List Value} {ls : List (List Nat)} (h : OwnBV w base v vs ls) (hb : Below B w w') (hB : w.heap.size ≤ B) : OwnBV w' base v vs ls := by
  obtain ⟨h1, h2, h3⟩ := h
  have hk : ∀ g, base ≤ g → g < w.heap.size → w'.heap[g]? = w.heap[g]? := fun g _ hg => hb.block g (by omega)
  refine ⟨own_keep h1 hk, fun i hi => ?_, h3⟩
  obtain ⟨x, hx, ho⟩ := h2 i hi
  exact ⟨x, hx, own_keep ho hk⟩
theorem drew_more {w wr : World} (h : ∃ n, wr = w.drewN n) (m : Nat) : ∃ n, wr.drewN m = w.drewN n := by obtain ⟨n, rfl⟩ := h; exact ⟨n + m, World.drewN_drewN _ _ _⟩
theorem RowAt.drew {w : World} {a : Option Addr} {l : List Nat} (h : RowAt w a l) (n : Nat) : RowAt (w.drewN n) a l := h
theorem RowsAt.drew {w : World} {a : Option Addr} {ls : List (List Nat)} (h : RowsAt w a ls) (n : Nat) : RowsAt (w.drewN n) a ls := h
theorem take_eq_succ {l m : List Nat} {k : Nat} (h1 : k < l.length) (h2 : k < m.length) (h : l.take k = m.take k) (he : l[k] = m[k]) : l.take (k + 1) = m.take (k + 1) := by
  rw [List.take_succ_eq_append_getElem h1, List.take_succ_eq_append_getElem h2, h, he]
theorem ne_of_at {l m : List Nat} {k : Nat} (h1 : k < l.length) (h2 : k < m.length) (he : ¬ l[k] = m[k]) : ¬ l = m := fun h => he (by subst h; rfl)
end Go.Proofs.YtledlicandlekaaDoor
namespace Go.Proofs.YtledlicandlekaaDoor
open Go.RowKit
theorem own_of_block {w : World} {B g : Nat} {l : List Nat} (hB : B ≤ g) (hl : l.length ≤ maxLen) (h : w.heap[g]? = some (.cells (l.map bv).toArray 5 (0, 0))) : OwnB w B (.slice (some ⟨g, 0, none⟩) l.length l.length) l :=
  ⟨by simp, .inr ⟨g, l.length, (l.map bv).toArray, rfl, hB, h, Nat.le_refl _, hl, by simp, by rw [List.take_of_length_le (by simp)]⟩⟩
theorem block_of_own {w : World} {B g : Nat} {l : List Nat} (h : OwnB w B (.slice (some ⟨g, 0, none⟩) l.length l.length) l) : w.heap[g]? = some (.cells (l.map bv).toArray 5 (0, 0)) := by
  rcases h.2 with ⟨h', _⟩ | ⟨g', cap', cur, h', _, hg, _, _, hs, htake⟩
  · simp at h'
  · simp only [Value.slice.injEq, Option.some.injEq, Addr.mk.injEq, and_true, true_and] at h'
    obtain ⟨rfl, rfl⟩ := h'
    have : cur = (l.map bv).toArray := by
      apply Array.toList_inj.1
      rw [← htake, List.take_of_length_le (by simp [hs])]
    rw [← this]; exact hg
theorem Tryd.size5 : (Tryd.prog.info? 5).map (·.size) = some 1 := by kernel_rfl
/-- copy onto a whole row of the call's own. -/
theorem wpList_copy_bytes {ops : Array Oper} {rest : List Oper} {o : Oper} {act : Act} {Q : Exit → Act → World → Prop} (w : World) (hgd : o.guard = none) (d s : Operand)
    (ho : o.op = .call { callee := .builtin .copy, args := #[d, s], argTypes := #[22, 22] }) (B g : Nat) (w0 : World) (l0 l : List Nat) (a : Option Addr) (cap : Nat)
    (hd : act.eval d = .slice (some ⟨g, 0, none⟩) l.length l.length) (hs : act.eval s = .slice a l.length cap) (hb : Below B w0 w) (hBg : B ≤ g) (hlen : l0.length = l.length) (hl : l.length ≤ 1099511627776)
    (hown : OwnB w B (.slice (some ⟨g, 0, none⟩) l0.length l0.length) l0) (hr : RowAt w a l)
    (h : ∀ w', OwnB w' B (.slice (some ⟨g, 0, none⟩) l.length l.length) l → Below B w0 w' → wpList Tryd.prog ops Q rest (act.put o.dst (goInt l.length)) w') : wpList Tryd.prog ops Q (o :: rest) act w := by
  refine wpList_copy_splice hgd d s 22 22 ho 5 Tryd.underlying22 Tryd.size5 (some ⟨g, 0, none⟩) a l.length l.length l.length cap hd hs g 0 (l0.map bv) 5 ?_ (l.map bv) (by simp) ?_ (by simp; omega) ?_ B w0 hb hBg ?_
  · exact block_of_own hown
  · intro h0
    refine ⟨rfl, ?_⟩
    obtain ⟨b, off, rfl, hc⟩ := hr (by simpa using h0)
    refine ⟨_, rfl, fun j v hj => ?_⟩
    have hjl : j < l.length := by
      rcases Nat.lt_or_ge j l.length with h' | h'
      · exact h'
      · simp [List.getElem?_eq_none h'] at hj
    rw [addr_add, hc j hjl]
    simp [hjl, bv] at hj
    rw [hj]
  · intro u hu
    simp only [List.mem_map] at hu
    obtain ⟨y, _, rfl⟩ := hu
    rfl
  · intro w' hw' hb'
    rw [List.length_map]
    refine h w' (own_of_block hBg (by unfold maxLen; omega) ?_) hb'
    have h := hw'.out
    rw [show splice (l0.map bv) 0 (l.map bv) = l.map bv from by simp [splice, hlen]] at h
    exact h
theorem l1Bytes_any (a : Option Addr) (cap : Nat) (l : List Nat) (w : World) (hl : l.length ≤ 1048576) (hr : RowAt w a l) :
    Calls Tryd.prog 22 #[.slice a l.length cap] w fun e w' => e = .returned (.slice (some ⟨w.heap.size, 0, none⟩) l.length l.length) ∧ OwnB w' w.heap.size (.slice (some ⟨w.heap.size, 0, none⟩) l.length l.length) l ∧ Below w.heap.size w w' := by
  go_enter Tryd.func22, Tryd.ntmps22
  go_wp2_with (first | (at_make; refine wpList_make_bytes _ rfl _ _ rfl l.length rfl rfl (by omega) ?_; intro w1 hown hbel) | (have _t := hbel; refine wpList_copy_bytes w1 rfl (.tmp 7) (.tmp 8) rfl w.heap.size w.heap.size w (List.replicate l.length 0) l a cap rfl rfl hbel (Nat.le_refl _) (by simp) (by omega) (by simpa using hown) (hr.below hbel) ?_; intro w2 hw2 hb2))
  go_wp2
  go_ret
  exact ⟨rfl, hw2, hb2⟩
theorem OwnB.alloc {w : World} {B : Nat} {v : Value} {l : List Nat} (h : OwnB w B v l) (o : Obj) : OwnB (w.alloc o) B v l := World.ownsRow.alloc h o
end Go.Proofs.YtledlicandlekaaDoor
namespace Go.Proofs.YtledlicandlekaaDoor
open Go.RowKit
/-- Nothing but two blocks may have changed. -/
structure Two (b1 b2 : Nat) (w w' : World) : Prop where
  os : w'.os = w.os
  tape : w'.tape = w.tape
  output : w'.output = w.output
  size : w.heap.size ≤ w'.heap.size
  block : ∀ k, k < w.heap.size → k ≠ b1 → k ≠ b2 → w'.heap[k]? = w.heap[k]?
theorem Two.refl (b1 b2 : Nat) (w : World) : Two b1 b2 w w := ⟨rfl, rfl, rfl, Nat.le_refl _, fun _ _ _ _ => rfl⟩
theorem Two.trans {b1 b2 : Nat} {a b c : World} (h : Two b1 b2 a b) (k : Two b1 b2 b c) : Two b1 b2 a c :=
  ⟨k.os.trans h.os, k.tape.trans h.tape, k.output.trans h.output, Nat.le_trans h.size k.size, fun j hj h1 h2 => (k.block j (Nat.lt_of_lt_of_le hj h.size) h1 h2).trans (h.block j hj h1 h2)⟩
theorem Two.of_below {b1 b2 : Nat} {w w' : World} (h : Below w.heap.size w w') : Two b1 b2 w w' := ⟨h.os, h.tape, h.output, h.size, fun k hk _ _ => h.block k hk⟩
theorem Two.below {b1 b2 B : Nat} {w w' : World} (h : Two b1 b2 w w') (h1 : B ≤ b1) (h2 : B ≤ b2) (hB : B ≤ w.heap.size) : Below B w w' :=
  ⟨h.os, h.tape, h.output, h.size, fun k hk => h.block k (by omega) (by omega) (by omega)⟩
theorem Two.set1 {b1 b2 j : Nat} {w w' : World} (h : Two b1 b2 w w') (u : Value) : Two b1 b2 w (w'.setCell ⟨b1, j, none⟩ u) :=
  ⟨h.os, h.tape, h.output, by simpa using h.size, fun k hk h1 h2 => (heap_setCell_other w' ⟨b1, j, none⟩ k u (by simpa using h1)).trans (h.block k hk h1 h2)⟩
theorem Two.set2 {b1 b2 j : Nat} {w w' : World} (h : Two b1 b2 w w') (u : Value) : Two b1 b2 w (w'.setCell ⟨b2, j, none⟩ u) :=
  ⟨h.os, h.tape, h.output, by simpa using h.size, fun k hk h1 h2 => (heap_setCell_other w' ⟨b2, j, none⟩ k u (by simpa using h2)).trans (h.block k hk h1 h2)⟩
/-- A block that holds just these cells. -/
def Blk (w : World) (g : Nat) (cs : Array Value) (t : TypeId) : Prop := w.heap[g]? = some (.cells cs t (0, 0))
theorem Blk.lt {w : World} {g : Nat} {cs : Array Value} {t : TypeId} (h : Blk w g cs t) : g < w.heap.size := lt_of_block h
theorem Blk.cell {w : World} {g : Nat} {cs : Array Value} {t : TypeId} (h : Blk w g cs t) (j : Nat) : w.cell? ⟨g, j, none⟩ = cs[j]? := cell_of_row w g j _ _ (0, 0) h
theorem Blk.fz {w : World} {g : Nat} {cs : Array Value} {t : TypeId} (h : Blk w g cs t) (j : Nat) : w.frozen? ⟨g, j, none⟩ = false := by unfold Blk at h; simp [World.frozen?, h]
theorem Blk.set {w : World} {g : Nat} {cs : Array Value} {t : TypeId} (h : Blk w g cs t) (j : Nat) (u : Value) : Blk (w.setCell ⟨g, j, none⟩ u) g (cs.setIfInBounds j u) t := heap_setCell_same w g j _ _ u h
theorem Blk.other {w : World} {g g' j : Nat} {cs : Array Value} {t : TypeId} (h : Blk w g cs t) (hne : g ≠ g') (u : Value) : Blk (w.setCell ⟨g', j, none⟩ u) g cs t := (heap_setCell_other w ⟨g', j, none⟩ g u (by simpa using hne)).trans h
theorem Blk.below {w w' : World} {B g : Nat} {cs : Array Value} {t : TypeId} (h : Blk w g cs t) (hb : Below B w w') (hg : g < B) : Blk w' g cs t := (hb.block g hg).trans h
theorem Blk.two {b1 b2 g : Nat} {w w' : World} {cs : Array Value} {t : TypeId} (h : Blk w g cs t) (ho : Two b1 b2 w w') (h1 : g ≠ b1) (h2 : g ≠ b2) : Blk w' g cs t := (ho.block g h.lt h1 h2).trans h
theorem blk_new (w : World) (cs : Array Value) (t : TypeId) : Blk (w.alloc (.cells cs t)) w.heap.size cs t := heap_alloc_new w _
end Go.Proofs.YtledlicandlekaaDoor
namespace Go.Proofs.YtledlicandlekaaDoor
open Go.RowKit
def unZ : Array Value := #[.slice none 0 0, .slice none 0 0, .bool false, .bool false]
/-- A block that holds a unit. -/
abbrev BlkU (w : World) (g : Nat) (cs : Array Value) : Prop := Blk w g cs 44
theorem ret_unit {fn : Func} {tmps : Array Value} {p u : Tmp} (B : Nat) (W : World) (cs : Array Value) (x : Value) (hz : cs.size = 4) (hf : fn.results = #[.cell p 44, .tmp u]) (hp : tmps.getD p undef = .pointer (some ⟨B, 0, none⟩)) (hb : BlkU W B cs) (hx : tmps.getD u undef = x) :
    (results fn tmps).run Tryd.prog W = .ok (.tuple #[.agg cs, x]) W := by
  rw [results_cell_tmp hf, hp, hx]
  simp [asAddr, run_loadVar_row (P := Tryd.prog) W B 44 44 cs (0, 0) _ hb Tryd.underlying44 rfl (by rw [hz]; kernel_rfl)]
theorem set4 {W : World} {g : Nat} {c0 c1 c2 c3 : Value} (h : BlkU W g #[c0, c1, c2, c3]) (u0 u1 u2 u3 : Value) : BlkU ((((W.setCell ⟨g, 0, none⟩ u0).setCell ⟨g, 1, none⟩ u1).setCell ⟨g, 2, none⟩ u2).setCell ⟨g, 3, none⟩ u3) g #[u0, u1, u2, u3] := (((h.set 0 u0).set 1 u1).set 2 u2).set 3 u3
theorem below4 {w W : World} {B g : Nat} (h : Below B w W) (hg : B ≤ g) (u0 u1 u2 u3 : Value) : Below B w ((((W.setCell ⟨g, 0, none⟩ u0).setCell ⟨g, 1, none⟩ u1).setCell ⟨g, 2, none⟩ u2).setCell ⟨g, 3, none⟩ u3) :=
  (((h.setCell (p := ⟨g, 0, none⟩) hg _).setCell (p := ⟨g, 1, none⟩) hg _).setCell (p := ⟨g, 2, none⟩) hg _).setCell (p := ⟨g, 3, none⟩) hg _
theorem ownB_low {w : World} {base : Nat} {v : Value} {l : List Nat} (h : OwnB w base v l) {p : Addr} (hp : p.block < base) (u : Value) : OwnB (w.setCell p u) base v l := by
  refine ⟨h.1, ?_⟩
  rcases h.2 with hn | ⟨g, cap, cur, hv, hbase, hg, rest⟩
  · exact .inl hn
  · exact .inr ⟨g, cap, cur, hv, hbase, (heap_setCell_other w p g u (by omega)).trans hg, rest⟩
theorem own4 {W : World} {B g : Nat} {v : Value} {l : List Nat} (h : OwnB W B v l) (hg : g < B) (u0 u1 u2 u3 : Value) : OwnB ((((W.setCell ⟨g, 0, none⟩ u0).setCell ⟨g, 1, none⟩ u1).setCell ⟨g, 2, none⟩ u2).setCell ⟨g, 3, none⟩ u3) B v l :=
  ownB_low (ownB_low (ownB_low (ownB_low h (p := ⟨g, 0, none⟩) hg _) (p := ⟨g, 1, none⟩) hg _) (p := ⟨g, 2, none⟩) hg _) (p := ⟨g, 3, none⟩) hg _
/-- What both readers of a unit hand back, but for the number or the word behind it. -/
def UnIs (w w' : World) (r : Option (UnitM × Nat)) (cs : Array Value) : Prop := match r with
  | none => cs = unZ
  | some (u, _) => ∃ lv bv, cs = #[lv, bv, .bool u.2.2.1, .bool u.2.2.2] ∧ OwnB w' (w.heap.size + 1) lv u.1 ∧ OwnB w' (w.heap.size + 1) bv u.2.1 ∧ (lv.ownBlock = none ∨ lv.ownBlock ≠ bv.ownBlock)
def OnePost (w : World) (r : Option (UnitM × Nat)) (e : Ending) (w' : World) : Prop := ∃ cs, e = .returned (.tuple #[.agg cs, .int .i64 (match r with | some (_, k) => (k : Int) | none => 0)]) ∧ UnIs w w' r cs ∧ Below w.heap.size w w'
theorem one_none {w W : World} {r : Option (UnitM × Nat)} (h : r = none) (hb : Below w.heap.size w W) : OnePost w r (.returned (.tuple #[.agg unZ, .int .i64 0])) W := by subst h; exact ⟨_, rfl, rfl, hb⟩
theorem one_bad {w W : World} {r : Option (UnitM × Nat)} {k : Nat} (h : r = some (badU, k)) (hb : Below w.heap.size w W) : OnePost w r (.returned (.tuple #[.agg #[.slice none 0 0, .slice none 0 0, .bool false, .bool true], .int .i64 (k : Int)])) W := by
  subst h
  exact ⟨_, rfl, ⟨_, _, rfl, OwnB.nil _ _, OwnB.nil _ _, .inl rfl⟩, hb⟩
end Go.Proofs.YtledlicandlekaaDoor
namespace Go.Proofs.YtledlicandlekaaDoor
open Go.RowKit
theorem below_on {w w1 w2 : World} (h : Below w.heap.size w w1) (k : Below w1.heap.size w1 w2) : Below w.heap.size w w2 := h.trans (k.mono h.size)
theorem getD_at {d : List Nat} {i : Nat} (h : i < d.length) : d.getD i 0 = d[i] := by simp [List.getD, h]
theorem apart_nil {W : World} {B : Nat} {v : Value} {l : List Nat} (h : OwnB W B v l) : v.ownBlock = none ∨ v.ownBlock ≠ (Value.slice none 0 0).ownBlock := by
  rcases h.2 with ⟨rfl, _⟩ | ⟨g, c, cur, rfl, _⟩
  · exact .inl rfl
  · exact .inr (fun e => by cases e)
/-- A plain line. -/
theorem one_line {w W : World} {r : Option (UnitM × Nat)} {l : List Nat} {k : Nat} {v : Value} (h : r = some ((l, [], false, false), k)) (ho : OwnB W (w.heap.size + 1) v l) (hb : Below w.heap.size w W) : OnePost w r (.returned (.tuple #[.agg #[v, .slice none 0 0, .bool false, .bool false], .int .i64 (k : Int)])) W := by
  subst h
  exact ⟨_, rfl, ⟨_, _, rfl, ho, OwnB.nil _ _, apart_nil ho⟩, hb⟩
theorem one_lit {w W : World} {r : Option (UnitM × Nat)} {l m : List Nat} {k : Nat} {v u : Value} (h : r = some ((l, m, true, false), k)) (ho : OwnB W (w.heap.size + 1) v l) (hu : OwnB W (w.heap.size + 1) u m) (ha : v.ownBlock = none ∨ v.ownBlock ≠ u.ownBlock) (hb : Below w.heap.size w W) : OnePost w r (.returned (.tuple #[.agg #[v, u, .bool true, .bool false], .int .i64 (k : Int)])) W := by
  subst h
  exact ⟨_, rfl, ⟨_, _, rfl, ho, hu, ha⟩, hb⟩
theorem bytes_at (a : Option Addr) (n cap : Nat) (l : List Nat) (w : World) (hn : l.length = n) (hl : l.length ≤ 1048576) (hr : RowAt w a l) :
    Calls Tryd.prog 22 #[.slice a n cap] w fun e w' => e = .returned (.slice (some ⟨w.heap.size, 0, none⟩) n n) ∧ OwnB w' w.heap.size (.slice (some ⟨w.heap.size, 0, none⟩) n n) l ∧ Below w.heap.size w w' := by
  subst hn
  exact l1Bytes_any a cap l w hl hr
set_option maxRecDepth 20000 in
set_option maxHeartbeats 2000000 in
theorem l6One_any (lits : Bool) (b off cap : Nat) (d : List Nat) (w : World) (hd : d.length ≤ 1048576) (hcap : d.length ≤ cap) (hT : Tx w b off d) :
    Calls Tryd.prog 21 #[.bool lits, .slice (some ⟨b, off, none⟩) d.length cap] w (OnePost w (oneOf lits d)) := by
  have h0 := blk_new w unZ 44
  have hb0 := (Below.refl w.heap.size w).alloc (Nat.le_refl _) (.cells unZ 44)
  have HEN := hide (l6End_any b off cap d (w.alloc (.cells unZ 44)) hd (hT.below hb0))
  have HT := hide (fun W (h : Below w.heap.size w W) => hT.below h)
  have H0 := hide h0
  have HB0 := hide hb0
  clear h0 hb0 hT
  unfold unZ at HEN
  cases hfe : findEnd d with
  | none =>
    have HR := hide (show oneOf lits d = none by unfold oneOf; rw [hfe])
    rw [hfe] at HEN
    clear hfe
    go_enter Tryd.func21, Tryd.ntmps21
    go_wp2_with fail
    refine HEN.out.mono ?_
    rintro e w1 ⟨rfl, hb1⟩
    have hb1' : Below (w.alloc (.cells unZ 44)).heap.size (w.alloc (.cells unZ 44)) w1 := hb1
    have h1 : BlkU w1 w.heap.size #[.slice none 0 0, .slice none 0 0, .bool false, .bool false] := H0.out.below hb1' H0.out.lt
    have HB1 := hide (HB0.out.trans (hb1'.mono HB0.out.size))
    have p0 : w1.cell? ⟨w.heap.size, 0, none⟩ = some (.slice none 0 0) := h1.cell 0
    have p1 : w1.cell? ⟨w.heap.size, 1, none⟩ = some (.slice none 0 0) := h1.cell 1
    have p2 : w1.cell? ⟨w.heap.size, 2, none⟩ = some (.bool false) := h1.cell 2
    have p3 : w1.cell? ⟨w.heap.size, 3, none⟩ = some (.bool false) := h1.cell 3
    have fz := fun j => h1.fz j
    have H1 := hide h1
    clear h1 hb1 hb1' HEN H0 HB0
    show _
    unfold endV
    go_wp2
    exact bodyPost_ret (ret_unit w.heap.size _ unZ _ rfl rfl rfl (set4 H1.out _ _ _ _) rfl) rfl (one_none HR.out (below4 HB1.out (Nat.le_refl _) _ _ _ _))
  | some e =>
    obtain ⟨he1, he2, he3⟩ := findEnd_lt hfe
    rw [hfe] at HEN
    have hel : (d.take e).length = e := by rw [List.length_take]; omega
    have HLT := hide (fun W (h : Below w.heap.size w W) => l6Literal_any b off cap (d.take e) W (by omega) (by omega) ((HT.out W h).take e))
    rw [hel] at HLT
    have HL1 := hide (fun W (h : Below w.heap.size w W) => bytes_at (some ⟨b, off, none⟩) e cap (d.take e) W hel (by omega) ((HT.out W h).take e).row)
    have hei : (e : Int) ≤ (cap : Int) := by omega
    go_enter Tryd.func21, Tryd.ntmps21
    go_wp2_with fail
    refine HEN.out.mono ?_
    rintro e1 w1 ⟨rfl, hb1⟩
    have hb1' : Below (w.alloc (.cells unZ 44)).heap.size (w.alloc (.cells unZ 44)) w1 := hb1
    have h1 : BlkU w1 w.heap.size #[.slice none 0 0, .slice none 0 0, .bool false, .bool false] := H0.out.below hb1' H0.out.lt
    have HB1 := hide (HB0.out.trans (hb1'.mono HB0.out.size))
    have H1 := hide h1
    clear h1 hb1 hb1' HEN H0 HB0
    have hev : endV (some e) = (e : Int) := rfl
    rw [hev]
    clear hev
    by_cases h300 : 300 < e
    · have h300i : (300 : Int) < (e : Int) := by omega
      have HR := hide (show oneOf lits d = some (badU, e + 2) by unfold oneOf; rw [hfe]; simp only; rw [if_pos h300])
      have p0 : w1.cell? ⟨w.heap.size, 0, none⟩ = some (.slice none 0 0) := H1.out.cell 0
      have p1 : w1.cell? ⟨w.heap.size, 1, none⟩ = some (.slice none 0 0) := H1.out.cell 1
      have p2 : w1.cell? ⟨w.heap.size, 2, none⟩ = some (.bool false) := H1.out.cell 2
      have p3 : w1.cell? ⟨w.heap.size, 3, none⟩ = some (.bool false) := H1.out.cell 3
      have fz := fun j => H1.out.fz j
      clear hfe HLT HL1 he2 he3 hel
      go_wp2
      exact bodyPost_ret (ret_unit w.heap.size _ #[.slice none 0 0, .slice none 0 0, .bool false, .bool true] (.int .i64 ((e + 2 : Nat) : Int)) rfl rfl rfl (set4 H1.out _ _ _ _) rfl) rfl (one_bad HR.out (below4 HB1.out (Nat.le_refl _) _ _ _ _))
    · have h300i : ¬ (300 : Int) < (e : Int) := by omega
      go_wp2_with fail
      refine (HLT.out w1 HB1.out).mono ?_
      rintro e2 w2 ⟨rfl, hb2⟩
      have H2 := hide (show BlkU w2 w.heap.size #[.slice none 0 0, .slice none 0 0, .bool false, .bool false] from H1.out.below hb2 H1.out.lt)
      have HB2 := hide (HB1.out.trans (hb2.mono HB1.out.size))
      have hz2 : w.heap.size + 1 ≤ w2.heap.size := by have := H1.out.lt; have := hb2.size; omega
      have p0 : w2.cell? ⟨w.heap.size, 0, none⟩ = some (.slice none 0 0) := H2.out.cell 0
      have p1 : w2.cell? ⟨w.heap.size, 1, none⟩ = some (.slice none 0 0) := H2.out.cell 1
      have p2 : w2.cell? ⟨w.heap.size, 2, none⟩ = some (.bool false) := H2.out.cell 2
      have p3 : w2.cell? ⟨w.heap.size, 3, none⟩ = some (.bool false) := H2.out.cell 3
      have fz := fun j => H2.out.fz j
      clear hb2 HLT H1 HB1
      cases hlo : (if lits then litOf (d.take e) else none) with
      | none =>
        have HR := hide (show oneOf lits d = some ((d.take e, [], false, false), e + 2) by unfold oneOf; rw [hfe]; simp only; rw [if_neg h300, hlo])
        cases lits with
        | false =>
          clear hfe hlo
          generalize litOf (d.take e) = q
          rcases q with _ | ⟨n, i⟩
          · unfold litV
            have HL2 := hide (HL1.out w2 HB2.out)
            go_wp2_with fail
            refine HL2.out.mono ?_
            rintro e3 w3 ⟨rfl, ho3, hb3⟩
            have H3 := hide (show BlkU w3 w.heap.size #[.slice none 0 0, .slice none 0 0, .bool false, .bool false] from H2.out.below hb3 H2.out.lt)
            have HB3 := hide (HB2.out.trans (hb3.mono HB2.out.size))
            have HO3 := hide (ho3.mono hz2)
            have r0 : w3.cell? ⟨w.heap.size, 0, none⟩ = some (.slice none 0 0) := H3.out.cell 0
            have r1 : w3.cell? ⟨w.heap.size, 1, none⟩ = some (.slice none 0 0) := H3.out.cell 1
            have r2 : w3.cell? ⟨w.heap.size, 2, none⟩ = some (.bool false) := H3.out.cell 2
            have r3 : w3.cell? ⟨w.heap.size, 3, none⟩ = some (.bool false) := H3.out.cell 3
            have gz := fun j => H3.out.fz j
            clear ho3 hb3 p0 p1 p2 p3 fz HL2
            go_wp2
            exact bodyPost_ret (ret_unit w.heap.size _ #[.slice (some ⟨w2.heap.size, 0, none⟩) e e, .slice none 0 0, .bool false, .bool false] (.int .i64 ((e + 2 : Nat) : Int)) rfl rfl rfl (set4 H3.out _ _ _ _) rfl) rfl (one_line HR.out (own4 HO3.out (Nat.lt_succ_self _) _ _ _ _) (below4 HB3.out (Nat.le_refl _) _ _ _ _))
          · unfold litV
            have HL2 := hide (HL1.out w2 HB2.out)
            go_wp2_with fail
            refine HL2.out.mono ?_
            rintro e3 w3 ⟨rfl, ho3, hb3⟩
            have H3 := hide (show BlkU w3 w.heap.size #[.slice none 0 0, .slice none 0 0, .bool false, .bool false] from H2.out.below hb3 H2.out.lt)
            have HB3 := hide (HB2.out.trans (hb3.mono HB2.out.size))
            have HO3 := hide (ho3.mono hz2)
            have r0 : w3.cell? ⟨w.heap.size, 0, none⟩ = some (.slice none 0 0) := H3.out.cell 0
            have r1 : w3.cell? ⟨w.heap.size, 1, none⟩ = some (.slice none 0 0) := H3.out.cell 1
            have r2 : w3.cell? ⟨w.heap.size, 2, none⟩ = some (.bool false) := H3.out.cell 2
            have r3 : w3.cell? ⟨w.heap.size, 3, none⟩ = some (.bool false) := H3.out.cell 3
            have gz := fun j => H3.out.fz j
            clear ho3 hb3 p0 p1 p2 p3 fz HL2
            go_wp2
            exact bodyPost_ret (ret_unit w.heap.size _ #[.slice (some ⟨w2.heap.size, 0, none⟩) e e, .slice none 0 0, .bool false, .bool false] (.int .i64 ((e + 2 : Nat) : Int)) rfl rfl rfl (set4 H3.out _ _ _ _) rfl) rfl (one_line HR.out (own4 HO3.out (Nat.lt_succ_self _) _ _ _ _) (below4 HB3.out (Nat.le_refl _) _ _ _ _))
        | true =>
          have hq : litOf (d.take e) = none := hlo
          rw [hq]
          clear hfe hlo hq
          unfold litV
          have HL2 := hide (HL1.out w2 HB2.out)
          go_wp2_with fail
          refine HL2.out.mono ?_
          rintro e3 w3 ⟨rfl, ho3, hb3⟩
          have H3 := hide (show BlkU w3 w.heap.size #[.slice none 0 0, .slice none 0 0, .bool false, .bool false] from H2.out.below hb3 H2.out.lt)
          have HB3 := hide (HB2.out.trans (hb3.mono HB2.out.size))
          have HO3 := hide (ho3.mono hz2)
          have r0 : w3.cell? ⟨w.heap.size, 0, none⟩ = some (.slice none 0 0) := H3.out.cell 0
          have r1 : w3.cell? ⟨w.heap.size, 1, none⟩ = some (.slice none 0 0) := H3.out.cell 1
          have r2 : w3.cell? ⟨w.heap.size, 2, none⟩ = some (.bool false) := H3.out.cell 2
          have r3 : w3.cell? ⟨w.heap.size, 3, none⟩ = some (.bool false) := H3.out.cell 3
          have gz := fun j => H3.out.fz j
          clear ho3 hb3 p0 p1 p2 p3 fz HL2
          go_wp2
          exact bodyPost_ret (ret_unit w.heap.size _ #[.slice (some ⟨w2.heap.size, 0, none⟩) e e, .slice none 0 0, .bool false, .bool false] (.int .i64 ((e + 2 : Nat) : Int)) rfl rfl rfl (set4 H3.out _ _ _ _) rfl) rfl (one_line HR.out (own4 HO3.out (Nat.lt_succ_self _) _ _ _ _) (below4 HB3.out (Nat.le_refl _) _ _ _ _))
      | some q =>
        obtain ⟨n, i⟩ := q
        cases lits with
        | false => cases hlo
        | true =>
          have hq : litOf (d.take e) = some (n, i) := hlo
          obtain ⟨hi1, hn9⟩ := litOf_lt hq
          rw [hel] at hi1
          rw [hq]
          have hn0 : ¬ (n : Int) < 0 := by omega
          have HRR := hide (show oneOf true d = if 8000 < n then some (badU, e + 2) else if d.length < e + 2 + n + 2 then none else if d.getD (e + 2 + n) 0 = 13 ∧ d.getD (e + 2 + n + 1) 0 = 10 then some ((d.take i, (d.drop (e + 2)).take n, true, false), e + 2 + n + 2) else some (badU, e + 2 + n) by
            unfold oneOf; rw [hfe]; simp only [if_true, hq]; rw [if_neg h300])
          clear hfe hlo hq HL1 he2 he3
          unfold litV
          by_cases h8 : 8000 < n
          · have h8i : (8000 : Int) < (n : Int) := by omega
            have HR := hide (HRR.out.trans (if_pos h8))
            clear HRR
            go_wp2
            exact bodyPost_ret (ret_unit w.heap.size _ #[.slice none 0 0, .slice none 0 0, .bool false, .bool true] (.int .i64 ((e + 2 : Nat) : Int)) rfl rfl rfl (set4 H2.out _ _ _ _) rfl) rfl (one_bad HR.out (below4 HB2.out (Nat.le_refl _) _ _ _ _))
          · have h8i : ¬ (8000 : Int) < (n : Int) := by omega
            by_cases hsh : d.length < e + 2 + n + 2
            · have hshi : (d.length : Int) < (e : Int) + 2 + (n : Int) + 2 := by omega
              have HR := hide (HRR.out.trans ((if_neg h8).trans (if_pos hsh)))
              clear HRR
              go_wp2
              exact bodyPost_ret (ret_unit w.heap.size _ unZ (.int .i64 0) rfl rfl rfl (set4 H2.out _ _ _ _) rfl) rfl (one_none HR.out (below4 HB2.out (Nat.le_refl _) _ _ _ _))
            · have hshi : ¬ (d.length : Int) < (e : Int) + 2 + (n : Int) + 2 := by omega
              have hT2 := HT.out w2 HB2.out
              have c0 := hT2 (e + 2 + n) (by omega)
              have c1 := hT2 (e + 2 + n + 1) (by omega)
              have g0 := getD_at (d := d) (i := e + 2 + n) (by omega)
              have g1 := getD_at (d := d) (i := e + 2 + n + 1) (by omega)
              rw [← g0] at c0
              rw [← g1] at c1
              have HR0 := hide (HRR.out.trans ((if_neg h8).trans (if_neg hsh)))
              generalize d.getD (e + 2 + n) 0 = x at c0 HR0
              generalize d.getD (e + 2 + n + 1) 0 = y at c1 HR0
              have hi0 : (e : Int) + 2 + (n : Int) < (d.length : Int) := by omega
              have hi2 : (e : Int) + 2 + (n : Int) + 1 < (d.length : Int) := by omega
              clear HRR hT2 g0 g1
              by_cases hx : x = 13
              · by_cases hy : y = 10
                · subst hx
                  subst hy
                  have HR := hide (HR0.out.trans (if_pos ⟨rfl, rfl⟩))
                  have hli : (d.take i).length = i := by rw [List.length_take]; omega
                  have hln : ((d.drop (e + 2)).take n).length = n := by rw [List.length_take, List.length_drop]; omega
                  obtain ⟨st, hst⟩ : ∃ st : Nat, st = e + 2 + n := ⟨_, rfl⟩
                  have hsi' : (e : Int) + 2 + (n : Int) = (st : Int) := by omega
                  have HA := hide (fun W (h : Below w.heap.size w W) => bytes_at (some ⟨b, off, none⟩) i cap (d.take i) W hli (by omega) ((HT.out W h).take i).row)
                  have HD := hide (fun W (h : Below w.heap.size w W) => bytes_at (some ⟨b, off + (e + 2), none⟩) (st - (e + 2)) (cap - (e + 2)) ((d.drop (e + 2)).take n) W (by omega) (by omega) (((HT.out W h).drop (e + 2)).take n).row)
                  have hne : ¬ cap = e + 2 := by omega
                  have hii : (i : Int) ≤ (cap : Int) := by omega
                  have he2i : (e : Int) + 2 ≤ (st : Int) := by omega
                  have hsi : (st : Int) ≤ (cap : Int) := by omega
                  have hst9 : (st : Int) ≤ 1048576 := by omega
                  have HST := hide hst
                  have HSI := hide hsi'
                  clear HR0 hli hln p0 p1 p2 p3 fz hsi' hst
                  go_wp2
                  simp only [HSI.out]
                  have hlt2 : w.heap.size < w2.heap.size := H2.out.lt
                  have he20 : ((e : Int) + 2).toNat = e + 2 := by omega
                  have hwr : IntKind.i64.wrap ((e : Int) + 2) = (e : Int) + 2 := by rw [IntKind.wrap_i64]; omega
                  have hws : IntKind.i64.wrap ((st : Int) + 2) = (st : Int) + 2 := by rw [IntKind.wrap_i64]; omega
                  go_region_with (first
                    | (go_at_call 22; have _x := HBWP; refine (HD.out _ ?_).mono ?_; (first | exact below_drewN HB2.out _ | exact HB2.out.drew | exact HB2.out | exact HBWP.out | exact below_drewN HBWP.out _ | exact HBWP.out.drew); rintro eq wq ⟨rfl, hoq, hbq⟩; have zq := (World.ownsRow.lt hoq _ rfl).2; have HBWQ : Hid (Below w.heap.size w wq) := (by first | exact hide (below_on (below_drewN HB2.out _) hbq) | exact hide (below_on HB2.out hbq) | exact hide (below_on HBWP.out hbq) | exact hide (below_on (below_drewN HBWP.out _) hbq)); have KQ : Hid (BlkU wq w.heap.size #[.slice none 0 0, .slice none 0 0, .bool false, .bool false]) := (by first | exact hide ((hbq.block w.heap.size hlt2).trans H2.out) | exact hide ((hbq.block w.heap.size (lt_of_block KP.out)).trans KP.out)); have HOQ := hide (hoq.mono (show w.heap.size + 1 ≤ _ by (first | exact hz2 | exact zzP.out))); (try have HOP2 := hide (HOP.out.below hbq (Nat.le_refl _))); have zzQ := hide (show w.heap.size + 1 ≤ wq.heap.size from lt_of_block KQ.out); have q0 : wq.cell? ⟨w.heap.size, 0, none⟩ = some (.slice none 0 0) := KQ.out.cell 0; have q1 : wq.cell? ⟨w.heap.size, 1, none⟩ = some (.slice none 0 0) := KQ.out.cell 1; have q2 : wq.cell? ⟨w.heap.size, 2, none⟩ = some (.bool false) := KQ.out.cell 2; have q3 : wq.cell? ⟨w.heap.size, 3, none⟩ = some (.bool false) := KQ.out.cell 3; have qf := fun j => KQ.out.fz j; clear hoq hbq)
                    | (go_at_call 22; refine (HA.out _ ?_).mono ?_; (first | exact below_drewN HB2.out _ | exact HB2.out.drew | exact HB2.out | exact HBWQ.out | exact below_drewN HBWQ.out _ | exact HBWQ.out.drew); rintro ep wp ⟨rfl, hop, hbp⟩; have zp := (World.ownsRow.lt hop _ rfl).2; have HBWP : Hid (Below w.heap.size w wp) := (by first | exact hide (below_on (below_drewN HB2.out _) hbp) | exact hide (below_on HB2.out hbp) | exact hide (below_on HBWQ.out hbp) | exact hide (below_on (below_drewN HBWQ.out _) hbp)); have KP : Hid (BlkU wp w.heap.size #[.slice none 0 0, .slice none 0 0, .bool false, .bool false]) := (by first | exact hide ((hbp.block w.heap.size hlt2).trans H2.out) | exact hide ((hbp.block w.heap.size (lt_of_block KQ.out)).trans KQ.out)); have HOP := hide (hop.mono (show w.heap.size + 1 ≤ _ by (first | exact hz2 | exact zzQ.out))); (try have HOQ2 := hide (HOQ.out.below hbp (Nat.le_refl _))); have zzP := hide (show w.heap.size + 1 ≤ wp.heap.size from lt_of_block KP.out); have p0 : wp.cell? ⟨w.heap.size, 0, none⟩ = some (.slice none 0 0) := KP.out.cell 0; have p1 : wp.cell? ⟨w.heap.size, 1, none⟩ = some (.slice none 0 0) := KP.out.cell 1; have p2 : wp.cell? ⟨w.heap.size, 2, none⟩ = some (.bool false) := KP.out.cell 2; have p3 : wp.cell? ⟨w.heap.size, 3, none⟩ = some (.bool false) := KP.out.cell 3; have pf := fun j => KP.out.fz j; clear hop hbp))
                  all_goals
                    have hk : ((e + 2 + n + 2 : Nat) : Int) = (st : Int) + 2 := by have := HST.out; omega
                    have HK := hide hk
                    have HAP := hide (show (Value.slice (some ⟨w2.drew.heap.size, 0, none⟩) i i).ownBlock = none ∨ (Value.slice (some ⟨w2.drew.heap.size, 0, none⟩) i i).ownBlock ≠ (Value.slice (some ⟨wp.heap.size, 0, none⟩) (st - (e + 2)) (st - (e + 2))).ownBlock from .inr (fun e => by simp only [Value.ownBlock, Option.some.injEq] at e; omega))
                    clear p0 p1 p2 p3 pf q0 q1 q2 q3 qf hk zp zq
                    go_wp2
                    refine bodyPost_ret (ret_unit w.heap.size _ #[.slice (some ⟨w2.drew.heap.size, 0, none⟩) i i, .slice (some ⟨wp.heap.size, 0, none⟩) (st - (e + 2)) (st - (e + 2)), .bool true, .bool false] (.int .i64 ((st : Int) + 2)) rfl rfl rfl (set4 KQ.out _ _ _ _) rfl) rfl ?_
                    rw [← HK.out]
                    exact one_lit HR.out (own4 HOP2.out (Nat.lt_succ_self _) _ _ _ _) (own4 HOQ.out (Nat.lt_succ_self _) _ _ _ _) HAP.out (below4 HBWQ.out (Nat.le_refl _) _ _ _ _)
                · have hyb : ((y : Int) != 10) = true := by simp; omega
                  have HR := hide (HR0.out.trans (if_neg (fun h => hy h.2)))
                  subst hx
                  clear HR0
                  go_wp2
                  exact bodyPost_ret (ret_unit w.heap.size _ #[.slice none 0 0, .slice none 0 0, .bool false, .bool true] (.int .i64 ((e + 2 + n : Nat) : Int)) rfl rfl rfl (set4 H2.out _ _ _ _) rfl) rfl (one_bad HR.out (below4 HB2.out (Nat.le_refl _) _ _ _ _))
              · have hxb : ((x : Int) != 13) = true := by simp; omega
                have HR := hide (HR0.out.trans (if_neg (fun h => hx h.1)))
                clear HR0
                go_wp2
                exact bodyPost_ret (ret_unit w.heap.size _ #[.slice none 0 0, .slice none 0 0, .bool false, .bool true] (.int .i64 ((e + 2 + n : Nat) : Int)) rfl rfl rfl (set4 H2.out _ _ _ _) rfl) rfl (one_bad HR.out (below4 HB2.out (Nat.le_refl _) _ _ _ _))
end Go.Proofs.YtledlicandlekaaDoor
