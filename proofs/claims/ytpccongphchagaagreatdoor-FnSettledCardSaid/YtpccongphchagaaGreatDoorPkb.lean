import Derived.Test.YtpccongphchagaaGreatDoorPka
import Derived.Lib.Builder
import Derived.Laws.BitsAllLaws
import Derived.Laws.BytesArg
namespace Go.Proofs.YtpccongphchagaaGreatDoor
open Go.RowKit
theorem row_one (w : World) (x : Nat) : RowAt (w.alloc (.cells #[.int .u8 (x : Int)] 5)) (some ⟨w.heap.size, 0, none⟩) [x] := fun _ => by
  refine ⟨w.heap.size, 0, rfl, fun i hi => ?_⟩
  simp at hi
  subst hi
  rw [cell_of_row _ _ _ _ 5 (0, 0) (heap_alloc_new w _)]
  rfl
theorem OwnB.alloc1 {w : World} {base : Nat} {v : Value} {l : List Nat} (h : OwnB w base v l) (o : Obj) : OwnB (w.alloc o) base v l := h.below ((Below.refl _ _).alloc (Nat.le_refl _) _) (Nat.le_refl _)
end Go.Proofs.YtpccongphchagaaGreatDoor
namespace Go.Proofs.YtpccongphchagaaGreatDoor
open Go.RowKit
/-- The rows 'ls' lie at 'a'. -/
def RowsAt (w : World) (a : Option Addr) (ls : List (List Nat)) : Prop :=
  0 < ls.length → ∃ b off, a = some ⟨b, off, none⟩ ∧ ∀ i (h : i < ls.length), ∃ ai ci, w.cell? ⟨b, off + i, none⟩ = some (.slice ai ls[i].length ci) ∧ RowAt w ai ls[i]
theorem RowsAt.below {w w' : World} {a : Option Addr} {ls : List (List Nat)} (h : RowsAt w a ls) (hb : Below w.heap.size w w') : RowsAt w' a ls := fun hp => by
  obtain ⟨b, off, rfl, hc⟩ := h hp
  refine ⟨b, off, rfl, fun i hi => ?_⟩
  obtain ⟨ai, ci, hc1, hr⟩ := hc i hi
  exact ⟨ai, ci, by rw [hb.cell (p := ⟨b, off + i, none⟩) (lt_of_cell0 hc1)]; exact hc1, hr.below hb⟩
def sumL : List (List Nat) → Nat
  | [] => 0
  | r :: rs => r.length + sumL rs
theorem sumL_append (a b : List (List Nat)) : sumL (a ++ b) = sumL a + sumL b := by
  induction a with
  | nil => simp [sumL]
  | cons x r ih => simp [sumL, ih]; omega
theorem sumL_take_succ (ls : List (List Nat)) (k : Nat) (h : k < ls.length) : sumL (ls.take (k + 1)) = sumL (ls.take k) + ls[k].length := by
  rw [List.take_succ_eq_append_getElem h, sumL_append]; simp [sumL]
theorem sumL_take_le (ls : List (List Nat)) (k : Nat) : sumL (ls.take k) ≤ sumL ls := by
  have h := sumL_append (ls.take k) (ls.drop k)
  rw [List.take_append_drop] at h; omega
theorem len_le_sum (ls : List (List Nat)) (r : List Nat) (h : r ∈ ls) : r.length ≤ sumL ls := by
  induction ls with
  | nil => cases h
  | cons x t ih =>
    simp only [sumL]
    rcases List.mem_cons.1 h with rfl | h'
    · omega
    · have := ih h'; omega
theorem Tryz.info22 : (Tryz.prog.info? 22).map (fun i => (i.zero, i.size, i.bytes)) = some (some (.slice none 0 0), 1, 24) := by kernel_rfl
/-- v is a slice of the call's own whose elements, vs, are slices of the call's own, each with a row for itself. -/
def OwnBV (w : World) (lo : Nat) (v : Value) (vs : List Value) (ls : List (List Nat)) : Prop :=
  w.ownsRow lo 22 1 v ls.length vs ∧ (∀ i (h : i < ls.length), ∃ x, vs[i]? = some x ∧ OwnB w lo x ls[i]) ∧ vs.Pairwise fun x y => x.ownBlock = none ∨ x.ownBlock ≠ y.ownBlock
def OwnBB (w : World) (lo : Nat) (v : Value) (ls : List (List Nat)) : Prop := ∃ vs : List Value, OwnBV w lo v vs ls
theorem OwnBV.lt {w : World} {lo : Nat} {v : Value} {vs : List Value} {ls : List (List Nat)} (h : OwnBV w lo v vs ls) : ∀ x ∈ vs, ∀ g, x.ownBlock = some g → g < w.heap.size := by
  intro x hx g hg
  obtain ⟨h1, h2, _⟩ := h
  obtain ⟨i, hi, rfl⟩ := List.getElem_of_mem hx
  have hl : vs.length = ls.length := by have := h1.1; omega
  obtain ⟨y, hy, ho⟩ := h2 i (by omega)
  rw [List.getElem?_eq_getElem hi] at hy
  simp only [Option.some.injEq] at hy
  subst hy
  exact (World.ownsRow.lt ho g hg).2
theorem OwnBB.slice {w : World} {base : Nat} {v : Value} {ls : List (List Nat)} (h : OwnBB w base v ls) : ∃ a cap, v = .slice a ls.length cap := by
  obtain ⟨vs, h, _⟩ := h
  rcases h.2 with ⟨rfl, hn⟩ | ⟨g, cap, cur, rfl, _⟩
  · exact ⟨none, 0, by rw [hn]⟩
  · exact ⟨_, cap, rfl⟩
theorem outer_cell {w : World} {base e : Nat} {a : Option Addr} {n cap : Nat} {vs : List Value} (h : w.ownsRow base e 1 (.slice a n cap) n vs) (hp : 0 < n) : ∃ g, a = some ⟨g, 0, none⟩ ∧ ∀ i x, vs[i]? = some x → w.cell? ⟨g, i, none⟩ = some x := by
  rcases h.2 with ⟨_, hn⟩ | ⟨g, cap', cur, h', _⟩
  · omega
  · simp only [Value.slice.injEq, true_and] at h'
    obtain ⟨rfl, rfl⟩ := h'
    refine ⟨g, rfl, fun i x hx => ?_⟩
    have := World.ownsRow.cells h (g := g) rfl i x hx
    rwa [addr_add, Nat.zero_add] at this
theorem OwnBB.rows {w : World} {base : Nat} {a : Option Addr} {n cap : Nat} {ls : List (List Nat)} (h : OwnBB w base (.slice a n cap) ls) : RowsAt w a ls := fun hp => by
  obtain ⟨a', c', e⟩ := h.slice
  simp only [Value.slice.injEq] at e
  obtain ⟨rfl, rfl, rfl⟩ := e
  obtain ⟨vs, h1, h2, _⟩ := h
  obtain ⟨g, rfl, hc⟩ := outer_cell h1 hp
  refine ⟨g, 0, rfl, fun i hi => ?_⟩
  obtain ⟨x, hx, ho⟩ := h2 i hi
  obtain ⟨ai, ci, rfl⟩ := ho.slice
  exact ⟨ai, ci, by rw [Nat.zero_add]; exact hc i _ hx, ho.row⟩
theorem own_keep {w w' : World} {base e n : Nat} {v : Value} {xs : List Value} (h : w.ownsRow base e 1 v n xs) (hk : ∀ g, base ≤ g → g < w.heap.size → w'.heap[g]? = w.heap[g]?) : w'.ownsRow base e 1 v n xs := by
  refine ⟨h.1, ?_⟩
  rcases h.2 with hn | ⟨g, cap, cur, rfl, hbase, hg, rest⟩
  · exact .inl hn
  · exact .inr ⟨g, cap, cur, rfl, hbase, (hk g hbase (lt_of_block hg)).trans hg, rest⟩
theorem OwnBB.keep {w w' : World} {base : Nat} {v : Value} {ls : List (List Nat)} (h : OwnBB w base v ls) (hk : ∀ g, base ≤ g → g < w.heap.size → w'.heap[g]? = w.heap[g]?) : OwnBB w' base v ls := by
  obtain ⟨vs, h1, h2, h3⟩ := h
  refine ⟨vs, own_keep h1 hk, fun i hi => ?_, h3⟩
  obtain ⟨x, hx, ho⟩ := h2 i hi
  exact ⟨x, hx, own_keep ho hk⟩
theorem OwnBB.below {B base : Nat} {w w' : World} {v : Value} {ls : List (List Nat)} (h : OwnBB w base v ls) (hb : Below B w w') (hB : w.heap.size ≤ B) : OwnBB w' base v ls := h.keep fun g _ hg => hb.block g (by omega)
theorem OwnBB.out {lo hi base : Nat} {w w' : World} {v : Value} {ls : List (List Nat)} (h : OwnBB w base v ls) (ho : Out lo hi w w') (hb : hi ≤ base) : OwnBB w' base v ls := h.keep fun g hg hs => ho.block g hs (.inr (by omega))
/-- A row's block is not its list's. -/
theorem inner_ne_outer {w : World} {b1 b2 e1 e2 n1 n2 : Nat} {v x : Value} {xs ys : List Value} (h1 : w.ownsRow b1 e1 1 v n1 xs) (h2 : w.ownsRow b2 e2 1 x n2 ys) (he : e1 ≠ e2) : v.ownBlock = none ∨ v.ownBlock ≠ x.ownBlock := by
  rcases h1.2 with ⟨rfl, _⟩ | ⟨g, cap, cur, rfl, _, hg, _⟩
  · exact .inl rfl
  · refine .inr fun e => ?_
    rcases h2.2 with ⟨rfl, _⟩ | ⟨g', cap', cur', rfl, _, hg', _⟩
    · simp [Value.ownBlock] at e
    · simp only [Value.ownBlock, Option.some.injEq] at e
      subst e
      rw [hg] at hg'
      simp only [Option.some.injEq, Obj.cells.injEq] at hg'
      exact he hg'.2.1
/-- Behind a change of one row. -/
theorem OwnBV.set_row {w w' : World} {base i : Nat} {v x : Value} {ls : List (List Nat)} {l : List Nat} {vs : List Value} (h1 : w.ownsRow base 22 1 v ls.length vs) (h2 : ∀ i (h : i < ls.length), ∃ x, vs[i]? = some x ∧ OwnB w base x ls[i])
    (h3 : vs.Pairwise fun x y => x.ownBlock = none ∨ x.ownBlock ≠ y.ownBlock) (hi : i < ls.length) (hx : vs[i]? = some x) (hox : OwnB w base x ls[i]) (ho : OwnB w' base x l) (hg : w.grownBy w' x.ownBlock) : OwnBV w' base v vs (ls.set i l) := by
  refine ⟨?_, fun j hj => ?_, h3⟩
  · rw [List.length_set]
    exact World.ownsRow.kept h1 hg (inner_ne_outer h1 hox (by decide))
  · by_cases e : i = j
    · subst e
      exact ⟨x, hx, by simpa using ho⟩
    · have hj' : j < ls.length := by simpa using hj
      obtain ⟨y, hy, hoy⟩ := h2 j hj'
      refine ⟨y, hy, ?_⟩
      have e2 : (ls.set i l)[j] = ls[j] := by simp [e]
      rw [e2]
      refine World.ownsRow.kept hoy hg ?_
      have hp := List.pairwise_iff_getElem.1 h3
      have hl : vs.length = ls.length := by have := h1.1; omega
      have ei : vs[i]'(by omega) = x := by rw [List.getElem?_eq_getElem (by omega)] at hx; simpa using hx
      have ej : vs[j]'(by omega) = y := by rw [List.getElem?_eq_getElem (by omega)] at hy; simpa using hy
      rcases Nat.lt_or_gt_of_ne e with h | h
      · have := hp i j (by omega) (by omega) h
        rw [ei, ej] at this
        rcases this with h' | h'
        · rw [h']; cases hb : y.ownBlock
          · exact .inl rfl
          · exact .inr (by simp)
        · exact .inr (fun e => h' e.symm)
      · have := hp j i (by omega) (by omega) h
        rw [ei, ej] at this
        exact this
theorem OwnBV.below {B base : Nat} {w w' : World} {v : Value} {vs : List Value} {ls : List (List Nat)} (h : OwnBV w base v vs ls) (hb : Below B w w') (hB : w.heap.size ≤ B) : OwnBV w' base v vs ls := by
  obtain ⟨h1, h2, h3⟩ := h
  have hk : ∀ g, base ≤ g → g < w.heap.size → w'.heap[g]? = w.heap[g]? := fun g _ hg => hb.block g (by omega)
  refine ⟨own_keep h1 hk, fun i hi => ?_, h3⟩
  obtain ⟨x, hx, ho⟩ := h2 i hi
  exact ⟨x, hx, own_keep ho hk⟩
theorem drew_more {w wr : World} (h : ∃ n, wr = w.drewN n) (m : Nat) : ∃ n, wr.drewN m = w.drewN n := by obtain ⟨n, rfl⟩ := h; exact ⟨n + m, World.drewN_drewN _ _ _⟩
theorem RowAt.drew {w : World} {a : Option Addr} {l : List Nat} (h : RowAt w a l) (n : Nat) : RowAt (w.drewN n) a l := h
theorem RowsAt.drew {w : World} {a : Option Addr} {ls : List (List Nat)} (h : RowsAt w a ls) (n : Nat) : RowsAt (w.drewN n) a ls := h
theorem take_eq_succ {l m : List Nat} {k : Nat} (h1 : k < l.length) (h2 : k < m.length) (h : l.take k = m.take k) (he : l[k] = m[k]) : l.take (k + 1) = m.take (k + 1) := by
  rw [List.take_succ_eq_append_getElem h1, List.take_succ_eq_append_getElem h2, h, he]
theorem ne_of_at {l m : List Nat} {k : Nat} (h1 : k < l.length) (h2 : k < m.length) (he : ¬ l[k] = m[k]) : ¬ l = m := fun h => he (by subst h; rfl)
end Go.Proofs.YtpccongphchagaaGreatDoor
namespace Go.Proofs.YtpccongphchagaaGreatDoor
open Go.RowKit
/-- The reader over 'code' at place i (it stays at the code's end once there). -/
def Rd (w : World) (p : Nat) (v : Value) (code : List Nat) (i : Nat) : Prop := w.heap[p]? = some (.cells #[v, .int .i64 ((min i code.length : Nat) : Int)] 52 (0, 0))
theorem Rd.c0 {w : World} {p i : Nat} {v : Value} {code : List Nat} (h : Rd w p v code i) : w.cell? ⟨p, 0, none⟩ = some v := by rw [cell_of_row w p 0 _ _ (0, 0) h]; rfl
theorem Rd.c1 {w : World} {p i : Nat} {v : Value} {code : List Nat} (h : Rd w p v code i) : w.cell? ⟨p, 1, none⟩ = some (.int .i64 ((min i code.length : Nat) : Int)) := by rw [cell_of_row w p 1 _ _ (0, 0) h]; rfl
theorem Rd.fz {w : World} {p i : Nat} {v : Value} {code : List Nat} (h : Rd w p v code i) (j : Nat) : w.frozen? ⟨p, j, none⟩ = false := frozen_of_row w p j _ _ h
theorem Rd.lt {w : World} {p i : Nat} {v : Value} {code : List Nat} (h : Rd w p v code i) : p < w.heap.size := lt_of_block h
theorem Rd.below {w w' : World} {B p i : Nat} {v : Value} {code : List Nat} (h : Rd w p v code i) (hb : Below B w w') (hp : p < B) : Rd w' p v code i := (hb.block p hp).trans h
theorem Rd.grown {w w' : World} {p i : Nat} {v : Value} {code : List Nat} {row : Option Nat} (h : Rd w p v code i) (hg : w.grownBy w' row) (hne : some p ≠ row) : Rd w' p v code i := (hg.block p h.lt hne).trans h
theorem Rd.step {w : World} {p i : Nat} {v : Value} {code : List Nat} (h : Rd w p v code i) (hi : i < code.length) : Rd (w.setCell ⟨p, 1, none⟩ (.int .i64 ((i : Int) + 1))) p v code (i + 1) := by
  have h2 := heap_setCell_same w p 1 _ _ (.int .i64 ((i : Int) + 1)) h
  unfold Rd
  rw [h2]
  have e : ((min (i + 1) code.length : Nat) : Int) = (i : Int) + 1 := by omega
  rw [e]
  rfl
theorem grown_setCell (w : World) (p j : Nat) (u : Value) : w.grownBy (w.setCell ⟨p, j, none⟩ u) (some p) :=
  ⟨rfl, rfl, rfl, by simp, fun k _ hk => heap_setCell_other w ⟨p, j, none⟩ k u (fun e => hk (by simp [e]))⟩
theorem grown_drew {w w' : World} {row : Option Nat} (h : w.grownBy w' row) (n : Nat) : w.grownBy (w'.drewN n) row := ⟨h.os, h.tape, h.output, h.size, h.block⟩
theorem grown_drew0 {w w' : World} {row : Option Nat} {n : Nat} (h : (w.drewN n).grownBy w' row) : w.grownBy w' row := ⟨h.os, h.tape, h.output, h.size, h.block⟩
theorem next_any (p : Nat) (a : Option Addr) (cap : Nat) (code : List Nat) (i : Nat) (w : World) (hl : code.length ≤ 1048576) (hr : RowAt w a code) (hb : ∀ x ∈ code, x < 256) (hrd : Rd w p (.slice a code.length cap) code i) :
    Calls Tryz.prog 28 #[.pointer (some ⟨p, 0, none⟩)] w fun e w' => e = .returned (.int .i64 (nx code i : Int)) ∧ Rd w' p (.slice a code.length cap) code (i + 1) ∧ w.grownBy w' (some p) ∧ w'.heap.size = w.heap.size := by
  have c0 := hrd.c0
  have c1 := hrd.c1
  have f1 := hrd.fz 1
  by_cases hi : i < code.length
  · obtain ⟨b, off, rfl, hc⟩ := hr (by omega)
    have hck := hc i hi
    have hm : min i code.length = i := by omega
    rw [hm] at c1
    have hst := hrd.step hi
    have hnx : nx code i = code[i] := by simp [nx, hi]
    have HN := hide hnx
    have hx256 : code[i] < 256 := hb _ (List.getElem_mem hi)
    have HS := hide hst
    have hix : (i : Int) < (code.length : Int) := by omega
    have hdec : decide ((code.length : Int) ≤ (i : Int)) = false := by simp; omega
    clear hm hnx hst hc hr hrd
    go_enter Tryz.func28, Tryz.ntmps28
    go_wp2
    go_quiet (fail)
    go_wp2
    go_quiet (fail)
    go_wp2
    go_ret
    exact ⟨ret_int (by rw [unhide HN]), unhide HS, grown_drew0 (grown_setCell _ _ _ _), by simp⟩
  · have hm : min i code.length = code.length := by omega
    rw [hm] at c1
    go_enter Tryz.func28, Tryz.ntmps28
    go_wp2
    go_quiet (fail)
    go_wp2
    go_ret
    refine ⟨ret_int (by simp [nx, List.getElem?_eq_none (Nat.le_of_not_lt hi)]), ?_, grown_drew (grown_refl _ _) _, rfl⟩
    have e : min (i + 1) code.length = min i code.length := by omega
    have h2 : Rd w p (.slice a code.length cap) code (i + 1) := by unfold Rd; rw [e]; exact hrd
    exact h2
theorem grown_new {w wr w4 : World} {r r' : Option Nat} (h : w.grownBy wr r) (k : wr.grownBy w4 r') (hr : ∀ b, r' = some b → w.heap.size ≤ b) : w.grownBy w4 r :=
  ⟨k.os.trans h.os, k.tape.trans h.tape, k.output.trans h.output, Nat.le_trans h.size k.size, fun i hi ho => (k.block i (Nat.lt_of_lt_of_le hi h.size) (fun e => by have := hr i e.symm; omega)).trans (h.block i hi ho)⟩
theorem own_ne {w : World} {B p : Nat} {v : Value} {l : List Nat} (h : OwnB w B v l) (hp : p < B) : v.ownBlock = none ∨ v.ownBlock ≠ some p := .inr fun e => by have := (World.ownsRow.lt h p e).1; omega
theorem own_ne' {w : World} {B p : Nat} {v : Value} {l : List Nat} (h : OwnB w B v l) (hp : p < B) : some p ≠ v.ownBlock := fun e => by have := (World.ownsRow.lt h p e.symm).1; omega
end Go.Proofs.YtpccongphchagaaGreatDoor
namespace Go.Proofs.YtpccongphchagaaGreatDoor
open Go.RowKit
/-- Nothing but block p has changed of what was there. -/
structure Kp (p : Nat) (w w' : World) : Prop where
  size : w.heap.size ≤ w'.heap.size
  block : ∀ g, g < w.heap.size → g ≠ p → w'.heap[g]? = w.heap[g]?
theorem Kp.refl (p : Nat) (w : World) : Kp p w w := ⟨Nat.le_refl _, fun _ _ _ => rfl⟩
theorem Kp.of_below {p : Nat} {w w' : World} (h : Below w.heap.size w w') : Kp p w w' := ⟨h.size, fun g hg _ => h.block g hg⟩
theorem Kp.trans {p : Nat} {a b c : World} (h : Kp p a b) (k : Kp p b c) : Kp p a c := ⟨Nat.le_trans h.size k.size, fun g hg hn => (k.block g (Nat.lt_of_lt_of_le hg h.size) hn).trans (h.block g hg hn)⟩
/-- The reader in block p over what came in at w0: all below it is as it was; of wk nothing else has changed. -/
structure RdIn (wk w0 w : World) (p : Nat) (a : Option Addr) (cap : Nat) (code : List Nat) (i : Nat) : Prop where
  rd : Rd w p (.slice a code.length cap) code i
  low : Below w0.heap.size w0 w
  above : w0.heap.size ≤ p
  kp : Kp p wk w
/-- What came in. -/
structure CodeIn (w0 : World) (a : Option Addr) (code : List Nat) : Prop where
  len : code.length ≤ 1048576
  row : RowAt w0 a code
  byte : ∀ x ∈ code, x < 256
theorem next_in {wk w0 w : World} {p : Nat} {a : Option Addr} {cap : Nat} {code : List Nat} {i : Nat} (hc : CodeIn w0 a code) (h : RdIn wk w0 w p a cap code i) :
    Calls Tryz.prog 28 #[.pointer (some ⟨p, 0, none⟩)] w fun e w' => e = .returned (.int .i64 (nx code i : Int)) ∧ RdIn wk w0 w' p a cap code (i + 1) := by
  refine (next_any p a cap code i w hc.len (hc.row.below h.low) hc.byte h.rd).mono ?_
  rintro e w' ⟨rfl, h1, h2, h3⟩
  have := h.above
  exact ⟨rfl, h1, h.low.trans ((Below.refl _ _).grown h2 h.low.size (fun k e => by simp at e; omega)), h.above, h.kp.trans ⟨by omega, fun g hg hn => h2.block g hg (by simpa using hn)⟩⟩
/-- A number that is drawn: within bounds; the reader stands somewhere. -/
def DNum (wk w0 : World) (p : Nat) (a : Option Addr) (cap : Nat) (code : List Nat) (k : IntKind) (lo hi : Int) (e : Ending) (w' : World) : Prop := ∃ (x : Int) (j : Nat), e = .returned (.int k x) ∧ lo ≤ x ∧ x < hi ∧ RdIn wk w0 w' p a cap code j
theorem dnum_mk {wk w0 w' : World} {p : Nat} {a : Option Addr} {cap : Nat} {code : List Nat} {j : Nat} (h : RdIn wk w0 w' p a cap code j) (k : IntKind) (lo hi x : Int) (h1 : lo ≤ x) (h2 : x < hi) : DNum wk w0 p a cap code k lo hi (.returned (.int k x)) w' := ⟨x, j, rfl, h1, h2, h⟩
theorem or_drawn (c : Nat) : 0 ≤ bits .or .u32 ((c : Int) % 32) (2 ^ (5 + c % 26) % 4294967296) ∧ bits .or .u32 ((c : Int) % 32) (2 ^ (5 + c % 26) % 4294967296) < 2147483648 := by
  have hp : (2 : Nat) ^ (5 + c % 26) < 2 ^ 31 := Nat.pow_lt_pow_right (by decide) (by omega)
  have e2 : ((2 : Int) ^ (5 + c % 26)) = ((2 ^ (5 + c % 26) : Nat) : Int) := by simp
  have e1 : (c : Int) % 32 = ((c % 32 : Nat) : Int) := by omega
  have hor : c % 32 ||| 2 ^ (5 + c % 26) < 2 ^ 31 := Nat.or_lt_two_pow (by omega) hp
  rw [e2, e1]
  generalize 2 ^ (5 + c % 26) = m at hp hor ⊢
  have e3 : ((m : Nat) : Int) % 4294967296 = ((m : Nat) : Int) := by omega
  rw [e3, u32_or_nat _ _ (by omega) (by omega)]
  omega
theorem RdIn.below {wk w0 w w' : World} {p : Nat} {a : Option Addr} {cap : Nat} {code : List Nat} {i : Nat} (h : RdIn wk w0 w p a cap code i) (hb : Below w.heap.size w w') : RdIn wk w0 w' p a cap code i := ⟨h.rd.below hb h.rd.lt, h.low.trans (hb.mono h.low.size), h.above, h.kp.trans (Kp.of_below hb)⟩
theorem RdIn.anew {wk w0 w : World} {p : Nat} {a : Option Addr} {cap : Nat} {code : List Nat} {i : Nat} (h : RdIn wk w0 w p a cap code i) : RdIn w w0 w p a cap code i := ⟨h.rd, h.low, h.above, Kp.refl _ _⟩
theorem RdIn.onto {wk wm w0 w : World} {p : Nat} {a : Option Addr} {cap : Nat} {code : List Nat} {i : Nat} (h : Kp p wk wm) (h' : RdIn wm w0 w p a cap code i) : RdIn wk w0 w p a cap code i := ⟨h'.rd, h'.low, h'.above, h.trans h'.kp⟩
/-- A string that is drawn: of at most n bytes; the reader stands somewhere. -/
def DStr (wk w0 : World) (p : Nat) (a : Option Addr) (cap : Nat) (code : List Nat) (n : Nat) (e : Ending) (w' : World) : Prop := ∃ (s : ByteArray) (j : Nat), e = .returned (.string s) ∧ s.size ≤ n ∧ RdIn wk w0 w' p a cap code j
theorem dstr_mk {wk w0 w' : World} {p : Nat} {a : Option Addr} {cap : Nat} {code : List Nat} {j n : Nat} (h : RdIn wk w0 w' p a cap code j) (s : ByteArray) (hs : s.size ≤ n) : DStr wk w0 p a cap code n (.returned (.string s)) w' := ⟨s, j, rfl, hs, h⟩
theorem app_size (s t : ByteArray) : (s ++ t).size = s.size + t.size := ByteArray.size_append
end Go.Proofs.YtpccongphchagaaGreatDoor
namespace Go.Proofs.YtpccongphchagaaGreatDoor
open Go.RowKit
/-- The bytes l as a string. -/
def strB (l : List Nat) : ByteArray := ⟨(l.map UInt8.ofNat).toArray⟩
theorem map_back (l : List Nat) (h : ∀ x ∈ l, x < 256) : (l.map UInt8.ofNat).map UInt8.toNat = l := by
  rw [List.map_map]
  conv => rhs; rw [← List.map_id l]
  apply List.map_congr_left
  intro x hx
  have := h x hx
  simp
  omega
/-- string of bytes that lie somewhere. -/
theorem run_string_of (w : World) (a : Option Addr) (cap : Nat) (l : List Nat) (hr : RowAt w a l) :
    (convert 22 9 (.slice a l.length cap)).run Tryz.prog w = .ok (.string (strB l)) w := by
  by_cases h0 : l.length = 0
  · obtain rfl : l = [] := List.eq_nil_of_length_eq_zero h0
    rw [run_convert_bytes_string w _ _ 5 a _ cap Tryz.underlying22 Tryz.underlying5 Tryz.underlying9]
    cases a <;> simp [Conv.bytesToString, loadCells] <;> rfl
  · obtain ⟨b, off, rfl, hc⟩ := hr (by omega)
    have h := run_convert_bytes_arg w 22 5 Tryz.underlying22 Tryz.underlying5 b off l.length cap (l.map fun n : Nat => (n : Int)) (by simp) (fun i hi => by rw [hc i hi]; simp [hi]) 9 Tryz.underlying9
    rw [h]
    unfold strOfNums strB
    rw [List.map_map]
    rfl
theorem strB_inj {l m : List Nat} (hl : ∀ x ∈ l, x < 256) (hm : ∀ x ∈ m, x < 256) (h : strB l = strB m) : l = m := by
  unfold strB at h
  have h1 : (l.map UInt8.ofNat).toArray = (m.map UInt8.ofNat).toArray := congrArg ByteArray.data h
  have h2 : l.map UInt8.ofNat = m.map UInt8.ofNat := congrArg Array.toList h1
  rw [← map_back l hl, ← map_back m hm, h2]
theorem strB_dec {l m : List Nat} (hl : ∀ x ∈ l, x < 256) (hm : ∀ x ∈ m, x < 256) : decide (strB l = strB m) = decide (l = m) := by
  by_cases h : l = m
  · subst h; simp
  · rw [decide_eq_false h, decide_eq_false fun e => h (strB_inj hl hm e)]
theorem strB_list (l : List Nat) : (strB l).toList = l.map UInt8.ofNat := by rw [ByteArray.toList_eq]; rfl
theorem strB_beq {l m : List Nat} (hl : ∀ x ∈ l, x < 256) (hm : ∀ x ∈ m, x < 256) : ((strB l).toList == (strB m).toList) = decide (l = m) := by
  rw [strB_list, strB_list]
  by_cases h : l = m
  · subst h; simp
  · rw [decide_eq_false h]
    exact beq_eq_false_iff_ne.2 fun e => h (by rw [← map_back l hl, ← map_back m hm, e])
end Go.Proofs.YtpccongphchagaaGreatDoor
