import Derived.Test.YtledlicandlekaaDoorMem
namespace Go.Proofs.YtledlicandlekaaDoor
open Go.RowKit
/-- The rows 'ls' lie at 'a'. -/
def RowsAt (w : World) (a : Option Addr) (ls : List (List Nat)) : Prop :=
  0 < ls.length → ∃ b off, a = some ⟨b, off, none⟩ ∧ ∀ i (h : i < ls.length), ∃ ai ci, w.cell? ⟨b, off + i, none⟩ = some (.slice ai ls[i].length ci) ∧ RowAt w ai ls[i]
theorem RowsAt.below {w w' : World} {a : Option Addr} {ls : List (List Nat)} (h : RowsAt w a ls) (hb : Below w.heap.size w w') : RowsAt w' a ls := fun hp => by
  obtain ⟨b, off, rfl, hc⟩ := h hp
  refine ⟨b, off, rfl, fun i hi => ?_⟩
  obtain ⟨ai, ci, hc1, hr⟩ := hc i hi
  exact ⟨ai, ci, by rw [hb.cell (p := ⟨b, off + i, none⟩) (lt_of_cell0 hc1)]; exact hc1, hr.below hb⟩
def sumL : List (List Nat) → Nat
  | [] => 0
  | r :: rs => r.length + sumL rs
theorem sumL_append (a b : List (List Nat)) : sumL (a ++ b) = sumL a + sumL b := by
  induction a with
  | nil => simp [sumL]
  | cons x r ih => simp [sumL, ih]; omega
theorem sumL_take_succ (ls : List (List Nat)) (k : Nat) (h : k < ls.length) : sumL (ls.take (k + 1)) = sumL (ls.take k) + ls[k].length := by
  rw [List.take_succ_eq_append_getElem h, sumL_append]; simp [sumL]
theorem sumL_take_le (ls : List (List Nat)) (k : Nat) : sumL (ls.take k) ≤ sumL ls := by
  have h := sumL_append (ls.take k) (ls.drop k)
  rw [List.take_append_drop] at h; omega
theorem len_le_sum (ls : List (List Nat)) (r : List Nat) (h : r ∈ ls) : r.length ≤ sumL ls := by
  induction ls with
  | nil => cases h
  | cons x t ih =>
    simp only [sumL]
    rcases List.mem_cons.1 h with rfl | h'
    · omega
    · have := ih h'; omega
theorem Tryd.info22 : (Tryd.prog.info? 22).map (fun i => (i.zero, i.size, i.bytes)) = some (some (.slice none 0 0), 1, 24) := by kernel_rfl
/-- v is a slice of the call's own whose elements, vs, are slices of the call's own, each with a row for itself. -/
def OwnBV (w : World) (lo : Nat) (v : Value) (vs : List Value) (ls : List (List Nat)) : Prop :=
  w.ownsRow lo 22 1 v ls.length vs ∧ (∀ i (h : i < ls.length), ∃ x, vs[i]? = some x ∧ OwnB w lo x ls[i]) ∧ vs.Pairwise fun x y => x.ownBlock = none ∨ x.ownBlock ≠ y.ownBlock
def OwnBB (w : World) (lo : Nat) (v : Value) (ls : List (List Nat)) : Prop := ∃ vs : List Value, OwnBV w lo v vs ls
theorem OwnBV.lt {w : World} {lo : Nat} {v : Value} {vs : List Value} {ls : List (List Nat)} (h : OwnBV w lo v vs ls) : ∀ x ∈ vs, ∀ g, x.ownBlock = some g → g < w.heap.size := by
  intro x hx g hg
  obtain ⟨h1, h2, _⟩ := h
  obtain ⟨i, hi, rfl⟩ := List.getElem_of_mem hx
  have hl : vs.length = ls.length := by have := h1.1; omega
  obtain ⟨y, hy, ho⟩ := h2 i (by omega)
  rw [List.getElem?_eq_getElem hi] at hy
  simp only [Option.some.injEq] at hy
  subst hy
  exact (World.ownsRow.lt ho g hg).2
theorem OwnBB.slice {w : World} {base : Nat} {v : Value} {ls : List (List Nat)} (h : OwnBB w base v ls) : ∃ a cap, v = .slice a ls.length cap := by
  obtain ⟨vs, h, _⟩ := h
  rcases h.2 with ⟨rfl, hn⟩ | ⟨g, cap, cur, rfl, _⟩
  · exact ⟨none, 0, by rw [hn]⟩
  · exact ⟨_, cap, rfl⟩
theorem outer_cell {w : World} {base e : Nat} {a : Option Addr} {n cap : Nat} {vs : List Value} (h : w.ownsRow base e 1 (.slice a n cap) n vs) (hp : 0 < n) : ∃ g, a = some ⟨g, 0, none⟩ ∧ ∀ i x, vs[i]? = some x → w.cell? ⟨g, i, none⟩ = some x := by
  rcases h.2 with ⟨_, hn⟩ | ⟨g, cap', cur, h', _⟩
  · omega
  · simp only [Value.slice.injEq, true_and] at h'
    obtain ⟨rfl, rfl⟩ := h'
    refine ⟨g, rfl, fun i x hx => ?_⟩
    have := World.ownsRow.cells h (g := g) rfl i x hx
    rwa [addr_add, Nat.zero_add] at this
theorem OwnBB.rows {w : World} {base : Nat} {a : Option Addr} {n cap : Nat} {ls : List (List Nat)} (h : OwnBB w base (.slice a n cap) ls) : RowsAt w a ls := fun hp => by
  obtain ⟨a', c', e⟩ := h.slice
  simp only [Value.slice.injEq] at e
  obtain ⟨rfl, rfl, rfl⟩ := e
  obtain ⟨vs, h1, h2, _⟩ := h
  obtain ⟨g, rfl, hc⟩ := outer_cell h1 hp
  refine ⟨g, 0, rfl, fun i hi => ?_⟩
  obtain ⟨x, hx, ho⟩ := h2 i hi
  obtain ⟨ai, ci, rfl⟩ := ho.slice
  exact ⟨ai, ci, by rw [Nat.zero_add]; exact hc i _ hx, ho.row⟩
theorem own_keep {w w' : World} {base e n : Nat} {v : Value} {xs : List Value} (h : w.ownsRow base e 1 v n xs) (hk : ∀ g, base ≤ g → g < w.heap.size → w'.heap[g]? = w.heap[g]?) : w'.ownsRow base e 1 v n xs := by
  refine ⟨h.1, ?_⟩
  rcases h.2 with hn | ⟨g, cap, cur, rfl, hbase, hg, rest⟩
  · exact .inl hn
  · exact .inr ⟨g, cap, cur, rfl, hbase, (hk g hbase (lt_of_block hg)).trans hg, rest⟩
theorem OwnBB.keep {w w' : World} {base : Nat} {v : Value} {ls : List (List Nat)} (h : OwnBB w base v ls) (hk : ∀ g, base ≤ g → g < w.heap.size → w'.heap[g]? = w.heap[g]?) : OwnBB w' base v ls := by
  obtain ⟨vs, h1, h2, h3⟩ := h
  refine ⟨vs, own_keep h1 hk, fun i hi => ?_, h3⟩
  obtain ⟨x, hx, ho⟩ := h2 i hi
  exact ⟨x, hx, own_keep ho hk⟩
theorem OwnBB.below {B base : Nat} {w w' : World} {v : Value} {ls : List (List Nat)} (h : OwnBB w base v ls) (hb : Below B w w') (hB : w.heap.size ≤ B) : OwnBB w' base v ls := h.keep fun g _ hg => hb.block g (by omega)
theorem OwnBB.out {lo hi base : Nat} {w w' : World} {v : Value} {ls : List (List Nat)} (h : OwnBB w base v ls) (ho : Out lo hi w w') (hb : hi ≤ base) : OwnBB w' base v ls := h.keep fun g hg hs => ho.block g hs (.inr (by omega))
/-- A row's block is not its list's. -/
theorem inner_ne_outer {w : World} {b1 b2 e1 e2 n1 n2 : Nat} {v x : Value} {xs ys : List Value} (h1 : w.ownsRow b1 e1 1 v n1 xs) (h2 : w.ownsRow b2 e2 1 x n2 ys) (he : e1 ≠ e2) : v.ownBlock = none ∨ v.ownBlock ≠ x.ownBlock := by
  rcases h1.2 with ⟨rfl, _⟩ | ⟨g, cap, cur, rfl, _, hg, _⟩
  · exact .inl rfl
  · refine .inr fun e => ?_
    rcases h2.2 with ⟨rfl, _⟩ | ⟨g', cap', cur', rfl, _, hg', _⟩
    · simp [Value.ownBlock] at e
    · simp only [Value.ownBlock, Option.some.injEq] at e
      subst e
      rw [hg] at hg'
      simp only [Option.some.injEq, Obj.cells.injEq] at hg'
      exact he hg'.2.1
/-- Behind a change of one row. -/
theorem OwnBV.set_row {w w' : World} {base i : Nat} {v x : Value} {ls : List (List Nat)} {l : List Nat} {vs : List Value} (h1 : w.ownsRow base 22 1 v ls.length vs) (h2 : ∀ i (h : i < ls.length), ∃ x, vs[i]? = some x ∧ OwnB w base x ls[i])
    (h3 : vs.Pairwise fun x y => x.ownBlock = none ∨ x.ownBlock ≠ y.ownBlock) (hi : i < ls.length) (hx : vs[i]? = some x) (hox : OwnB w base x ls[i]) (ho : OwnB w' base x l) (hg : w.grownBy w' x.ownBlock) : OwnBV w' base v vs (ls.set i l) := by
  refine ⟨?_, fun j hj => ?_, h3⟩
  · rw [List.length_set]
    exact World.ownsRow.kept h1 hg (inner_ne_outer h1 hox (by decide))
  · by_cases e : i = j
    · subst e
      exact ⟨x, hx, by simpa using ho⟩
    · have hj' : j < ls.length := by simpa using hj
      obtain ⟨y, hy, hoy⟩ := h2 j hj'
      refine ⟨y, hy, ?_⟩
      have e2 : (ls.set i l)[j] = ls[j] := by simp [e]
      rw [e2]
      refine World.ownsRow.kept hoy hg ?_
      have hp := List.pairwise_iff_getElem.1 h3
      have hl : vs.length = ls.length := by have := h1.1; omega
      have ei : vs[i]'(by omega) = x := by rw [List.getElem?_eq_getElem (by omega)] at hx; simpa using hx
      have ej : vs[j]'(by omega) = y := by rw [List.getElem?_eq_getElem (by omega)] at hy; simpa using hy
      rcases Nat.lt_or_gt_of_ne e with h | h
      · have := hp i j (by omega) (by omega) h
        rw [ei, ej] at this
        rcases this with h' | h'
        · rw [h']; cases hb : y.ownBlock
          · exact .inl rfl
          · exact .inr (by simp)
        · exact .inr (fun e => h' e.symm)
      · have := hp j i (by omega) (by omega) h
        rw [ei, ej] at this
        exact this
theorem OwnBV.below {B base : Nat} {w w' : World} {v : Value} {vs : List Value} {ls : List (List Nat)} (h : OwnBV w base v vs ls) (hb : Below B w w') (hB : w.heap.size ≤ B) : OwnBV w' base v vs ls := by
  obtain ⟨h1, h2, h3⟩ := h
  have hk : ∀ g, base ≤ g → g < w.heap.size → w'.heap[g]? = w.heap[g]? := fun g _ hg => hb.block g (by omega)
  refine ⟨own_keep h1 hk, fun i hi => ?_, h3⟩
  obtain ⟨x, hx, ho⟩ := h2 i hi
  exact ⟨x, hx, own_keep ho hk⟩
theorem drew_more {w wr : World} (h : ∃ n, wr = w.drewN n) (m : Nat) : ∃ n, wr.drewN m = w.drewN n := by obtain ⟨n, rfl⟩ := h; exact ⟨n + m, World.drewN_drewN _ _ _⟩
theorem RowAt.drew {w : World} {a : Option Addr} {l : List Nat} (h : RowAt w a l) (n : Nat) : RowAt (w.drewN n) a l := h
theorem RowsAt.drew {w : World} {a : Option Addr} {ls : List (List Nat)} (h : RowsAt w a ls) (n : Nat) : RowsAt (w.drewN n) a ls := h
theorem take_eq_succ {l m : List Nat} {k : Nat} (h1 : k < l.length) (h2 : k < m.length) (h : l.take k = m.take k) (he : l[k] = m[k]) : l.take (k + 1) = m.take (k + 1) := by
  rw [List.take_succ_eq_append_getElem h1, List.take_succ_eq_append_getElem h2, h, he]
theorem ne_of_at {l m : List Nat} {k : Nat} (h1 : k < l.length) (h2 : k < m.length) (he : ¬ l[k] = m[k]) : ¬ l = m := fun h => he (by subst h; rfl)
end Go.Proofs.YtledlicandlekaaDoor
