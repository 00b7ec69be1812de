import Derived.Test.YtledlicandlekaaDoorCutLw5
namespace Go.Proofs.YtledlicandlekaaDoor
open Go.RowKit
theorem slicesU_cons (x : U4) (vs : List U4) : slicesU (x :: vs) = x.1 :: x.2.1 :: slicesU vs := rfl
theorem slicesU_get (vs : List U4) (i : Nat) (h : i < vs.length) : (slicesU vs)[i * 2]? = some vs[i].1 ∧ (slicesU vs)[i * 2 + 1]? = some vs[i].2.1 := by
  induction vs generalizing i with
  | nil => simp at h
  | cons x r ih =>
    cases i with
    | zero => exact ⟨rfl, rfl⟩
    | succ i =>
      obtain ⟨h0, h1⟩ := ih i (by simpa using h)
      refine ⟨?_, ?_⟩
      · rw [slicesU_cons, show (i + 1) * 2 = i * 2 + 1 + 1 from by omega]; simpa using h0
      · rw [slicesU_cons, show (i + 1) * 2 + 1 = i * 2 + 1 + 1 + 1 from by omega]; simpa using h1
theorem apartV.symm {a b : Value} (h : apartV a b) : apartV b a := by
  cases hb : b.ownBlock with
  | none => exact .inl hb
  | some g =>
    refine .inr fun e => ?_
    rcases h with h | h
    · rw [hb, h] at e; cases e
    · exact h e.symm
theorem apart_keep {ss : List Value} (h : ss.Pairwise apartV) {p q : Nat} {y z : Value} (hp : ss[p]? = some y) (hq : ss[q]? = some z) (hne : p ≠ q) : apartV y z := by
  obtain ⟨hpl, hy⟩ := List.getElem?_eq_some_iff.1 hp
  obtain ⟨hql, hz⟩ := List.getElem?_eq_some_iff.1 hq
  have hh := List.pairwise_iff_getElem.1 h
  rcases Nat.lt_or_ge p q with hpq | hpq
  · have := hh p q hpl hql hpq
    rw [hy, hz] at this
    exact this
  · have := hh q p hql hpl (by omega)
    rw [hy, hz] at this
    exact this.symm
theorem at_get {vs : List U4} {i : Nat} {x : U4} (h : vs[i]? = some x) : (slicesU vs)[i * 2]? = some x.1 ∧ (slicesU vs)[i * 2 + 1]? = some x.2.1 := by
  obtain ⟨hl, hx⟩ := List.getElem?_eq_some_iff.1 h
  have := slicesU_get vs i hl
  rw [hx] at this
  exact this
/-- One line is written. -/
theorem OwnU.line {w w' : World} {lo i : Nat} {v : Value} {x : U4} {vs : List U4} {us : List UnitM} {l : List Nat} (h : OwnU w lo v vs us) (hi : i < us.length) (hx : vs[i]? = some x) (ho : OwnB w' lo x.1 l) (hg : w.grownBy w' x.1.ownBlock) : OwnU w' lo v vs (us.set i (l, us[i].2)) := by
  obtain ⟨x0, hx0, p1, p2, e⟩ := h.body i hi
  obtain rfl : x0 = x := by rw [hx] at hx0; simpa using hx0.symm
  refine ⟨by rw [List.length_set]; exact h.len, by rw [List.length_set]; exact World.ownsRow.kept h.row hg (ownsA h.row p1 (by decide)), fun j hj => ?_, h.apart⟩
  have hj' : j < us.length := by simpa using hj
  obtain ⟨y, hy, q1, q2, e2⟩ := h.body j hj'
  refine ⟨y, hy, ?_⟩
  have a2 : apartV y.2.1 x0.1 := apart_keep h.apart (at_get hy).2 (at_get hx).1 (by omega)
  by_cases hij : i = j
  · subst hij
    obtain rfl : y = x0 := by rw [hx] at hy; simpa using hy.symm
    rw [List.getElem_set_self]
    exact ⟨ho, World.ownsRow.kept q2 hg a2, e2⟩
  · rw [List.getElem_set_ne hij]
    exact ⟨World.ownsRow.kept q1 hg (apart_keep h.apart (at_get hy).1 (at_get hx).1 (by omega)), World.ownsRow.kept q2 hg a2, e2⟩
/-- One body is written. -/
theorem OwnU.bodyS {w w' : World} {lo i : Nat} {v : Value} {x : U4} {vs : List U4} {us : List UnitM} {l : List Nat} (h : OwnU w lo v vs us) (hi : i < us.length) (hx : vs[i]? = some x) (ho : OwnB w' lo x.2.1 l) (hg : w.grownBy w' x.2.1.ownBlock) : OwnU w' lo v vs (us.set i (us[i].1, l, us[i].2.2)) := by
  obtain ⟨x0, hx0, p1, p2, e⟩ := h.body i hi
  obtain rfl : x0 = x := by rw [hx] at hx0; simpa using hx0.symm
  refine ⟨by rw [List.length_set]; exact h.len, by rw [List.length_set]; exact World.ownsRow.kept h.row hg (ownsA h.row p2 (by decide)), fun j hj => ?_, h.apart⟩
  have hj' : j < us.length := by simpa using hj
  obtain ⟨y, hy, q1, q2, e2⟩ := h.body j hj'
  refine ⟨y, hy, ?_⟩
  have a1 : apartV y.1 x0.2.1 := apart_keep h.apart (at_get hy).1 (at_get hx).2 (by omega)
  by_cases hij : i = j
  · subst hij
    obtain rfl : y = x0 := by rw [hx] at hy; simpa using hy.symm
    rw [List.getElem_set_self]
    exact ⟨World.ownsRow.kept q1 hg a1, ho, e2⟩
  · rw [List.getElem_set_ne hij]
    exact ⟨World.ownsRow.kept q1 hg a1, World.ownsRow.kept q2 hg (apart_keep h.apart (at_get hy).2 (at_get hx).2 (by omega)), e2⟩
theorem cellsU_set (vs : List U4) (i : Nat) (p q : Bool) (h : i < vs.length) : ((cellsU vs).set (i * 4 + 2) (.bool p)).set (i * 4 + 3) (.bool q) = cellsU (vs.set i (vs[i].1, vs[i].2.1, p, q)) := by
  induction vs generalizing i with
  | nil => simp at h
  | cons x r ih =>
    cases i with
    | zero => simp [cellsU_cons]
    | succ i =>
      rw [cellsU_cons, show (i + 1) * 4 + 2 = i * 4 + 2 + 1 + 1 + 1 + 1 from by omega, show (i + 1) * 4 + 3 = i * 4 + 3 + 1 + 1 + 1 + 1 from by omega]
      simp only [List.set_cons_succ, List.getElem_cons_succ, cellsU_cons]
      rw [ih i (by simpa using h)]
theorem slicesU_set (vs : List U4) (i : Nat) (p q : Bool) (h : i < vs.length) : slicesU (vs.set i (vs[i].1, vs[i].2.1, p, q)) = slicesU vs := by
  induction vs generalizing i with
  | nil => simp at h
  | cons x r ih =>
    cases i with
    | zero => simp [slicesU_cons]
    | succ i =>
      simp only [List.set_cons_succ, List.getElem_cons_succ, slicesU_cons]
      rw [ih i (by simpa using h)]
/-- Both booleans of one unit are put. -/
theorem OwnU.flags {w : World} {lo g n cap i : Nat} {p q : Bool} {vs : List U4} {us : List UnitM} (h : OwnU w lo (.slice (some ⟨g, 0, none⟩) n cap) vs us) (hi : i < us.length) :
    ∃ vs', slicesU vs' = slicesU vs ∧ OwnU ((w.setCell ⟨g, i * 4 + 2, none⟩ (.bool p)).setCell ⟨g, i * 4 + 3, none⟩ (.bool q)) lo (.slice (some ⟨g, 0, none⟩) n cap) vs' (us.set i (us[i].1, us[i].2.1, p, q)) ∧ w.grownBy ((w.setCell ⟨g, i * 4 + 2, none⟩ (.bool p)).setCell ⟨g, i * 4 + 3, none⟩ (.bool q)) (some g) := by
  have hl := h.len
  have h0 := h.row
  have hn : n = us.length := by
    obtain ⟨a', c', e⟩ := h.slice
    simp only [Value.slice.injEq] at e
    exact e.2.1
  subst hn
  have s1 := World.ownsRow.stored h0 (i * 4 + 2) (.bool p)
  have s2 := World.ownsRow.stored s1.1 (i * 4 + 3) (.bool q)
  have hg := grown_trans s1.2 s2.2
  have hiv : i < vs.length := by omega
  refine ⟨vs.set i (vs[i].1, vs[i].2.1, p, q), slicesU_set vs i p q hiv, ⟨by rw [List.length_set, List.length_set]; exact hl, by rw [List.length_set, ← cellsU_set vs i p q hiv]; exact s2.1, fun j hj => ?_, by rw [slicesU_set vs i p q hiv]; exact h.apart⟩, hg⟩
  have hj' : j < us.length := by simpa using hj
  obtain ⟨y, hy, q1, q2, e2⟩ := h.body j hj'
  have k1 := World.ownsRow.kept q1 hg (ownsA q1 h0 (by decide))
  have k2 := World.ownsRow.kept q2 hg (ownsA q2 h0 (by decide))
  by_cases hij : i = j
  · subst hij
    obtain ⟨hl2, hy2⟩ := List.getElem?_eq_some_iff.1 hy
    refine ⟨(vs[i].1, vs[i].2.1, p, q), by rw [List.getElem?_set_self hiv], ?_⟩
    rw [List.getElem_set_self, hy2]
    exact ⟨k1, k2, rfl⟩
  · refine ⟨y, by rw [List.getElem?_set_ne hij]; exact hy, ?_⟩
    rw [List.getElem_set_ne hij]
    exact ⟨k1, k2, e2⟩
/-- The cells of a list of units of the call's own. -/
theorem OwnU.cells {w : World} {lo : Nat} {a : Option Addr} {n cap : Nat} {vs : List U4} {us : List UnitM} (h : OwnU w lo (.slice a n cap) vs us) (hp : 0 < us.length) :
    ∃ g, a = some ⟨g, 0, none⟩ ∧ lo ≤ g ∧ (∀ o, w.frozen? ⟨g, o, none⟩ = false) ∧ ∀ i (hi : i < us.length), ∃ ai ci pi qi p q, vs[i]? = some (.slice ai us[i].1.length ci, .slice pi us[i].2.1.length qi, p, q) ∧ w.cell? ⟨g, i * 4, none⟩ = some (.slice ai us[i].1.length ci) ∧ w.cell? ⟨g, i * 4 + 1, none⟩ = some (.slice pi us[i].2.1.length qi) ∧ w.cell? ⟨g, i * 4 + 2, none⟩ = some (.bool p) ∧ w.cell? ⟨g, i * 4 + 3, none⟩ = some (.bool q) ∧ OwnB w lo (.slice ai us[i].1.length ci) us[i].1 ∧ OwnB w lo (.slice pi us[i].2.1.length qi) us[i].2.1 := by
  have hfz := fun (g : Nat) (o : Nat) (e : a = some ⟨g, 0, none⟩) (e2 : n = us.length) => World.ownsRow.frozenAt (by rw [e, e2] at h; exact h.row) o
  rcases h.row.2 with ⟨_, h0⟩ | ⟨g, c, cur, hv, hlo, hg, hcs⟩
  · omega
  · obtain ⟨rfl, rfl, rfl⟩ : a = some ⟨g, 0, none⟩ ∧ n = us.length ∧ cap = c := by simpa using hv
    have hcell : ∀ j, j < us.length * 4 → w.cell? ⟨g, j, none⟩ = (cellsU vs)[j]? := fun j hj => by
      rw [cell_of_row w g j _ _ (0, 0) hg, ← hcs.2.2.2, List.getElem?_take, if_pos hj]
      simp
    refine ⟨g, rfl, hlo, fun o => hfz g o rfl rfl, fun i hi => ?_⟩
    have hvi : i < vs.length := by rw [h.len]; exact hi
    obtain ⟨⟨x1, x2, p, q⟩, hx, p1, p2, e⟩ := h.body i hi
    have hx' := hx
    rw [List.getElem?_eq_getElem hvi, Option.some.injEq] at hx
    obtain ⟨c0, c1, c2, c3⟩ := cellsU_get vs i hvi
    rw [hx] at c0 c1 c2 c3
    simp only [] at c0 c1 c2 c3 p1 p2
    obtain ⟨ai, ci, h1⟩ := p1.slice
    obtain ⟨pi, qi, h2⟩ := p2.slice
    rw [h1] at c0 p1 hx'
    rw [h2] at c1 p2 hx'
    refine ⟨ai, ci, pi, qi, p, q, hx', ?_, ?_, ?_, ?_, p1, p2⟩
    · rw [hcell _ (by omega)]; exact c0
    · rw [hcell _ (by omega)]; exact c1
    · rw [hcell _ (by omega)]; exact c2
    · rw [hcell _ (by omega)]; exact c3
/-- Bytes apart from all lines and bodies are written. -/
theorem OwnU.grownR {w w' : World} {lo b2 n : Nat} {v y : Value} {xs : List Value} {vs : List U4} {us : List UnitM} (h : OwnU w lo v vs us) (hg : w.grownBy w' y.ownBlock) (ha : ∀ s ∈ slicesU vs, apartV s y) (ho : w.ownsRow b2 5 1 y n xs) : OwnU w' lo v vs us := by
  refine ⟨h.len, World.ownsRow.kept h.row hg (ownsA h.row ho (by decide)), fun i hi => ?_, h.apart⟩
  obtain ⟨x, hx, p1, p2, e⟩ := h.body i hi
  exact ⟨x, hx, World.ownsRow.kept p1 hg (ha _ (List.mem_of_getElem? (at_get hx).1)), World.ownsRow.kept p2 hg (ha _ (List.mem_of_getElem? (at_get hx).2)), e⟩
/-- A list of units of which the first j are marked. -/
def muM (k : Nat) (us : List UnitM) (j : Nat) : List UnitM := (mus k us).take j ++ us.drop j
theorem muM_zero (k : Nat) (us : List UnitM) : muM k us 0 = us := by simp [muM]
theorem muM_len (k : Nat) (us : List UnitM) : muM k us us.length = mus k us := by
  unfold muM
  rw [List.take_of_length_le (by rw [mus_length]; exact Nat.le_refl _)]; simp
theorem muM_length (k : Nat) (us : List UnitM) (j : Nat) (h : j ≤ us.length) : (muM k us j).length = us.length := by
  unfold muM
  rw [List.length_append, List.length_take, List.length_drop, mus_length]; omega
theorem muM_at (k : Nat) (us : List UnitM) (j : Nat) (h : j < us.length) (h' : j < (muM k us j).length) : (muM k us j)[j] = us[j] := by
  have e : (muM k us j)[j]? = some us[j] := by
    unfold muM
    have hl : ((mus k us).take j).length = j := by rw [List.length_take, mus_length]; omega
    rw [List.getElem?_append_right (by omega), hl, Nat.sub_self, List.drop_eq_getElem_cons h]; rfl
  rw [List.getElem?_eq_getElem h'] at e
  simpa using e
theorem muM_set (k : Nat) (us : List UnitM) (j : Nat) (h : j < us.length) : (muM k us j).set j (mark1 (kAt k us j) us[j]) = muM k us (j + 1) := by
  unfold muM
  have hl : ((mus k us).take j).length = j := by rw [List.length_take, mus_length]; omega
  rw [List.set_append_right _ _ (by omega), hl, Nat.sub_self, List.drop_eq_getElem_cons h, List.set_cons_zero, List.take_add_one, mus_at k us j h]
  simp
/-- What marking a list of units leaves as it was. -/
structure UFr (lo hi : Nat) (ss : List Value) (w w' : World) : Prop where
  bel : Below lo w w'
  sz : w'.heap.size = w.heap.size
  own : ∀ y l, OwnB w lo y l → (∀ s ∈ ss, apartV s y) → OwnB w' lo y l
  new : ∀ g, hi ≤ g → g < w.heap.size → w'.heap[g]? = w.heap[g]?
theorem UFr.refl (lo hi : Nat) (ss : List Value) (w : World) : UFr lo hi ss w w := ⟨Below.refl _ _, rfl, fun _ _ h _ => h, fun _ _ _ => rfl⟩
theorem UFr.line {lo hi : Nat} {ss : List Value} {w w1 w2 : World} {y : Value} {l : List Nat} (h : UFr lo hi ss w w1) (hlo : lo ≤ w.heap.size) (hy : y ∈ ss) (hh : ∀ g, y.ownBlock = some g → g < hi) (ho : OwnB w1 lo y l) (hg : w1.grownBy w2 y.ownBlock) (hz : w2.heap.size = w1.heap.size) : UFr lo hi ss w w2 :=
  ⟨h.bel.grown hg (by rw [h.sz]; exact hlo) (fun k e => (World.ownsRow.lt ho k e).1), by rw [hz, h.sz], fun z m hz2 hs => World.ownsRow.kept (h.own z m hz2 hs) hg (hs y hy).symm,
    fun g h1 h2 => (hg.block g (by rw [h.sz]; exact h2) (fun e => by have := hh g e.symm; omega)).trans (h.new g h1 h2)⟩
theorem UFr.spine {lo hi e k n : Nat} {ss : List Value} {w w1 w2 : World} {v : Value} {xs : List Value} (h : UFr lo hi ss w w1) (hlo : lo ≤ w.heap.size) (hh : ∀ g, v.ownBlock = some g → g < hi) (ho : w1.ownsRow lo e k v n xs) (he : 5 ≠ e) (hg : w1.grownBy w2 v.ownBlock) (hz : w2.heap.size = w1.heap.size) : UFr lo hi ss w w2 :=
  ⟨h.bel.grown hg (by rw [h.sz]; exact hlo) (fun k e => (World.ownsRow.lt ho k e).1), by rw [hz, h.sz], fun z m hz2 hs => World.ownsRow.kept (h.own z m hz2 hs) hg (ownsA (h.own z m hz2 hs) ho he),
    fun g h1 h2 => (hg.block g (by rw [h.sz]; exact h2) (fun e => by have := hh g e.symm; omega)).trans (h.new g h1 h2)⟩
end Go.Proofs.YtledlicandlekaaDoor
