import Derived.Test.YtledlicandlekaaDoorPka
import Derived.Test.YtledlicandlekaaDoorPkb
import Derived.Test.YtledlicandlekaaDoorShelf
import Derived.Test.YtledlicandlekaaDoorPkc
import Derived.Test.YtledlicandlekaaDoorShelfB
import Derived.Test.YtledlicandlekaaDoorPkd
import Derived.Test.YtledlicandlekaaDoorPke
import Derived.Test.YtledlicandlekaaDoorPkf
namespace Go.Proofs.YtledlicandlekaaDoor
open Go.RowKit
theorem slicesU_cons (x : U4) (vs : List U4) : slicesU (x :: vs) = x.1 :: x.2.1 :: slicesU vs := rfl
theorem slicesU_get (vs : List U4) (i : Nat) (h : i < vs.length) : (slicesU vs)[i * 2]? = some vs[i].1 ∧ (slicesU vs)[i * 2 + 1]? = some vs[i].2.1 := by
  induction vs generalizing i with
  | nil => simp at h
  | cons x r ih =>
    cases i with
    | zero => exact ⟨rfl, rfl⟩
    | succ i =>
      obtain ⟨h0, h1⟩ := ih i (by simpa using h)
      refine ⟨?_, ?_⟩
      · rw [slicesU_cons, show (i + 1) * 2 = i * 2 + 1 + 1 from by omega]; simpa using h0
      · rw [slicesU_cons, show (i + 1) * 2 + 1 = i * 2 + 1 + 1 + 1 from by omega]; simpa using h1
theorem apartV.symm {a b : Value} (h : apartV a b) : apartV b a := by
  cases hb : b.ownBlock with
  | none => exact .inl hb
  | some g =>
    refine .inr fun e => ?_
    rcases h with h | h
    · rw [hb, h] at e; cases e
    · exact h e.symm
theorem apart_keep {ss : List Value} (h : ss.Pairwise apartV) {p q : Nat} {y z : Value} (hp : ss[p]? = some y) (hq : ss[q]? = some z) (hne : p ≠ q) : apartV y z := by
  obtain ⟨hpl, hy⟩ := List.getElem?_eq_some_iff.1 hp
  obtain ⟨hql, hz⟩ := List.getElem?_eq_some_iff.1 hq
  have hh := List.pairwise_iff_getElem.1 h
  rcases Nat.lt_or_ge p q with hpq | hpq
  · have := hh p q hpl hql hpq
    rw [hy, hz] at this
    exact this
  · have := hh q p hql hpl (by omega)
    rw [hy, hz] at this
    exact this.symm
theorem at_get {vs : List U4} {i : Nat} {x : U4} (h : vs[i]? = some x) : (slicesU vs)[i * 2]? = some x.1 ∧ (slicesU vs)[i * 2 + 1]? = some x.2.1 := by
  obtain ⟨hl, hx⟩ := List.getElem?_eq_some_iff.1 h
  have := slicesU_get vs i hl
  rw [hx] at this
  exact this
/-- One line is written. -/
theorem OwnU.line {w w' : World} {lo i : Nat} {v : Value} {x : U4} {vs : List U4} {us : List UnitM} {l : List Nat} (h : OwnU w lo v vs us) (hi : i < us.length) (hx : vs[i]? = some x) (ho : OwnB w' lo x.1 l) (hg : w.grownBy w' x.1.ownBlock) : OwnU w' lo v vs (us.set i (l, us[i].2)) := by
  obtain ⟨x0, hx0, p1, p2, e⟩ := h.body i hi
  obtain rfl : x0 = x := by rw [hx] at hx0; simpa using hx0.symm
  refine ⟨by rw [List.length_set]; exact h.len, by rw [List.length_set]; exact World.ownsRow.kept h.row hg (ownsA h.row p1 (by decide)), fun j hj => ?_, h.apart⟩
  have hj' : j < us.length := by simpa using hj
  obtain ⟨y, hy, q1, q2, e2⟩ := h.body j hj'
  refine ⟨y, hy, ?_⟩
  have a2 : apartV y.2.1 x0.1 := apart_keep h.apart (at_get hy).2 (at_get hx).1 (by omega)
  by_cases hij : i = j
  · subst hij
    obtain rfl : y = x0 := by rw [hx] at hy; simpa using hy.symm
    rw [List.getElem_set_self]
    exact ⟨ho, World.ownsRow.kept q2 hg a2, e2⟩
  · rw [List.getElem_set_ne hij]
    exact ⟨World.ownsRow.kept q1 hg (apart_keep h.apart (at_get hy).1 (at_get hx).1 (by omega)), World.ownsRow.kept q2 hg a2, e2⟩
/-- One body is written. -/
theorem OwnU.bodyS {w w' : World} {lo i : Nat} {v : Value} {x : U4} {vs : List U4} {us : List UnitM} {l : List Nat} (h : OwnU w lo v vs us) (hi : i < us.length) (hx : vs[i]? = some x) (ho : OwnB w' lo x.2.1 l) (hg : w.grownBy w' x.2.1.ownBlock) : OwnU w' lo v vs (us.set i (us[i].1, l, us[i].2.2)) := by
  obtain ⟨x0, hx0, p1, p2, e⟩ := h.body i hi
  obtain rfl : x0 = x := by rw [hx] at hx0; simpa using hx0.symm
  refine ⟨by rw [List.length_set]; exact h.len, by rw [List.length_set]; exact World.ownsRow.kept h.row hg (ownsA h.row p2 (by decide)), fun j hj => ?_, h.apart⟩
  have hj' : j < us.length := by simpa using hj
  obtain ⟨y, hy, q1, q2, e2⟩ := h.body j hj'
  refine ⟨y, hy, ?_⟩
  have a1 : apartV y.1 x0.2.1 := apart_keep h.apart (at_get hy).1 (at_get hx).2 (by omega)
  by_cases hij : i = j
  · subst hij
    obtain rfl : y = x0 := by rw [hx] at hy; simpa using hy.symm
    rw [List.getElem_set_self]
    exact ⟨World.ownsRow.kept q1 hg a1, ho, e2⟩
  · rw [List.getElem_set_ne hij]
    exact ⟨World.ownsRow.kept q1 hg a1, World.ownsRow.kept q2 hg (apart_keep h.apart (at_get hy).2 (at_get hx).2 (by omega)), e2⟩
theorem cellsU_set (vs : List U4) (i : Nat) (p q : Bool) (h : i < vs.length) : ((cellsU vs).set (i * 4 + 2) (.bool p)).set (i * 4 + 3) (.bool q) = cellsU (vs.set i (vs[i].1, vs[i].2.1, p, q)) := by
  induction vs generalizing i with
  | nil => simp at h
  | cons x r ih =>
    cases i with
    | zero => simp [cellsU_cons]
    | succ i =>
      rw [cellsU_cons, show (i + 1) * 4 + 2 = i * 4 + 2 + 1 + 1 + 1 + 1 from by omega, show (i + 1) * 4 + 3 = i * 4 + 3 + 1 + 1 + 1 + 1 from by omega]
      simp only [List.set_cons_succ, List.getElem_cons_succ, cellsU_cons]
      rw [ih i (by simpa using h)]
theorem slicesU_set (vs : List U4) (i : Nat) (p q : Bool) (h : i < vs.length) : slicesU (vs.set i (vs[i].1, vs[i].2.1, p, q)) = slicesU vs := by
  induction vs generalizing i with
  | nil => simp at h
  | cons x r ih =>
    cases i with
    | zero => simp [slicesU_cons]
    | succ i =>
      simp only [List.set_cons_succ, List.getElem_cons_succ, slicesU_cons]
      rw [ih i (by simpa using h)]
/-- Both booleans of one unit are put. -/
theorem OwnU.flags {w : World} {lo g n cap i : Nat} {p q : Bool} {vs : List U4} {us : List UnitM} (h : OwnU w lo (.slice (some ⟨g, 0, none⟩) n cap) vs us) (hi : i < us.length) :
    ∃ vs', slicesU vs' = slicesU vs ∧ OwnU ((w.setCell ⟨g, i * 4 + 2, none⟩ (.bool p)).setCell ⟨g, i * 4 + 3, none⟩ (.bool q)) lo (.slice (some ⟨g, 0, none⟩) n cap) vs' (us.set i (us[i].1, us[i].2.1, p, q)) ∧ w.grownBy ((w.setCell ⟨g, i * 4 + 2, none⟩ (.bool p)).setCell ⟨g, i * 4 + 3, none⟩ (.bool q)) (some g) := by
  have hl := h.len
  have h0 := h.row
  have hn : n = us.length := by
    obtain ⟨a', c', e⟩ := h.slice
    simp only [Value.slice.injEq] at e
    exact e.2.1
  subst hn
  have s1 := World.ownsRow.stored h0 (i * 4 + 2) (.bool p)
  have s2 := World.ownsRow.stored s1.1 (i * 4 + 3) (.bool q)
  have hg := grown_trans s1.2 s2.2
  have hiv : i < vs.length := by omega
  refine ⟨vs.set i (vs[i].1, vs[i].2.1, p, q), slicesU_set vs i p q hiv, ⟨by rw [List.length_set, List.length_set]; exact hl, by rw [List.length_set, ← cellsU_set vs i p q hiv]; exact s2.1, fun j hj => ?_, by rw [slicesU_set vs i p q hiv]; exact h.apart⟩, hg⟩
  have hj' : j < us.length := by simpa using hj
  obtain ⟨y, hy, q1, q2, e2⟩ := h.body j hj'
  have k1 := World.ownsRow.kept q1 hg (ownsA q1 h0 (by decide))
  have k2 := World.ownsRow.kept q2 hg (ownsA q2 h0 (by decide))
  by_cases hij : i = j
  · subst hij
    obtain ⟨hl2, hy2⟩ := List.getElem?_eq_some_iff.1 hy
    refine ⟨(vs[i].1, vs[i].2.1, p, q), by rw [List.getElem?_set_self hiv], ?_⟩
    rw [List.getElem_set_self, hy2]
    exact ⟨k1, k2, rfl⟩
  · refine ⟨y, by rw [List.getElem?_set_ne hij]; exact hy, ?_⟩
    rw [List.getElem_set_ne hij]
    exact ⟨k1, k2, e2⟩
/-- The cells of a list of units of the call's own. -/
theorem OwnU.cells {w : World} {lo : Nat} {a : Option Addr} {n cap : Nat} {vs : List U4} {us : List UnitM} (h : OwnU w lo (.slice a n cap) vs us) (hp : 0 < us.length) :
    ∃ g, a = some ⟨g, 0, none⟩ ∧ lo ≤ g ∧ (∀ o, w.frozen? ⟨g, o, none⟩ = false) ∧ ∀ i (hi : i < us.length), ∃ ai ci pi qi p q, vs[i]? = some (.slice ai us[i].1.length ci, .slice pi us[i].2.1.length qi, p, q) ∧ w.cell? ⟨g, i * 4, none⟩ = some (.slice ai us[i].1.length ci) ∧ w.cell? ⟨g, i * 4 + 1, none⟩ = some (.slice pi us[i].2.1.length qi) ∧ w.cell? ⟨g, i * 4 + 2, none⟩ = some (.bool p) ∧ w.cell? ⟨g, i * 4 + 3, none⟩ = some (.bool q) ∧ OwnB w lo (.slice ai us[i].1.length ci) us[i].1 ∧ OwnB w lo (.slice pi us[i].2.1.length qi) us[i].2.1 := by
  have hfz := fun (g : Nat) (o : Nat) (e : a = some ⟨g, 0, none⟩) (e2 : n = us.length) => World.ownsRow.frozenAt (by rw [e, e2] at h; exact h.row) o
  rcases h.row.2 with ⟨_, h0⟩ | ⟨g, c, cur, hv, hlo, hg, hcs⟩
  · omega
  · obtain ⟨rfl, rfl, rfl⟩ : a = some ⟨g, 0, none⟩ ∧ n = us.length ∧ cap = c := by simpa using hv
    have hcell : ∀ j, j < us.length * 4 → w.cell? ⟨g, j, none⟩ = (cellsU vs)[j]? := fun j hj => by
      rw [cell_of_row w g j _ _ (0, 0) hg, ← hcs.2.2.2, List.getElem?_take, if_pos hj]
      simp
    refine ⟨g, rfl, hlo, fun o => hfz g o rfl rfl, fun i hi => ?_⟩
    have hvi : i < vs.length := by rw [h.len]; exact hi
    obtain ⟨⟨x1, x2, p, q⟩, hx, p1, p2, e⟩ := h.body i hi
    have hx' := hx
    rw [List.getElem?_eq_getElem hvi, Option.some.injEq] at hx
    obtain ⟨c0, c1, c2, c3⟩ := cellsU_get vs i hvi
    rw [hx] at c0 c1 c2 c3
    simp only [] at c0 c1 c2 c3 p1 p2
    obtain ⟨ai, ci, h1⟩ := p1.slice
    obtain ⟨pi, qi, h2⟩ := p2.slice
    rw [h1] at c0 p1 hx'
    rw [h2] at c1 p2 hx'
    refine ⟨ai, ci, pi, qi, p, q, hx', ?_, ?_, ?_, ?_, p1, p2⟩
    · rw [hcell _ (by omega)]; exact c0
    · rw [hcell _ (by omega)]; exact c1
    · rw [hcell _ (by omega)]; exact c2
    · rw [hcell _ (by omega)]; exact c3
/-- Bytes apart from all lines and bodies are written. -/
theorem OwnU.grownR {w w' : World} {lo b2 n : Nat} {v y : Value} {xs : List Value} {vs : List U4} {us : List UnitM} (h : OwnU w lo v vs us) (hg : w.grownBy w' y.ownBlock) (ha : ∀ s ∈ slicesU vs, apartV s y) (ho : w.ownsRow b2 5 1 y n xs) : OwnU w' lo v vs us := by
  refine ⟨h.len, World.ownsRow.kept h.row hg (ownsA h.row ho (by decide)), fun i hi => ?_, h.apart⟩
  obtain ⟨x, hx, p1, p2, e⟩ := h.body i hi
  exact ⟨x, hx, World.ownsRow.kept p1 hg (ha _ (List.mem_of_getElem? (at_get hx).1)), World.ownsRow.kept p2 hg (ha _ (List.mem_of_getElem? (at_get hx).2)), e⟩
/-- A list of units of which the first j are marked. -/
def muM (k : Nat) (us : List UnitM) (j : Nat) : List UnitM := (mus k us).take j ++ us.drop j
theorem muM_zero (k : Nat) (us : List UnitM) : muM k us 0 = us := by simp [muM]
theorem muM_len (k : Nat) (us : List UnitM) : muM k us us.length = mus k us := by
  unfold muM
  rw [List.take_of_length_le (by rw [mus_length]; exact Nat.le_refl _)]; simp
theorem muM_length (k : Nat) (us : List UnitM) (j : Nat) (h : j ≤ us.length) : (muM k us j).length = us.length := by
  unfold muM
  rw [List.length_append, List.length_take, List.length_drop, mus_length]; omega
theorem muM_at (k : Nat) (us : List UnitM) (j : Nat) (h : j < us.length) (h' : j < (muM k us j).length) : (muM k us j)[j] = us[j] := by
  have e : (muM k us j)[j]? = some us[j] := by
    unfold muM
    have hl : ((mus k us).take j).length = j := by rw [List.length_take, mus_length]; omega
    rw [List.getElem?_append_right (by omega), hl, Nat.sub_self, List.drop_eq_getElem_cons h]; rfl
  rw [List.getElem?_eq_getElem h'] at e
  simpa using e
theorem muM_set (k : Nat) (us : List UnitM) (j : Nat) (h : j < us.length) : (muM k us j).set j (mark1 (kAt k us j) us[j]) = muM k us (j + 1) := by
  unfold muM
  have hl : ((mus k us).take j).length = j := by rw [List.length_take, mus_length]; omega
  rw [List.set_append_right _ _ (by omega), hl, Nat.sub_self, List.drop_eq_getElem_cons h, List.set_cons_zero, List.take_add_one, mus_at k us j h]
  simp
/-- What marking a list of units leaves as it was. -/
structure UFr (lo hi : Nat) (ss : List Value) (w w' : World) : Prop where
  bel : Below lo w w'
  sz : w'.heap.size = w.heap.size
  own : ∀ y l, OwnB w lo y l → (∀ s ∈ ss, apartV s y) → OwnB w' lo y l
  new : ∀ g, hi ≤ g → g < w.heap.size → w'.heap[g]? = w.heap[g]?
theorem UFr.refl (lo hi : Nat) (ss : List Value) (w : World) : UFr lo hi ss w w := ⟨Below.refl _ _, rfl, fun _ _ h _ => h, fun _ _ _ => rfl⟩
theorem UFr.line {lo hi : Nat} {ss : List Value} {w w1 w2 : World} {y : Value} {l : List Nat} (h : UFr lo hi ss w w1) (hlo : lo ≤ w.heap.size) (hy : y ∈ ss) (hh : ∀ g, y.ownBlock = some g → g < hi) (ho : OwnB w1 lo y l) (hg : w1.grownBy w2 y.ownBlock) (hz : w2.heap.size = w1.heap.size) : UFr lo hi ss w w2 :=
  ⟨h.bel.grown hg (by rw [h.sz]; exact hlo) (fun k e => (World.ownsRow.lt ho k e).1), by rw [hz, h.sz], fun z m hz2 hs => World.ownsRow.kept (h.own z m hz2 hs) hg (hs y hy).symm,
    fun g h1 h2 => (hg.block g (by rw [h.sz]; exact h2) (fun e => by have := hh g e.symm; omega)).trans (h.new g h1 h2)⟩
theorem UFr.spine {lo hi e k n : Nat} {ss : List Value} {w w1 w2 : World} {v : Value} {xs : List Value} (h : UFr lo hi ss w w1) (hlo : lo ≤ w.heap.size) (hh : ∀ g, v.ownBlock = some g → g < hi) (ho : w1.ownsRow lo e k v n xs) (he : 5 ≠ e) (hg : w1.grownBy w2 v.ownBlock) (hz : w2.heap.size = w1.heap.size) : UFr lo hi ss w w2 :=
  ⟨h.bel.grown hg (by rw [h.sz]; exact hlo) (fun k e => (World.ownsRow.lt ho k e).1), by rw [hz, h.sz], fun z m hz2 hs => World.ownsRow.kept (h.own z m hz2 hs) hg (ownsA (h.own z m hz2 hs) ho he),
    fun g h1 h2 => (hg.block g (by rw [h.sz]; exact h2) (fun e => by have := hh g e.symm; omega)).trans (h.new g h1 h2)⟩
end Go.Proofs.YtledlicandlekaaDoor
namespace Go.Proofs.YtledlicandlekaaDoor
open Go.RowKit
theorem OwnU.cellAt {w : World} {lo g n cap i : Nat} {vs : List U4} {us : List UnitM} {x : U4} (h : OwnU w lo (.slice (some ⟨g, 0, none⟩) n cap) vs us) (hx : vs[i]? = some x) :
    w.cell? ⟨g, i * 4, none⟩ = some x.1 ∧ w.cell? ⟨g, i * 4 + 1, none⟩ = some x.2.1 ∧ w.cell? ⟨g, i * 4 + 2, none⟩ = some (.bool x.2.2.1) ∧ w.cell? ⟨g, i * 4 + 3, none⟩ = some (.bool x.2.2.2) ∧ ∀ o, w.frozen? ⟨g, o, none⟩ = false := by
  obtain ⟨hl, rfl⟩ := List.getElem?_eq_some_iff.1 hx
  obtain ⟨e0, e1, e2, e3⟩ := cellsU_get vs i hl
  have hn : n = us.length := by
    obtain ⟨a', c', e⟩ := h.slice
    simp only [Value.slice.injEq] at e
    exact e.2.1
  subst hn
  have h0 := World.ownsRow.cells h.row (g := g) rfl _ _ e0
  have h1 := World.ownsRow.cells h.row (g := g) rfl _ _ e1
  have h2 := World.ownsRow.cells h.row (g := g) rfl _ _ e2
  have h3 := World.ownsRow.cells h.row (g := g) rfl _ _ e3
  rw [addr_add, Nat.zero_add] at h0 h1 h2 h3
  exact ⟨h0, h1, h2, h3, fun o => World.ownsRow.frozenAt h.row o⟩
theorem OwnU.bodyAt {w : World} {lo i : Nat} {v : Value} {vs : List U4} {us : List UnitM} {x : U4} (h : OwnU w lo v vs us) (hi : i < us.length) (hx : vs[i]? = some x) : OwnB w lo x.1 us[i].1 ∧ OwnB w lo x.2.1 us[i].2.1 := by
  obtain ⟨y, hy, o1, o2, _⟩ := h.body i hi
  obtain rfl : y = x := by rw [hx] at hy; simpa using hy.symm
  exact ⟨o1, o2⟩
set_option maxHeartbeats 1000000 in
theorem markUnitS_any (lo hi k : Nat) (a : Option Addr) (cap : Nat) (us : List UnitM) (vs : List U4) (w : World) (hk : kAt k us us.length ≤ 4503599627370496) (hl : us.length ≤ 4503599627370496) (hlo : lo ≤ w.heap.size) (hown : OwnU w lo (.slice a us.length cap) vs us) (hsp : ∀ g, (Value.slice a us.length cap).ownBlock = some g → g < hi) (hin : ∀ s ∈ slicesU vs, ∀ g, s.ownBlock = some g → g < hi) :
    Calls Tryd.prog 26 #[.slice a us.length cap, .int .i64 (k : Int)] w fun e w' => e = .returned (.int .i64 ((kAt k us us.length : Nat) : Int)) ∧ (∃ vs', slicesU vs' = slicesU vs ∧ OwnU w' lo (.slice a us.length cap) vs' (mus k us)) ∧ UFr lo hi (slicesU vs) w w' := by
  go_enter Tryd.func26, Tryd.ntmps26
  go_wp2
  go_loopw [1, 5] (fun s i wr => ∃ j : Nat, j ≤ us.length ∧ i = .int .i64 j ∧ s = .int .i64 ((kAt k us j : Nat) : Int) ∧ (∃ vs', slicesU vs' = slicesU vs ∧ OwnU wr lo (.slice a us.length cap) vs' (muM k us j)) ∧ UFr lo hi (slicesU vs) w wr) (fun _ i _ => us.length - (intOf i).toNat)
  case atStart => exact ⟨0, Nat.zero_le _, rfl, by cases us <;> rfl, ⟨vs, rfl, by rw [muM_zero]; exact hown⟩, UFr.refl _ _ _ _⟩
  case round =>
    obtain ⟨j, hj, rfl, rfl, ⟨vs1, hm1, hown'⟩, hfr⟩ := hrel
    clear hown
    by_cases hlt : j < us.length
    · have hml := muM_length k us j hj
      obtain ⟨g, rfl, hgl, hfz, hc⟩ := hown'.cells (by omega)
      obtain ⟨ai, ci, pi, qi, p, q, hx, c0, c1, c2, c3, o1, o2⟩ := hc j (by omega)
      have hat := muM_at k us j hlt (by omega)
      have hset := muM_set k us j hlt
      have hkj := kAt_succ k us j hlt
      have hk1 := kAt_le k us (j + 1) (by omega)
      have HKJ := hide hkj
      rw [hkj] at hk1
      unfold unK at hk1
      have HUL := hide (show unK us[j] = us[j].1.length + us[j].2.1.length + 2 from rfl)
      have HK := hide (Nat.le_trans hk1 hk)
      rw [hat] at hx c0 c1 o1 o2
      have hin1 : Value.slice ai us[j].1.length ci ∈ slicesU vs := by rw [← hm1]; exact List.mem_of_getElem? (at_get hx).1
      have hin2 : Value.slice pi us[j].2.1.length qi ∈ slicesU vs := by rw [← hm1]; exact List.mem_of_getElem? (at_get hx).2
      have L1 := hide (fun w1 (o : OwnB w1 lo (.slice ai us[j].1.length ci) (marks (kAt k us j) us[j].1.length)) (gr : wr.grownBy w1 (Value.slice ai us[j].1.length ci).ownBlock) => hown'.line (by omega) hx o gr)
      have F1 := hide (fun w1 (gr : wr.grownBy w1 (Value.slice ai us[j].1.length ci).ownBlock) (hz : w1.heap.size = wr.heap.size) => hfr.line hlo hin1 (hin _ hin1) o1 gr hz)
      have O1 := hide o1
      have hK := HK.out
      have HX0 := hide hx
      have HAT := hide hat
      have HSET := hide hset
      have HM1 := hide hm1
      have HO := hide hown'
      clear hkj hk1 hk c1 c2 c3 o1 o2 hfz hc hfr hx hat hset hm1 hown'
      go_wp2_with fail
      refine (markByteS_any lo ai ci (kAt k us j) us[j].1 wr (by omega) (by omega) O1.out).mono ?_
      rintro e w1 ⟨rfl, m1, g1, z1⟩
      have hown1 := L1.out w1 m1 g1
      have hfr1 := F1.out w1 g1 z1
      simp only [HAT.out] at hown1
      have hj1 : j < ((muM k us j).set j (marks (kAt k us j) us[j].1.length, us[j].2)).length := by rw [List.length_set]; omega
      have o2 := (hown1.bodyAt hj1 HX0.out).2
      simp only [List.getElem_set_self] at o2
      have c1 := (hown1.cellAt HX0.out).2.1
      simp only [] at c1
      have L2 := hide (fun w2 (o : OwnB w2 lo (.slice pi us[j].2.1.length qi) (marks (kAt k us j + us[j].1.length) us[j].2.1.length)) (gr : w1.grownBy w2 (Value.slice pi us[j].2.1.length qi).ownBlock) => hown1.bodyS hj1 HX0.out o gr)
      have F2 := hide (fun w2 (gr : w1.grownBy w2 (Value.slice pi us[j].2.1.length qi).ownBlock) (hz : w2.heap.size = w1.heap.size) => hfr1.line hlo hin2 (hin _ hin2) o2 gr hz)
      have O2 := hide o2
      clear L1 F1 O1 m1 g1 z1 c0 hown1 hfr1 o2 HO
      go_wp2_with fail
      refine (markByteS_any lo pi qi (kAt k us j + us[j].1.length) us[j].2.1 w1 (by omega) (by omega) O2.out).mono ?_
      rintro e w2 ⟨rfl, m2, g2, z2⟩
      have hown2 := L2.out w2 m2 g2
      have hfr2 := F2.out w2 g2 z2
      simp only [List.getElem_set_self, List.set_set] at hown2
      obtain ⟨-, -, c2, c3, hfz⟩ := hown2.cellAt HX0.out
      simp only [] at c2 c3
      have f2 := hfz (j * 4 + 2)
      have f3 := hfz (j * 4 + 3)
      have hj2 : j < ((muM k us j).set j (marks (kAt k us j) us[j].1.length, marks (kAt k us j + us[j].1.length) us[j].2.1.length, us[j].2.2)).length := by rw [List.length_set]; omega
      obtain ⟨vs3, hs3, hown3, hg3⟩ := hown2.flags (i := j) (p := decide ((kAt k us j + us[j].1.length + us[j].2.1.length) % 3 = 0)) (q := decide ((kAt k us j + us[j].1.length + us[j].2.1.length + 1) % 3 = 0)) hj2
      simp only [List.getElem_set_self, List.set_set] at hown3
      have hset2 := HSET.out
      unfold mark1 at hset2
      rw [hset2] at hown3
      have hfr3 := hfr2.spine hlo hsp hown2.row (by decide) hg3 (by simp)
      have HX := hide (And.intro (show ∃ vs', slicesU vs' = slicesU vs ∧ OwnU _ lo (.slice (some ⟨g, 0, none⟩) us.length cap) vs' (muM k us (j + 1)) from ⟨vs3, hs3.trans HM1.out, hown3⟩) hfr3)
      clear hown2 hfr2 hown3 hfr3 hg3 hset2 hs3 m2 g2 z2 L2 F2 O2 c1 hfz hj1 hj2 HX0 HAT HSET HM1 hin1 hin2 hin hsp hml
      generalize kAt k us j = K at *
      generalize us[j].1.length = L at *
      generalize us[j].2.1.length = M at *
      generalize hR : K + L + M = R at *
      have hb2 : decide (R % 3 = 0) = ((R : Int) % 3 == 0) := by rw [Bool.eq_iff_iff]; simp; omega
      have hb3 : decide ((R + 1) % 3 = 0) = (((R : Int) + 1) % 3 == 0) := by rw [Bool.eq_iff_iff]; simp; omega
      rw [hb2, hb3] at HX
      have HRR := hide hR
      have hRb : R ≤ 4503599627370494 := by omega
      clear hb2 hb3 hR hK
      go_wp2
      go_roundw
      case rel => exact ⟨j + 1, by omega, by go_num, val_int (by have h1 := HKJ.out; have h2 := HUL.out; have h5 := HRR.out; omega), HX.out.1, HX.out.2⟩
      case measure => simp [intOf]; omega
    · obtain rfl : j = us.length := by omega
      rw [muM_len] at hown'
      go_wp2
      go_ret
      exact ⟨rfl, ⟨vs1, hm1, hown'⟩, hfr⟩
end Go.Proofs.YtledlicandlekaaDoor
namespace Go.Proofs.YtledlicandlekaaDoor
open Go.RowKit
theorem oneOf_unK {lits : Bool} {d : List Nat} {u : UnitM} {k : Nat} (h : oneOf lits d = some (u, k)) : unK u ≤ k := by
  unfold oneOf at h
  cases he : findEnd d with
  | none => rw [he] at h; cases h
  | some e =>
    obtain ⟨h1, _, _⟩ := findEnd_lt he
    rw [he] at h
    simp only at h
    split at h
    · simp only [Option.some.injEq, Prod.mk.injEq] at h
      rw [← h.1]; unfold unK badU; simp; omega
    · split at h
      · simp only [Option.some.injEq, Prod.mk.injEq] at h
        rw [← h.1]; unfold unK; simp; omega
      · next n i hli =>
        have hi : i < e := by
          split at hli
          · have := (litOf_lt hli).1
            rw [List.length_take] at this; omega
          · cases hli
        repeat' split at h
        all_goals first
          | (cases h; done)
          | (simp only [Option.some.injEq, Prod.mk.injEq] at h; rw [← h.1]; unfold unK; first | (unfold badU; simp; omega) | (simp; omega))
theorem cut_sum (lits : Bool) : ∀ (f : Nat) (d : List Nat) (k : Nat), kAt k (cutOf lits f d).1 (cutOf lits f d).1.length + (cutOf lits f d).2.length ≤ k + d.length
  | 0, d, k => Nat.le_refl _
  | f + 1, d, k => by
    cases ho : oneOf lits d with
    | none =>
      have e : cutOf lits (f + 1) d = ([], d) := by simp only [cutOf, ho]
      rw [e]
      exact Nat.le_refl _
    | some x =>
      obtain ⟨u, n⟩ := x
      have e : cutOf lits (f + 1) d = (u :: (cutOf lits f (d.drop n)).1, (cutOf lits f (d.drop n)).2) := by simp only [cutOf, ho]
      rw [e]
      have h1 := cut_sum lits f (d.drop n) (k + unK u)
      have h2 := oneOf_unK ho
      have h3 := (oneOf_size ho).2
      rw [List.length_drop] at h1
      show kAt (k + unK u) (cutOf lits f (d.drop n)).1 (cutOf lits f (d.drop n)).1.length + _ ≤ _
      show _ + (cutOf lits f (d.drop n)).2.length ≤ _
      omega
theorem kAt_count : ∀ (k : Nat) (us : List UnitM), k + us.length ≤ kAt k us us.length
  | k, [] => Nat.le_refl _
  | k, u :: r => by
    have h := kAt_count (k + unK u) r
    show k + (r.length + 1) ≤ kAt (k + unK u) r r.length
    unfold unK at h ⊢
    omega
theorem kAt_mem (k : Nat) (us : List UnitM) (i : Nat) (h : i < us.length) : unK us[i] ≤ kAt k us us.length := by
  have h1 := kAt_le k us (i + 1) (by omega)
  rw [kAt_succ k us i h] at h1
  omega
theorem kAt_each (k : Nat) (us : List UnitM) : ∀ u ∈ us, u.1.length ≤ kAt k us us.length ∧ u.2.1.length ≤ kAt k us us.length := by
  intro u hu
  obtain ⟨i, hi, rfl⟩ := List.getElem_of_mem hu
  have := kAt_mem k us i hi
  unfold unK at this
  omega
set_option maxHeartbeats 1000000 in
theorem markUnits_any (lo hi k : Nat) (a p : Option Addr) (cap q : Nat) (us : List UnitM) (r : List Nat) (vs : List U4) (w : World) (hk : kAt k us us.length ≤ 4503599627370496) (hl : us.length ≤ 4503599627370496) (hr : r.length ≤ 1048576) (hlo : lo ≤ w.heap.size) (hown : OwnU w lo (.slice a us.length cap) vs us) (hrest : OwnB w lo (.slice p r.length q) r) (hap : ∀ y ∈ slicesU vs, apartV y (.slice p r.length q)) (hhi : hi ≤ w.heap.size) (hsp : ∀ g, (Value.slice a us.length cap).ownBlock = some g → g < hi) (hin : ∀ s ∈ slicesU vs, ∀ g, s.ownBlock = some g → g < hi) (hrs : ∀ g, (Value.slice p r.length q).ownBlock = some g → g < hi) :
    Calls Tryd.prog 12 #[.agg #[.slice a us.length cap, .slice p r.length q], .int .i64 (k : Int)] w fun e w' => e = .returned (.int .i64 ((kAt k us us.length + r.length : Nat) : Int)) ∧ (∃ vs', OwnU w' lo (.slice a us.length cap) vs' (mus k us)) ∧ OwnB w' lo (.slice p r.length q) (marks (kAt k us us.length) r.length) ∧ Below lo w w' ∧ (∀ g, hi ≤ g → g < w.heap.size → w'.heap[g]? = w.heap[g]?) := by
  have hb := (Below.refl w.heap.size w).alloc (Nat.le_refl _) (.cells #[.slice a us.length cap, .slice p r.length q] 25)
  have hbox := blk_new w #[.slice a us.length cap, .slice p r.length q] 25
  have H1 := hide (markUnitS_any lo hi k a cap us vs _ hk hl (Nat.le_trans hlo hb.size) (hown.below hb (Nat.le_refl _)) hsp hin)
  have HR := hide (hrest.below hb (Nat.le_refl _))
  have HB := hide (hb.mono hlo)
  have HK0 := hide (fun g (hg : g < w.heap.size) => hb.block g hg)
  have HZ := hide hb.size
  have HX := hide hbox
  have HAP := hide hap
  clear hb hbox hown hrest hap
  go_enter Tryd.func12, Tryd.ntmps12
  go_wp2_with fail
  generalize w.alloc (.cells #[.slice a us.length cap, .slice p r.length q] 25) = w1 at H1 HR HB HX HK0 HZ ⊢
  refine H1.out.mono ?_
  rintro e w2 ⟨rfl, ⟨vs2, hs2, o2⟩, f2⟩
  have hx2 : Blk w2 w.heap.size #[.slice a us.length cap, .slice p r.length q] 25 := (f2.new _ hhi (lt_of_block HX.out)).trans HX.out
  have q1 : w2.cell? ⟨w.heap.size, 1, none⟩ = some (.slice p r.length q) := hx2.cell 1
  have hr2 := f2.own _ _ HR.out HAP.out
  have HO2 := hide o2
  have HF2 := hide f2
  have HS2 := hide hs2
  have HR2 := hide hr2
  clear H1 HR HX o2 f2 hs2 hr2 hx2
  have HK := hide hk
  have H3 := hide (markByteS_any lo p q (kAt k us us.length) r w2 hk (by omega) HR2.out)
  generalize hKe : kAt k us us.length = K at H3 HK hk ⊢
  have HKE := hide hKe
  clear hk hKe
  go_wp2_with fail
  refine H3.out.mono ?_
  rintro e w3 ⟨rfl, o3, g3, z3⟩
  have hU : OwnU w3 lo (.slice a us.length cap) vs2 (mus k us) := HO2.out.grownR g3 (fun y hy => HAP.out y (by rw [← HS2.out]; exact hy)) HR2.out
  have hB : Below lo w w3 := (HB.out.trans HF2.out.bel).grown g3 (Nat.le_trans hlo (HB.out.trans HF2.out.bel).size) (fun b hb => (World.ownsRow.lt HR2.out b hb).1)
  have hN : ∀ g, hi ≤ g → g < w.heap.size → w3.heap[g]? = w.heap[g]? := fun g h1 h2 => (g3.block g (by rw [HF2.out.sz]; exact Nat.lt_of_lt_of_le h2 HZ.out) (fun e => by have := hrs g e.symm; omega)).trans ((HF2.out.new g h1 (Nat.lt_of_lt_of_le h2 HZ.out)).trans (HK0.out g h2))
  go_wp2
  go_ret
  exact ⟨ret_int (by rw [HKE.out]; omega), ⟨vs2, hU⟩, by rw [HKE.out]; exact o3, hB, hN⟩
end Go.Proofs.YtledlicandlekaaDoor
namespace Go.Proofs.YtledlicandlekaaDoor
open Go.RowKit
theorem below_more {w w1 w2 : World} (h : Below w.heap.size w w1) (k : Below w1.heap.size w1 w2) : Below w.heap.size w w2 := h.trans (k.mono h.size)
theorem drewn_below {w w1 : World} {n : Nat} (h : w1 = w.drewN n) : Below w.heap.size w w1 := by rw [h]; exact below_drewN (Below.refl _ _) n
theorem tx_of_row {w : World} {b : Nat} {d : List Nat} (h : RowAt w (some ⟨b, 0, none⟩) d) : Tx w b 0 d := fun i hi => by
  obtain ⟨b', off, e, hc⟩ := h (by omega)
  simp only [Option.some.injEq, Addr.mk.injEq, and_true] at e
  obtain ⟨rfl, rfl⟩ := e
  exact hc i hi
/-- An answer in a block of its own: the list, the rest, its box. -/
structure Ans (W : World) (g : Nat) (a p : Option Addr) (n m cap q : Nat) (us : List UnitM) (r : List Nat) : Prop where
  box : BlkN W g (.slice a n cap) (.slice p m q)
  un : UnAt W a us
  row : RowAt W p r
theorem Ans.below {W W' : World} {g : Nat} {a p : Option Addr} {n m cap q : Nat} {us : List UnitM} {r : List Nat} (h : Ans W g a p n m cap q us r) (hb : Below W.heap.size W W') : Ans W' g a p n m cap q us r :=
  ⟨h.box.below hb h.box.lt, h.un.below hb, h.row.below hb⟩
/-- An answer of the call's own. -/
structure AnsO (W : World) (lo g : Nat) (a p : Option Addr) (n m cap q : Nat) (vs : List U4) (us : List UnitM) (r : List Nat) : Prop where
  box : BlkN W g (.slice a n cap) (.slice p m q)
  ow : OwnU W lo (.slice a n cap) vs us
  rest : OwnB W lo (.slice p m q) r
  ap : ∀ y ∈ slicesU vs, apartV y (.slice p m q)
  sp : ∀ b, (Value.slice a n cap).ownBlock = some b → b < g
  sl : ∀ s ∈ slicesU vs, ∀ b, s.ownBlock = some b → b < g
  rs : ∀ b, (Value.slice p m q).ownBlock = some b → b < g
  lo_ : lo ≤ g
theorem AnsO.below {W W' : World} {lo g : Nat} {a p : Option Addr} {n m cap q : Nat} {vs : List U4} {us : List UnitM} {r : List Nat} (h : AnsO W lo g a p n m cap q vs us r) (hb : Below W.heap.size W W') : AnsO W' lo g a p n m cap q vs us r :=
  ⟨h.box.below hb h.box.lt, h.ow.below hb (Nat.le_refl _), h.rest.below hb (Nat.le_refl _), h.ap, h.sp, h.sl, h.rs, h.lo_⟩
theorem AnsO.ans {W : World} {lo g : Nat} {a p : Option Addr} {n m cap q : Nat} {vs : List U4} {us : List UnitM} {r : List Nat} (h : AnsO W lo g a p n m cap q vs us r) : Ans W g a p n m cap q us r :=
  ⟨h.box, h.ow.unAt, h.rest.row⟩
theorem AnsO.keep {W W' : World} {lo g : Nat} {a p : Option Addr} {n m cap q : Nat} {vs : List U4} {us : List UnitM} {r : List Nat} (h : AnsO W lo g a p n m cap q vs us r) (hk : ∀ b, lo ≤ b → b < W.heap.size → W'.heap[b]? = W.heap[b]?) : AnsO W' lo g a p n m cap q vs us r :=
  ⟨(hk g h.lo_ h.box.lt).trans h.box, h.ow.keep hk, ownsK h.rest hk, h.ap, h.sp, h.sl, h.rs, h.lo_⟩
theorem Ans.cells {W : World} {g : Nat} {a p : Option Addr} {n m cap q : Nat} {us : List UnitM} {r : List Nat} (h : Ans W g a p n m cap q us r) : W.cell? ⟨g, 0, none⟩ = some (.slice a n cap) ∧ W.cell? ⟨g, 1, none⟩ = some (.slice p m q) := ⟨h.box.cell 0, h.box.cell 1⟩
/-- What was handed back, put into its box. -/
theorem ans_new {w w' : World} {v rv : Value} {vs : List U4} {us : List UnitM} {r : List Nat} (ow : OwnU w' w.heap.size v vs us) (rest : OwnB w' w.heap.size rv r) (ap : ∀ y ∈ slicesU vs, apartV y rv) (hb : Below w.heap.size w w') :
    ∃ a cap p q, v = .slice a us.length cap ∧ rv = .slice p r.length q ∧ AnsO (w'.alloc (.cells #[.slice a us.length cap, .slice p r.length q] 25)) w.heap.size w'.heap.size a p us.length r.length cap q vs us r := by
  obtain ⟨a, cap, rfl⟩ := ow.slice
  obtain ⟨p, q, rfl⟩ := rest.slice
  have hal := (Below.refl w'.heap.size w').alloc (Nat.le_refl _) (.cells #[.slice a us.length cap, .slice p r.length q] 25)
  exact ⟨a, cap, p, q, rfl, rfl, blk_new w' _ _, ow.below hal (Nat.le_refl _), rest.below hal (Nat.le_refl _), ap, fun b e => (World.ownsRow.lt ow.row b e).2, ow.lt, fun b e => (World.ownsRow.lt rest b e).2, hb.size⟩
end Go.Proofs.YtledlicandlekaaDoor
namespace Go.Proofs.YtledlicandlekaaDoor
open Go.RowKit
/-- What stands at a stream's head stays when more comes. -/
theorem findEnd_app : ∀ {d : List Nat} {e : Nat} (t : List Nat), findEnd d = some e → findEnd (d ++ t) = some e
  | [], _, _, h => by simp [findEnd] at h
  | x :: r, e, t, h => by
    rw [findEnd] at h
    rw [List.cons_append, findEnd]
    by_cases hc : x = 13 ∧ r.head? = some 10
    · rw [if_pos hc] at h
      have hr : (r ++ t).head? = some 10 := by
        cases r with
        | nil => simp at hc
        | cons y r => simpa using hc.2
      rw [if_pos ⟨hc.1, hr⟩]
      exact h
    · rw [if_neg hc] at h
      cases hr : findEnd r with
      | none => rw [hr] at h; cases h
      | some j =>
        rw [hr] at h
        have hl := (findEnd_lt hr).1
        have hne : ¬ (x = 13 ∧ (r ++ t).head? = some 10) := by
          intro h2
          refine hc ⟨h2.1, ?_⟩
          cases r with
          | nil => simp at hl
          | cons y r => simpa using h2.2
        rw [if_neg hne, findEnd_app t hr]
        exact h
theorem take_app {d : List Nat} (t : List Nat) {n : Nat} (h : n ≤ d.length) : (d ++ t).take n = d.take n := List.take_append_of_le_length h
theorem getD_app {d : List Nat} (t : List Nat) {n : Nat} (h : n < d.length) : (d ++ t).getD n 0 = d.getD n 0 := by
  simp [List.getD_eq_getElem?_getD, List.getElem?_append_left h]
theorem drop_take_app {d : List Nat} (t : List Nat) {a n : Nat} (h : a + n ≤ d.length) : ((d ++ t).drop a).take n = (d.drop a).take n := by
  rw [List.drop_append_of_le_length (by omega), List.take_append_of_le_length (by rw [List.length_drop]; omega)]
theorem oneOf_app {lits : Bool} {d : List Nat} {u : UnitM} {k : Nat} (t : List Nat) (h : oneOf lits d = some (u, k)) : oneOf lits (d ++ t) = some (u, k) := by
  unfold oneOf at h ⊢
  cases he : findEnd d with
  | none => rw [he] at h; cases h
  | some e =>
    obtain ⟨hl, _, _⟩ := findEnd_lt he
    rw [he] at h
    rw [findEnd_app t he]
    simp only at h ⊢
    by_cases h3 : 300 < e
    · rw [if_pos h3] at h ⊢; exact h
    · rw [if_neg h3] at h ⊢
      rw [take_app t (show e ≤ d.length by omega)]
      cases hli : (if lits then litOf (d.take e) else none) with
      | none => rw [hli] at h; exact h
      | some x =>
        obtain ⟨n, i⟩ := x
        have hi : i < e := by
          split at hli
          · have := (litOf_lt hli).1
            rw [List.length_take] at this; omega
          · cases hli
        rw [hli] at h
        simp only at h ⊢
        by_cases h8 : 8000 < n
        · rw [if_pos h8] at h ⊢; exact h
        · rw [if_neg h8] at h ⊢
          by_cases hs : d.length < e + 2 + n + 2
          · rw [if_pos hs] at h; cases h
          · rw [if_neg hs] at h
            rw [if_neg (by rw [List.length_append]; omega), getD_app t (show e + 2 + n < d.length by omega), getD_app t (show e + 2 + n + 1 < d.length by omega), drop_take_app t (show e + 2 + n ≤ d.length by omega), take_app t (show i ≤ d.length by omega)]
            exact h
/-- The fuel does not matter once it is enough. -/
theorem cutOf_fuel (lits : Bool) : ∀ (f g : Nat) (d : List Nat), d.length ≤ f → d.length ≤ g → cutOf lits f d = cutOf lits g d
  | 0, g, d, hf, hg => by
    have hd : d = [] := List.eq_nil_of_length_eq_zero (by omega)
    subst hd
    cases g with
    | zero => rfl
    | succ g =>
      have h0 : oneOf lits [] = none := by simp [oneOf, findEnd]
      simp only [cutOf, h0]
  | f + 1, 0, d, hf, hg => by
    have hd : d = [] := List.eq_nil_of_length_eq_zero (by omega)
    subst hd
    have h0 : oneOf lits [] = none := by simp [oneOf, findEnd]
    simp only [cutOf, h0]
  | f + 1, g + 1, d, hf, hg => by
    cases ho : oneOf lits d with
    | none => simp only [cutOf, ho]
    | some x =>
      obtain ⟨u, k⟩ := x
      obtain ⟨h1, h2⟩ := oneOf_size ho
      simp only [cutOf, ho]
      rw [cutOf_fuel lits f g (d.drop k) (by rw [List.length_drop]; omega) (by rw [List.length_drop]; omega)]
def cutAll (lits : Bool) (d : List Nat) : List UnitM × List Nat := cutOf lits d.length d
theorem cutAll_none {lits : Bool} {d : List Nat} (h : oneOf lits d = none) : cutAll lits d = ([], d) := by
  unfold cutAll
  cases hd : d.length with
  | zero => rfl
  | succ n => simp only [cutOf, h]
theorem cutAll_some {lits : Bool} {d : List Nat} {u : UnitM} {k : Nat} (h : oneOf lits d = some (u, k)) : cutAll lits d = (u :: (cutAll lits (d.drop k)).1, (cutAll lits (d.drop k)).2) := by
  obtain ⟨h1, h2⟩ := oneOf_size h
  unfold cutAll
  cases hd : d.length with
  | zero => omega
  | succ n =>
    simp only [cutOf, h]
    rw [cutOf_fuel lits n (d.drop k).length (d.drop k) (by rw [List.length_drop]; omega) (Nat.le_refl _)]
/-- A stream that comes in two pieces is cut as one that comes whole. -/
theorem cut_pieces (lits : Bool) : ∀ (f : Nat) (x y : List Nat), x.length ≤ f → cutAll lits (x ++ y) = ((cutAll lits x).1 ++ (cutAll lits ((cutAll lits x).2 ++ y)).1, (cutAll lits ((cutAll lits x).2 ++ y)).2)
  | 0, x, y, hf => by
    have hx : x = [] := List.eq_nil_of_length_eq_zero (by omega)
    subst hx
    rfl
  | f + 1, x, y, hf => by
    cases ho : oneOf lits x with
    | none => rw [cutAll_none ho]; rfl
    | some z =>
      obtain ⟨u, k⟩ := z
      obtain ⟨h1, h2⟩ := oneOf_size ho
      have ih := cut_pieces lits f (x.drop k) y (by rw [List.length_drop]; omega)
      rw [cutAll_some (oneOf_app y ho), List.drop_append_of_le_length h2, ih, cutAll_some ho]
      rfl
end Go.Proofs.YtledlicandlekaaDoor
namespace Go.Proofs.YtledlicandlekaaDoor
def hd2 (n : Nat) : List Nat := [n / 256 % 256, n % 256]
def be4 (c : Nat) : List Nat := [c / 16777216 % 256, c / 65536 % 256, c / 256 % 256, c % 256]
/-- The frame of a record. -/
def frameB (r : List Nat) : List Nat := hd2 r.length ++ be4 (crcOf (hd2 r.length ++ r)) ++ r
theorem frameB_length (r : List Nat) : (frameB r).length = 6 + r.length := by simp [frameB, hd2, be4]; omega
theorem hd2_lt (n : Nat) : ∀ x ∈ hd2 n, x < 256 := by
  intro x hx; simp [hd2] at hx; omega
theorem be4_lt (n : Nat) : ∀ x ∈ be4 n, x < 256 := by
  intro x hx; simp [be4] at hx; omega
theorem app_lt {a b : List Nat} (ha : ∀ x ∈ a, x < 256) (hb : ∀ x ∈ b, x < 256) : ∀ x ∈ a ++ b, x < 256 := by
  intro x hx; rcases List.mem_append.1 hx with h | h
  · exact ha x h
  · exact hb x h
theorem frameB_lt (r : List Nat) (h : ∀ x ∈ r, x < 256) : ∀ x ∈ frameB r, x < 256 := app_lt (app_lt (hd2_lt _) (be4_lt _)) h
theorem crc_two (a b : List Nat) : crcFold (crcFold 4294967295 a) b = crcFold 4294967295 (a ++ b) := by simp [crcFold]
/-- The frames of the records, or none where a record or the whole is out of bounds. -/
def frameGo (acc : List Nat) : List (List Nat) → Option (List Nat)
  | [] => some acc
  | r :: rs => if r.length < 1 ∨ 2000 < r.length ∨ 40000 < acc.length + 6 + r.length then none else frameGo (acc ++ frameB r) rs
def frameOf (ls : List (List Nat)) : List Nat := (frameGo [] ls).getD []
theorem frameGo_len (acc : List Nat) (ls : List (List Nat)) (r : List Nat) (ha : acc.length ≤ 40000) (h : frameGo acc ls = some r) : r.length ≤ 40000 := by
  induction ls generalizing acc with
  | nil => simp [frameGo] at h; subst h; exact ha
  | cons x t ih =>
    simp only [frameGo] at h
    split at h
    · cases h
    · exact ih _ (by rw [List.length_append, frameB_length]; omega) h
theorem frameOf_len (ls : List (List Nat)) : (frameOf ls).length ≤ 40000 := by
  unfold frameOf
  cases h : frameGo [] ls with
  | none => simp
  | some r => exact frameGo_len [] ls r (by simp) h
theorem frameGo_lt (acc : List Nat) (ls : List (List Nat)) (r : List Nat) (ha : ∀ x ∈ acc, x < 256) (hl : ∀ l ∈ ls, ∀ x ∈ l, x < 256) (h : frameGo acc ls = some r) : ∀ x ∈ r, x < 256 := by
  induction ls generalizing acc with
  | nil => simp [frameGo] at h; subst h; exact ha
  | cons x t ih =>
    simp only [frameGo] at h
    split at h
    · cases h
    · exact ih _ (app_lt ha (frameB_lt x (hl x List.mem_cons_self))) (fun l h' => hl l (List.mem_cons_of_mem _ h')) h
theorem frameOf_lt (ls : List (List Nat)) (hl : ∀ l ∈ ls, ∀ x ∈ l, x < 256) : ∀ x ∈ frameOf ls, x < 256 := by
  unfold frameOf
  cases h : frameGo [] ls with
  | none => intro x hx; simp at hx
  | some r => exact frameGo_lt [] ls r (fun x hx => by cases hx) hl h
end Go.Proofs.YtledlicandlekaaDoor
namespace Go.Proofs.YtledlicandlekaaDoor
/-- The length that the first two bytes tell. -/
def len2 (d : List Nat) : Nat := d.getD 0 0 * 256 + d.getD 1 0
/-- The record of the frame that d begins with. -/
def firstOf (d : List Nat) : Option (List Nat) :=
  if d.length < 6 then none
  else if len2 d < 1 ∨ 2000 < len2 d ∨ d.length < 6 + len2 d then none
  else if frameB ((d.drop 6).take (len2 d)) = d.take (6 + len2 d) then some ((d.drop 6).take (len2 d)) else none
theorem firstOf_short {d : List Nat} (h : d.length < 6) : firstOf d = none := by simp [firstOf, h]
theorem firstOf_bad {d : List Nat} (h0 : ¬ d.length < 6) (h : len2 d < 1 ∨ 2000 < len2 d ∨ d.length < 6 + len2 d) : firstOf d = none := by
  unfold firstOf; rw [if_neg h0, if_pos h]
theorem firstOf_no {d : List Nat} (h0 : ¬ d.length < 6) (h : ¬ (len2 d < 1 ∨ 2000 < len2 d ∨ d.length < 6 + len2 d)) (hf : ¬ frameB ((d.drop 6).take (len2 d)) = d.take (6 + len2 d)) : firstOf d = none := by
  unfold firstOf; rw [if_neg h0, if_neg h, if_neg hf]
theorem firstOf_yes {d : List Nat} (h0 : ¬ d.length < 6) (h : ¬ (len2 d < 1 ∨ 2000 < len2 d ∨ d.length < 6 + len2 d)) (hf : frameB ((d.drop 6).take (len2 d)) = d.take (6 + len2 d)) : firstOf d = some ((d.drop 6).take (len2 d)) := by
  unfold firstOf; rw [if_neg h0, if_neg h, if_pos hf]
theorem firstOf_len {d r : List Nat} (h : firstOf d = some r) : 1 ≤ r.length ∧ r.length ≤ 2000 ∧ 6 + r.length ≤ d.length := by
  unfold firstOf at h
  split at h
  · cases h
  · split at h
    · cases h
    · split at h
      · simp only [Option.some.injEq] at h
        subst h
        simp; omega
      · cases h
theorem firstOf_lt {d r : List Nat} (hd : ∀ x ∈ d, x < 256) (h : firstOf d = some r) : ∀ x ∈ r, x < 256 := by
  unfold firstOf at h
  split at h
  · cases h
  · split at h
    · cases h
    · split at h
      · simp only [Option.some.injEq] at h
        subst h
        intro x hx
        exact hd x (List.mem_of_mem_drop (List.mem_of_mem_take hx))
      · cases h
def unfGo (d : List Nat) : Nat → List (List Nat) → Nat → List (List Nat) × Nat
  | 0, rs, g => (rs, g)
  | f + 1, rs, g => match firstOf (d.drop g) with
    | none => (rs, g)
    | some r => unfGo d f (rs ++ [r]) (g + (6 + r.length))
def unfOf (d : List Nat) : List (List Nat) × Nat := if 40000 < d.length then ([], 0) else unfGo d d.length [] 0
theorem unf_none {d : List Nat} {f : Nat} {rs : List (List Nat)} {g : Nat} (h : firstOf (d.drop g) = none) : unfGo d f rs g = (rs, g) := by
  cases f with
  | zero => rfl
  | succ f => simp [unfGo, h]
theorem unf_some {d : List Nat} {f : Nat} {rs : List (List Nat)} {g : Nat} {r : List Nat} (hf : d.length ≤ g + f) (h : firstOf (d.drop g) = some r) : ∃ f', f = f' + 1 ∧ unfGo d f rs g = unfGo d f' (rs ++ [r]) (g + (6 + r.length)) ∧ d.length ≤ g + (6 + r.length) + f' := by
  have hl := firstOf_len h
  simp at hl
  cases f with
  | zero => omega
  | succ f => exact ⟨f, rfl, by simp [unfGo, h], by omega⟩
end Go.Proofs.YtledlicandlekaaDoor
