import Derived.Test.YtokcdpamcbpaiabImplSplit
namespace Go.Proofs.Ytokcdpamcbpaiab
open Go.RowKit
abbrev SP := Nat × Nat × List Nat
/-- Spans that lie at an address. -/
def SpansAt (w : World) (a : Option Addr) (xs : List SP) : Prop :=
  0 < xs.length → ∃ b off, a = some ⟨b, off, none⟩ ∧ ∀ i (h : i < xs.length), ∃ ai ci, w.cell? ⟨b, off + i * 3, none⟩ = some (.int .i64 (xs[i].1 : Int)) ∧ w.cell? ⟨b, off + i * 3 + 1, none⟩ = some (.int .i64 (xs[i].2.1 : Int)) ∧ w.cell? ⟨b, off + i * 3 + 2, none⟩ = some (.slice ai xs[i].2.2.length ci) ∧ RowAt w ai xs[i].2.2
theorem SpansAt.below {w w' : World} {a : Option Addr} {xs : List SP} (h : SpansAt w a xs) (hb : Below w.heap.size w w') : SpansAt w' a xs := fun hp => by
  obtain ⟨b, off, rfl, hc⟩ := h hp
  refine ⟨b, off, rfl, fun i hi => ?_⟩
  obtain ⟨ai, ci, h1, h2, h3, h4⟩ := hc i hi
  exact ⟨ai, ci, by rw [hb.cell (p := ⟨b, off + i * 3, none⟩) (lt_of_cell0 h1)]; exact h1, by rw [hb.cell (p := ⟨b, off + i * 3 + 1, none⟩) (lt_of_cell0 h2)]; exact h2, by rw [hb.cell (p := ⟨b, off + i * 3 + 2, none⟩) (lt_of_cell0 h3)]; exact h3, h4.below hb⟩
/-- A list of spans of the call's own, told by what it holds. -/
def OwnX (w : World) (lo : Nat) (v : Value) (vs : List S3) (xs : List SP) : Prop := vs.map (fun x : S3 => (x.1, x.2.1)) = xs.map (fun x => (x.1, x.2.1)) ∧ OwnS w lo v vs (xs.map (·.2.2))
theorem OwnX.below {B lo : Nat} {w w' : World} {v : Value} {vs : List S3} {xs : List SP} (h : OwnX w lo v vs xs) (hb : Below B w w') (hB : w.heap.size ≤ B) : OwnX w' lo v vs xs := ⟨h.1, h.2.below hb hB⟩
theorem OwnX.len {w : World} {lo : Nat} {v : Value} {vs : List S3} {xs : List SP} (h : OwnX w lo v vs xs) : vs.length = xs.length := by have := h.2.len; simpa using this
theorem OwnX.pair {w : World} {lo : Nat} {v : Value} {vs : List S3} {xs : List SP} (h : OwnX w lo v vs xs) (i : Nat) (hi : i < xs.length) : ∃ x : S3, vs[i]? = some x ∧ x.1 = xs[i].1 ∧ x.2.1 = xs[i].2.1 ∧ OwnB w lo x.2.2 xs[i].2.2 := by
  obtain ⟨x, hx, ho⟩ := h.2.body i (by simpa using hi)
  rw [List.getElem_map] at ho
  refine ⟨x, hx, ?_, ?_, ho⟩
  · have e : (vs.map (fun x : S3 => (x.1, x.2.1)))[i]? = (xs.map (fun x => (x.1, x.2.1)))[i]? := by rw [h.1]
    rw [List.getElem?_map, List.getElem?_map, hx, List.getElem?_eq_getElem hi] at e
    simp at e
    exact e.1
  · have e : (vs.map (fun x : S3 => (x.1, x.2.1)))[i]? = (xs.map (fun x => (x.1, x.2.1)))[i]? := by rw [h.1]
    rw [List.getElem?_map, List.getElem?_map, hx, List.getElem?_eq_getElem hi] at e
    simp at e
    exact e.2
theorem OwnX.cells {w : World} {lo : Nat} {a : Option Addr} {n cap : Nat} {vs : List S3} {xs : List SP} (h : OwnX w lo (.slice a n cap) vs xs) (hp : 0 < xs.length) : ∃ g, a = some ⟨g, 0, none⟩ ∧ n = xs.length ∧ ∀ i (hi : i < xs.length), ∃ x : S3, vs[i]? = some x ∧ w.cell? ⟨g, i * 3, none⟩ = some (.int .i64 (xs[i].1 : Int)) ∧ w.cell? ⟨g, i * 3 + 1, none⟩ = some (.int .i64 (xs[i].2.1 : Int)) ∧ w.cell? ⟨g, i * 3 + 2, none⟩ = some x.2.2 ∧ OwnB w lo x.2.2 xs[i].2.2 := by
  rcases h.2.row.2 with ⟨_, hn⟩ | ⟨g, cap', cur, h', _⟩
  · simp at hn; simp [hn] at hp
  · simp only [Value.slice.injEq] at h'
    obtain ⟨rfl, rfl, rfl⟩ := h'
    refine ⟨g, rfl, by simp, fun i hi => ?_⟩
    obtain ⟨x, hx, e1, e2, ho⟩ := h.pair i hi
    have hl := h.len
    have ex : vs[i]'(by omega) = x := by rw [List.getElem?_eq_getElem (by omega)] at hx; simpa using hx
    obtain ⟨k0, k1, k2⟩ := cells3_get vs i (by omega)
    rw [ex] at k0 k1 k2
    have c0 := World.ownsRow.cells h.2.row (g := g) rfl (i * 3) _ k0
    have c1 := World.ownsRow.cells h.2.row (g := g) rfl (i * 3 + 1) _ k1
    have c2 := World.ownsRow.cells h.2.row (g := g) rfl (i * 3 + 2) _ k2
    rw [addr_add, Nat.zero_add] at c0 c1 c2
    exact ⟨x, hx, by rw [← e1]; exact c0, by rw [← e2]; exact c1, c2, ho⟩
theorem OwnX.at {w : World} {lo : Nat} {a : Option Addr} {n cap : Nat} {vs : List S3} {xs : List SP} (h : OwnX w lo (.slice a n cap) vs xs) : SpansAt w a xs := fun hp => by
  obtain ⟨g, rfl, _, hc⟩ := h.cells hp
  refine ⟨g, 0, rfl, fun i hi => ?_⟩
  obtain ⟨x, _, c0, c1, c2, ho⟩ := hc i hi
  obtain ⟨ai, ci, e⟩ := ho.slice
  rw [e] at c2 ho
  exact ⟨ai, ci, by rw [Nat.zero_add]; exact c0, by rw [Nat.zero_add]; exact c1, by rw [Nat.zero_add]; exact c2, ho.row⟩
end Go.Proofs.Ytokcdpamcbpaiab
