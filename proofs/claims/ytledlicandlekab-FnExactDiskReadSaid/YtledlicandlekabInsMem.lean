import Derived.Test.YtledlicandlekabInsOrd
namespace Go.Proofs.Ytledlicandlekab
open Go.RowKit
theorem setCells_row {b : Nat} {t : TypeId} : ∀ (vs : List Value) (o : Nat) (w : World) (cur : Array Value), w.heap[b]? = some (.cells cur t (0, 0)) → ∃ cur', (w.setCells b o vs).heap[b]? = some (.cells cur' t (0, 0)) ∧ cur'.size = cur.size ∧ ∀ j, j < cur.size → cur'[j]? = if o ≤ j ∧ j < o + vs.length then vs[j - o]? else cur[j]?
  | [], o, w, cur, h => ⟨cur, h, rfl, fun j hj => by rw [if_neg (by simp)]⟩
  | v :: r, o, w, cur, h => by
    obtain ⟨c2, h2, hs, hc⟩ := setCells_row r (o + 1) (w.setCell ⟨b, o, none⟩ v) (cur.setIfInBounds o v) (heap_setCell_same w b o _ _ v h)
    refine ⟨c2, h2, by rw [hs]; simp, fun j hj => ?_⟩
    rw [hc j (by simpa using hj)]
    by_cases e : o = j
    · subst e
      rw [if_neg (by omega), if_pos (by simp)]
      simp [hj]
    · rw [Array.getElem?_setIfInBounds_ne e]
      by_cases e2 : o + 1 ≤ j ∧ j < o + 1 + r.length
      · rw [if_pos e2, if_pos (by simp; omega), show j - o = (j - (o + 1)) + 1 by omega, List.getElem?_cons_succ]
      · rw [if_neg e2, if_neg (by simp; omega)]
/-- A row told cell by cell is a row of the call's own. -/
theorem ownS_of {w : World} {base g cap : Nat} {cur : Array Value} {ys : List ByteArray} (hb : base ≤ g) (hg : w.heap[g]? = some (.cells cur 9 (0, 0))) (hn : ys.length ≤ cap) (hm : cap ≤ maxLen) (hs : cur.size = cap) (hc : ∀ j (h : j < ys.length), cur[j]? = some (.string ys[j])) : OwnS w base (.slice (some ⟨g, 0, none⟩) ys.length cap) ys := by
  refine ⟨by simp, .inr ⟨g, cap, cur, rfl, hb, hg, hn, hm, by omega, ?_⟩⟩
  apply List.ext_getElem?
  intro j
  by_cases hj : j < ys.length
  · rw [List.getElem?_take_of_lt (by omega)]
    simp [hj, hc j hj]
  · rw [List.getElem?_eq_none (by simp; omega), List.getElem?_eq_none (by simp; omega)]
theorem ins_at (xs : List ByteArray) (t : ByteArray) (i : Nat) (hi : i ≤ xs.length) (j : Nat) : (xs.take i ++ t :: xs.drop i)[j]? = if j < i then xs[j]? else if j = i then some t else xs[j - 1]? := by
  by_cases h1 : j < i
  · rw [if_pos h1, List.getElem?_append_left (by simp; omega), List.getElem?_take_of_lt h1]
  · rw [if_neg h1, List.getElem?_append_right (by simp; omega)]
    have hl : (xs.take i).length = i := by simp; omega
    rw [hl]
    by_cases h2 : j = i
    · rw [if_pos h2, h2]; simp
    · rw [if_neg h2, show j - i = (j - i - 1) + 1 by omega, List.getElem?_cons_succ, List.getElem?_drop, show i + (j - i - 1) = j - 1 by omega]
end Go.Proofs.Ytledlicandlekab
