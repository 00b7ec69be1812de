import Derived.Test.YtledlicandlekabInOrder
import Derived.Maps.OwnSet
namespace Go.Proofs.Ytledlicandlekab
open Go.RowKit Go.Maps
theorem less_trans : ∀ x y z : List UInt8, Op.bytesLess x y = true → Op.bytesLess y z = true → Op.bytesLess x z = true
  | _, _, [], _, h => by simp [Op.bytesLess] at h
  | [], _, _ :: _, _, _ => by simp [Op.bytesLess]
  | _ :: _, [], _ :: _, h, _ => by simp [Op.bytesLess] at h
  | a :: x, b :: y, c :: z, h1, h2 => by
    simp only [Op.bytesLess, Bool.or_eq_true, decide_eq_true_eq, Bool.and_eq_true, beq_iff_eq] at h1 h2 ⊢
    rcases h1 with h1 | ⟨rfl, h1⟩
    · rcases h2 with h2 | ⟨rfl, h2⟩
      · exact .inl (UInt8.lt_trans h1 h2)
      · exact .inl h1
    · rcases h2 with h2 | ⟨rfl, h2⟩
      · exact .inl h2
      · exact .inr ⟨rfl, less_trans x y z h1 h2⟩
/-- The nodes of the first k entries, as a set. -/
def nodesSet (es : List (ByteArray × Int)) (k : Nat) : DataW Unit := setOf (.agg []) ((es.take k).map fun e => Lit.int .i64 e.2)
theorem nodesSet_zero (es : List (ByteArray × Int)) : nodesSet es 0 = .map [] := rfl
theorem nodesSet_succ (es : List (ByteArray × Int)) (k : Nat) (h : k < es.length) : nodesSet es (k + 1) = (nodesSet es k).put (.int .i64 es[k].2) (.agg []) := by
  unfold nodesSet
  rw [List.take_succ_eq_append_getElem h, List.map_append]
  exact setOf_snoc _ _ _
theorem has_nodes (es : List (ByteArray × Int)) (k : Nat) (x : Int) : Maps.has (nodesSet es k) (.int .i64 x) = (es.take k).any (fun e => decide (e.2 = x)) := by
  unfold nodesSet
  rw [has_setOf _ _ _ (fun y hy => by obtain ⟨_, _, rfl⟩ := List.mem_map.1 hy; trivial), List.any_map]
  congr 1
  funext e
  simp [Lit.sameKey]
theorem has_nodes_true {es : List (ByteArray × Int)} {k : Nat} {x : Int} (h : Maps.has (nodesSet es k) (.int .i64 x) = true) : ∃ i, ∃ h : i < es.length, i < k ∧ es[i].2 = x := by
  rw [has_nodes, List.any_eq_true] at h
  obtain ⟨e, he, hx⟩ := h
  obtain ⟨i, hi, rfl⟩ := List.getElem_of_mem he
  simp at hi
  refine ⟨i, by omega, by omega, ?_⟩
  simpa using hx
theorem has_nodes_false {es : List (ByteArray × Int)} {k : Nat} {x : Int} (h : Maps.has (nodesSet es k) (.int .i64 x) = false) (i : Nat) (hi : i < es.length) (hk : i < k) : es[i].2 ≠ x := by
  intro e
  have : Maps.has (nodesSet es k) (.int .i64 x) = true := by
    rw [has_nodes, List.any_eq_true]
    exact ⟨es[i], List.mem_take_iff_getElem.2 ⟨i, by omega, rfl⟩, by simp [e]⟩
  rw [this] at h
  simp at h
theorem ownsMap_below {H : Type} {w w' : World} {P : Program} {k : TypeId} {R : Value → Option (DataW H × List MemPlace)} {b n B : Nat} {D : DataW H} (h : w.ownsMap P k R b n D) (hb : Below B w w') (hB : b < B) : w'.ownsMap P k R b n D := by
  obtain ⟨es, c, h1, rest⟩ := h
  exact ⟨es, c, (hb.block b hB).trans h1, rest⟩
end Go.Proofs.Ytledlicandlekab
