import Derived.Test.YtokcdpamcbpaiabSpecQuote
import Derived.Test.YtokcdpamcbpaiabBare
import Derived.Test.YtokcdpamcbpaiabImplQuote
namespace Go.Proofs.Ytokcdpamcbpaiab
open Go.RowKit
def entryOf (d : List Nat) : List Nat := if 8000 < d.length then [] else headW ++ quoteOf d ++ (if bareB d then [10] else []) ++ [10]
theorem entry_len (d : List Nat) : (entryOf d).length ≤ 2 * d.length + 12 := by
  unfold entryOf
  have := quote_len d
  split
  · simp
  · split <;> simp [headW] <;> omega
theorem quote_nil : quoteOf [] = [] := rfl
theorem quote_pos (d : List Nat) (h : 0 < d.length) : 0 < (quoteOf d).length := by
  unfold quoteOf spansOf
  obtain ⟨f, hf⟩ : ∃ f, d.length = f + 1 := ⟨d.length - 1, by omega⟩
  rw [hf]
  simp only [spansF]
  rw [if_neg (by omega), List.flatMap_cons, List.length_append]
  have h1 := cutAt_pos d h
  have h2 := cutAt_le d
  have : 0 < (qLine d (0, cutAt d)).length := by
    unfold qLine pieceOf
    split <;> simp <;> omega
  omega
/-- append onto a row without room: a new row. -/
theorem wpList_append_full {ops : Array Oper} {rest : List Oper} {o : Oper} {act : Act} {Q : Exit → Act → World → Prop} (w : World) (hgd : o.guard = none) (s x : Operand)
    (ho : o.op = .call { callee := .builtin .append, args := #[s, x], argTypes := #[22, 22] })
    (b q : Addr) (l m : List Nat) (n k c : Nat) (hn : l.length = n) (hk : m.length = k) (hs : act.eval s = .slice (some b) n n) (hx : act.eval x = .slice (some q) k c) (hb : RowAt w (some b) l) (hq : RowAt w (some q) m) (hl0 : 0 < n) (hm : 0 < k)
    (hlen : n + k ≤ 1099511627776)
    (h : ∀ v' w', OwnB w' w.heap.size v' (l ++ m) → Below w.heap.size w w' → wpList Try.prog ops Q rest (act.put o.dst v') w') : wpList Try.prog ops Q (o :: rest) act w := by
  obtain ⟨i0, hi, hz0, hz1, hz2⟩ := info_parts Try.info5
  subst hn hk
  obtain ⟨b1, o1, e1, hc1⟩ := hb hl0
  obtain ⟨b2, o2, e2, hc2⟩ := hq hm
  simp only [Option.some.injEq] at e1 e2
  subst e1 e2
  have hr := run_append_grow (P := Try.prog) w 22 o.type 5 i0 (.int .u8 0) Try.underlying22 hi hz0 ⟨b1, o1, none⟩ l.length l.length (l.map bv) (by rw [hz1]; simp) (fun j v hj => by
      have hjm : j < l.length := by
        rcases Nat.lt_or_ge j l.length with h' | h'
        · exact h'
        · simp [List.getElem?_eq_none h'] at hj
      rw [addr_add, hc1 j hjm]; simp [hjm, bv] at hj; rw [hj])
    ⟨b2, o2, none⟩ m.length c (m.map bv) (by rw [hz1]; simp) (fun j v hj => by
      have hjm : j < m.length := by
        rcases Nat.lt_or_ge j m.length with h' | h'
        · exact h'
        · simp [List.getElem?_eq_none h'] at hj
      rw [addr_add, hc2 j hjm]; simp [hjm, bv] at hj; rw [hj])
    (by omega) (by omega) (growslice_fits (by omega) (by rw [hz2]; omega))
  refine wpList_plain hgd fun K hK => ?_
  unfold Oper.wp execOp
  simp only [ho, resolve, invoke, builtin, Sem.run_bind, Sem.run_pure, Result.andThen_ok, List.map_toArray, List.map_cons, List.map_nil, hs, hx, hr]
  refine hK _ _ (h _ _ ?_ ?_)
  · have hge := grownCap_ge w (l.length + m.length) l.length 5
    have hcm : grownCap w (l.length + m.length) l.length 5 ≤ maxLen := grownCap_le_maxLen w _ _ 5 (by unfold maxLen; omega)
    refine ⟨by simp, .inr ⟨w.heap.size, _, _, by rw [List.length_append], Nat.le_refl _, heap_alloc_new w.drew _, by rw [List.length_append]; exact hge, hcm, ?_, ?_⟩⟩
    · simp [size_zeroCells, Value.cells]; omega
    · simp
      rw [← List.append_assoc]
      exact List.take_left' (by simp)
  · exact (below_drewN (Below.refl _ w) 1).alloc (Nat.le_refl _) _
/-- append of nothing. -/
theorem wpList_append_none {ops : Array Oper} {rest : List Oper} {o : Oper} {act : Act} {Q : Exit → Act → World → Prop} (w : World) (hgd : o.guard = none) (s x : Operand)
    (ho : o.op = .call { callee := .builtin .append, args := #[s, x], argTypes := #[22, 22] })
    (b : Addr) (q : Option Addr) (n c : Nat) (hs : act.eval s = .slice (some b) n n) (hx : act.eval x = .slice q 0 c)
    (h : wpList Try.prog ops Q rest (act.put o.dst (.slice (some b) n n)) w) : wpList Try.prog ops Q (o :: rest) act w := by
  obtain ⟨i0, hi, hz0, hz1, hz2⟩ := info_parts Try.info5
  have hr : (Builtin.append_ #[22, 22] o.type #[.slice (some b) n n, .slice q 0 c]).run Try.prog w = .ok (.slice (some b) n n) w := by
    cases q <;> simp [Builtin.append_, run_underlying Try.underlying22, sizeOf, typeInfo, hi, Builtin.lenOf, Builtin.firstCells, storeCells, loadCells, loadCellsFrom]
  refine wpList_plain hgd fun K hK => ?_
  unfold Oper.wp execOp
  simp only [ho, resolve, invoke, builtin, Sem.run_bind, Sem.run_pure, Result.andThen_ok, List.map_toArray, List.map_cons, List.map_nil, hs, hx, hr]
  exact hK _ _ h
end Go.Proofs.Ytokcdpamcbpaiab
