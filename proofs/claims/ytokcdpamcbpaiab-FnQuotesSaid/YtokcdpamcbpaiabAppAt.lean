import Derived.Test.YtokcdpamcbpaiabQuoteMath
import Derived.Test.YtokcdpamcbpaiabSmall
import Derived.Lib.Builder
namespace Go.Proofs.Ytokcdpamcbpaiab
open Go.RowKit
/-- append of bytes, maybe none, that lie at some address. -/
theorem wpList_append_at {ops : Array Oper} {rest : List Oper} {o : Oper} {act : Act} {Q : Exit → Act → World → Prop} (w : World) (hgd : o.guard = none) (s x : Operand)
    (ho : o.op = .call { callee := .builtin .append, args := #[s, x], argTypes := #[22, 22] })
    (base : Nat) (v : Value) (l m : List Nat) (n : Nat) (hn : m.length = n) (hs : act.eval s = v) (hown : OwnB w base v l) (p : Addr) (c : Nat) (hx : act.eval x = .slice (some p) n c) (hr : RowAt w (some p) m)
    (hlen : l.length + m.length ≤ 1099511627776) (hbase : base ≤ w.heap.size)
    (h : ∀ v' w', OwnB w' base v' (l ++ m) → w.grownBy w' v.ownBlock → wpList Try.prog ops Q rest (act.put o.dst v') w') : wpList Try.prog ops Q (o :: rest) act w := by
  obtain ⟨i0, hi, hz0, hz1, hz2⟩ := info_parts Try.info5
  subst hn
  refine wpList_append_own w hgd s x 22 ho base 5 i0 (.int .u8 0) 1 1 Try.underlying22 hi hz0 hz1 hz2 rfl (by decide) v l.length (l.map bv) hs hown p m.length c (m.map bv) hx (by simp) ?_ ?_ (by unfold maxLen; omega) (by omega) hbase ?_
  · intro j u hj
    have hjm : j < m.length := by
      rcases Nat.lt_or_ge j m.length with h' | h'
      · exact h'
      · simp [List.getElem?_eq_none h'] at hj
    obtain ⟨b, off, e, hc⟩ := hr (by omega)
    simp only [Option.some.injEq] at e
    subst e
    rw [addr_add, hc j hjm]
    simp [hjm, bv] at hj
    rw [hj]
  · intro u hu
    simp only [List.mem_map] at hu
    obtain ⟨y, _, rfl⟩ := hu
    rfl
  · intro v' w' hown' hg _
    refine h v' w' ?_ hg
    unfold OwnB
    rw [List.length_append, List.map_append]
    exact hown'
theorem text_slice {w : World} {b off : Nat} {d : List Nat} (h : TextAt w b off d) (t n : Nat) : TextAt w b (off + t) ((d.drop t).take n) := fun i hi => by
  have hi' : t + i < d.length := by simp at hi; omega
  rw [Nat.add_assoc, h (t + i) hi']
  simp
theorem slice_len (d : List Nat) (t n : Nat) (h : t + n ≤ d.length) : ((d.drop t).take n).length = n := by simp; omega
end Go.Proofs.Ytokcdpamcbpaiab
