import Derived.Test.YtokcdpamcbpaiabStarts
import Derived.Test.YtokcdpamcbpaiabLogMem
namespace Go.Proofs.Ytokcdpamcbpaiab
open Go.RowKit
abbrev S3 := Nat × Nat × Value
/-- The cells of a list of spans. -/
def cells3 (vs : List S3) : List Value := vs.flatMap fun x => [iv x.1, iv x.2.1, x.2.2]
theorem cells3_cons (x : S3) (vs : List S3) : cells3 (x :: vs) = iv x.1 :: iv x.2.1 :: x.2.2 :: cells3 vs := rfl
theorem cells3_append (a b : List S3) : cells3 (a ++ b) = cells3 a ++ cells3 b := by unfold cells3; rw [List.flatMap_append]
theorem cells3_length (vs : List S3) : (cells3 vs).length = vs.length * 3 := by
  induction vs with
  | nil => rfl
  | cons x r ih => rw [cells3_cons]; simp [ih]; omega
theorem cells3_get (vs : List S3) (i : Nat) (h : i < vs.length) : (cells3 vs)[i * 3]? = some (iv vs[i].1) ∧ (cells3 vs)[i * 3 + 1]? = some (iv vs[i].2.1) ∧ (cells3 vs)[i * 3 + 2]? = some vs[i].2.2 := by
  induction vs generalizing i with
  | nil => simp at h
  | cons x r ih =>
    cases i with
    | zero => exact ⟨rfl, rfl, rfl⟩
    | succ i =>
      obtain ⟨h0, h1, h2⟩ := ih i (by simpa using h)
      refine ⟨?_, ?_, ?_⟩
      · rw [cells3_cons, show (i + 1) * 3 = i * 3 + 1 + 1 + 1 from by omega]; simpa using h0
      · rw [cells3_cons, show (i + 1) * 3 + 1 = i * 3 + 1 + 1 + 1 + 1 from by omega]; simpa using h1
      · rw [cells3_cons, show (i + 1) * 3 + 2 = i * 3 + 2 + 1 + 1 + 1 from by omega]; simpa using h2
theorem blocks_apart {w : World} {b1 b2 e1 e2 k1 k2 n1 n2 : Nat} {v x : Value} {xs ys : List Value} (h1 : w.ownsRow b1 e1 k1 v n1 xs) (h2 : w.ownsRow b2 e2 k2 x n2 ys) (he : e1 ≠ e2) : v.ownBlock = none ∨ v.ownBlock ≠ x.ownBlock := by
  rcases h1.2 with ⟨rfl, _⟩ | ⟨g, cap, cur, rfl, _, hg, _⟩
  · exact .inl rfl
  · refine .inr fun e => ?_
    rcases h2.2 with ⟨rfl, _⟩ | ⟨g', cap', cur', rfl, _, hg', _⟩
    · simp [Value.ownBlock] at e
    · simp only [Value.ownBlock, Option.some.injEq] at e
      subst e
      rw [hg] at hg'
      simp only [Option.some.injEq, Obj.cells.injEq] at hg'
      exact he hg'.2.1
theorem own_keepK {w w' : World} {base e k n : Nat} {v : Value} {xs : List Value} (h : w.ownsRow base e k v n xs) (hk : ∀ g, base ≤ g → g < w.heap.size → w'.heap[g]? = w.heap[g]?) : w'.ownsRow base e k v n xs := by
  refine ⟨h.1, ?_⟩
  rcases h.2 with hn | ⟨g, cap, cur, rfl, hbase, hg, rest⟩
  · exact .inl hn
  · exact .inr ⟨g, cap, cur, rfl, hbase, (hk g hbase (lt_of_block hg)).trans hg, rest⟩
/-- A list of spans of the call's own: vs its elements, ls the bodies, each body its own block. -/
structure OwnS (w : World) (lo : Nat) (v : Value) (vs : List S3) (ls : List (List Nat)) : Prop where
  len : vs.length = ls.length
  row : w.ownsRow lo 34 3 v ls.length (cells3 vs)
  body : ∀ i (h : i < ls.length), ∃ x, vs[i]? = some x ∧ OwnB w lo x.2.2 ls[i]
  apart : vs.Pairwise fun x y => x.2.2.ownBlock = none ∨ x.2.2.ownBlock ≠ y.2.2.ownBlock
theorem OwnS.nil (w : World) (lo : Nat) : OwnS w lo (.slice none 0 0) [] [] := ⟨rfl, World.ownsRow_nil w lo _ 3, fun i h => by simp at h, List.Pairwise.nil⟩
theorem OwnS.slice {w : World} {lo : Nat} {v : Value} {vs : List S3} {ls : List (List Nat)} (h : OwnS w lo v vs ls) : ∃ a cap, v = .slice a ls.length cap := by
  rcases h.row.2 with ⟨rfl, hn⟩ | ⟨g, cap, cur, rfl, _⟩
  · exact ⟨none, 0, by rw [hn]⟩
  · exact ⟨_, cap, rfl⟩
theorem OwnS.below {B lo : Nat} {w w' : World} {v : Value} {vs : List S3} {ls : List (List Nat)} (h : OwnS w lo v vs ls) (hb : Below B w w') (hB : w.heap.size ≤ B) : OwnS w' lo v vs ls := by
  have hk : ∀ g, lo ≤ g → g < w.heap.size → w'.heap[g]? = w.heap[g]? := fun g _ hg => hb.block g (by omega)
  refine ⟨h.len, own_keepK h.row hk, fun i hi => ?_, h.apart⟩
  obtain ⟨x, hx, ho⟩ := h.body i hi
  exact ⟨x, hx, own_keep ho hk⟩
theorem OwnS.mono {w : World} {lo lo' : Nat} {v : Value} {vs : List S3} {ls : List (List Nat)} (h : OwnS w lo v vs ls) (hl : lo' ≤ lo) : OwnS w lo' v vs ls := by
  refine ⟨h.len, ⟨h.row.1, ?_⟩, fun i hi => ?_, h.apart⟩
  · rcases h.row.2 with hn | ⟨g, cap, cur, rfl, hbase, rest⟩
    · exact .inl hn
    · exact .inr ⟨g, cap, cur, rfl, Nat.le_trans hl hbase, rest⟩
  · obtain ⟨x, hx, ho⟩ := h.body i hi
    exact ⟨x, hx, ho.mono hl⟩
theorem OwnS.other {w : World} {lo g j : Nat} {v : Value} {vs : List S3} {ls : List (List Nat)} (h : OwnS w lo v vs ls) (hg : g < lo) (u : Value) : OwnS (w.setCell ⟨g, j, none⟩ u) lo v vs ls := by
  refine ⟨h.len, ownsRow_setCell_below h.row hg u, fun i hi => ?_, h.apart⟩
  obtain ⟨x, hx, ho⟩ := h.body i hi
  exact ⟨x, hx, ownsRow_setCell_below ho hg u⟩
theorem OwnS.lt {w : World} {lo : Nat} {v : Value} {vs : List S3} {ls : List (List Nat)} (h : OwnS w lo v vs ls) : ∀ x ∈ vs, ∀ g, x.2.2.ownBlock = some g → g < w.heap.size := by
  intro x hx g hg
  obtain ⟨i, hi, rfl⟩ := List.getElem_of_mem hx
  obtain ⟨y, hy, ho⟩ := h.body i (by have := h.len; omega)
  rw [List.getElem?_eq_getElem hi] at hy
  simp only [Option.some.injEq] at hy
  subst hy
  exact (World.ownsRow.lt ho g hg).2
theorem OwnS.ne_new {w w2 : World} {lo : Nat} {v x : Value} {vs : List S3} {ls : List (List Nat)} {l : List Nat} (h : OwnS w lo v vs ls) (hx : OwnB w2 w.heap.size x l) : ∀ y ∈ vs, y.2.2.ownBlock = none ∨ y.2.2.ownBlock ≠ x.ownBlock := by
  intro y hy
  cases hb : y.2.2.ownBlock with
  | none => exact .inl rfl
  | some g =>
    refine .inr fun e => ?_
    have h1 := h.lt y hy g hb
    have h2 := (World.ownsRow.lt hx g e.symm).1
    omega
/-- append of one span. -/
theorem OwnS.push {w w' : World} {lo p q : Nat} {v v' x : Value} {vs : List S3} {ls : List (List Nat)} {l : List Nat} (h : OwnS w lo v vs ls) (hx : OwnB w lo x l) (hne : ∀ y ∈ vs, y.2.2.ownBlock = none ∨ y.2.2.ownBlock ≠ x.ownBlock)
    (ho : w'.ownsRow lo 34 3 v' (ls.length + 1) (cells3 vs ++ [iv p, iv q, x])) (hg : w.grownBy w' v.ownBlock) : OwnS w' lo v' (vs ++ [(p, q, x)]) (ls ++ [l]) := by
  refine ⟨by rw [List.length_append, List.length_append, h.len]; rfl, by rw [List.length_append, cells3_append]; exact ho, fun i hi => ?_, ?_⟩
  · by_cases e : i < ls.length
    · obtain ⟨y, hy, hoy⟩ := h.body i e
      refine ⟨y, by rw [List.getElem?_append_left (by have := h.len; omega)]; exact hy, ?_⟩
      rw [List.getElem_append_left e]
      exact World.ownsRow.kept hoy hg (blocks_apart hoy h.row (by decide))
    · have e2 : i = ls.length := by simp at hi; omega
      subst e2
      refine ⟨(p, q, x), by rw [List.getElem?_append_right (by have := h.len; omega)]; simp [h.len], ?_⟩
      simp only [List.getElem_concat_length]
      exact World.ownsRow.kept hx hg (blocks_apart hx h.row (by decide))
  · rw [List.pairwise_append]
    refine ⟨h.apart, by simp, fun y hy z hz => ?_⟩
    obtain rfl : z = (p, q, x) := by simpa using hz
    exact hne y hy
theorem Try.infoSpan : (Try.prog.info? 34).map (fun i => (i.zero, i.size, i.bytes)) = some (some (.agg #[.int .i64 0, .int .i64 0, .slice none 0 0]), 3, 40) := by kernel_rfl
theorem step_append_span {ops : Array Oper} {o : Oper} {act : Act} {K : Act → World → Prop} {Q : Exit → Act → World → Prop} {E : Prop} (w : World) (hgd : o.guard = none) (s x : Operand)
    (ho : o.op = .call { callee := .builtin .append, args := #[s, x], argTypes := #[29, 29] })
    (lo : Nat) (v : Value) (vs : List S3) (ls : List (List Nat)) (p q : Nat) (xv : Value) (l : List Nat) (g1 c : Nat) (hs : act.eval s = v) (hx : act.eval x = .slice (some ⟨g1, 0, none⟩) 1 c) (hown : OwnS w lo v vs ls)
    (c0 : w.cell? ⟨g1, 0, none⟩ = some (iv p)) (c1 : w.cell? ⟨g1, 1, none⟩ = some (iv q)) (c2 : w.cell? ⟨g1, 2, none⟩ = some xv) (hox : OwnB w lo xv l)
    (hne : ∀ y ∈ vs, y.2.2.ownBlock = none ∨ y.2.2.ownBlock ≠ xv.ownBlock) (hlen : ls.length ≤ 1048576) (hbase : lo ≤ w.heap.size)
    (h : ∀ v' w', OwnS w' lo v' (vs ++ [(p, q, xv)]) (ls ++ [l]) → w.grownBy w' v.ownBlock → K (act.put o.dst v') w') : if Region.wanted o (yielded ops act.tmps) = true then Oper.wp Try.prog o act w K Q else E := by
  have hw : Region.wanted o (yielded ops act.tmps) = true := by simp [Region.wanted, hgd]
  rw [if_pos hw]
  obtain ⟨i0, hi, hz0, hz1, hz2⟩ := info_parts Try.infoSpan
  refine wp_append_own w s x 29 ho lo 34 i0 (.agg #[.int .i64 0, .int .i64 0, .slice none 0 0]) 3 40 Try.underlying29 hi hz0 hz1 hz2 rfl (by decide) v ls.length (cells3 vs) hs hown.row ⟨g1, 0, none⟩ 1 c [iv p, iv q, xv] hx (by simp) ?_ ?_ (by unfold maxLen; omega) (by omega) hbase ?_
  · intro j u hj
    rw [addr_add]
    match j with
    | 0 => simp only [List.getElem?_cons_zero, Option.some.injEq] at hj; rw [← hj]; exact c0
    | 1 => simp only [List.getElem?_cons_succ, List.getElem?_cons_zero, Option.some.injEq] at hj; rw [← hj]; exact c1
    | 2 => simp only [List.getElem?_cons_succ, List.getElem?_cons_zero, Option.some.injEq] at hj; rw [← hj]; exact c2
    | j + 3 => simp at hj
  · intro u hu
    simp only [List.mem_cons, List.not_mem_nil, or_false] at hu
    rcases hu with rfl | rfl | rfl
    · rfl
    · rfl
    · obtain ⟨a, c', rfl⟩ := hox.slice
      rfl
  · intro v' w' hown' hg _
    exact h v' w' (hown.push hox hne hown' hg) hg
end Go.Proofs.Ytokcdpamcbpaiab
