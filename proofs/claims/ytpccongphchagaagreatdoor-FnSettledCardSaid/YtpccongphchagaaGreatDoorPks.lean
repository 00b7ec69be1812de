import Derived.Test.YtpccongphchagaaGreatDoorPkq
import Derived.Test.YtpccongphchagaaGreatDoorPkr
import Derived.Test.YtpccongphchagaaGreatDoorPkk
import Derived.Maps.AppendAt
import Derived.Deep.RegionLaw
import Derived.Lib.SliceRun
namespace Go.Proofs.YtpccongphchagaaGreatDoor
open Go.RowKit
/-- A row of whole numbers at an address. -/
def IntAt (w : World) (a : Option Addr) (l : List Int) : Prop :=
  0 < l.length → ∃ b off, a = some ⟨b, off, none⟩ ∧ ∀ i (h : i < l.length), w.cell? ⟨b, off + i, none⟩ = some (.int .i64 l[i])
theorem IntAt.below {w w' : World} {a : Option Addr} {l : List Int} (h : IntAt w a l) (hb : Below w.heap.size w w') : IntAt w' a l := fun hp => by
  obtain ⟨b, off, rfl, hc⟩ := h hp
  exact ⟨b, off, rfl, fun i hi => by rw [hb.cell (p := ⟨b, off + i, none⟩) (lt_of_cell0 (hc i hi))]; exact hc i hi⟩
theorem OwnNA.nil (w : World) (base : Nat) : OwnNA w base (.slice none 0 0) [] [] := ⟨rfl, World.ownsRow_nil w base _ 2, fun i h => by simp at h, List.Pairwise.nil⟩
/-- append of one node whose bytes are newer than all. -/
theorem OwnNA.push {w w' : World} {base : Nat} {v v' u : Value} {z : Int} {l : List Nat} {vs : List (Value × Value)} {ns : List NdM} (h : OwnNA w base v vs ns) (hx : OwnB w base u l) (hne : ∀ y ∈ vs.map (·.1), awayV y u)
    (ho : w'.ownsRow base 49 2 v' (vs.length + 1) (two vs ++ [u, .int .i64 z])) (hg : w.grownBy w' v.ownBlock) : OwnNA w' base v' (vs ++ [(u, .int .i64 z)]) (ns ++ [(l, z)]) := by
  have k : ∀ {x : Value} {m : List Nat}, OwnB w base x m → OwnB w' base x m := fun hx => World.ownsRow.kept hx hg (owns_away hx h.row (by decide))
  have hl := h.len
  refine ⟨by rw [List.length_append, List.length_append, hl]; rfl, ?_, fun i hi => ?_, ?_⟩
  · unfold Own2
    rw [List.length_append, two_append]
    exact ho
  · by_cases e : i < ns.length
    · obtain ⟨y, hy, p1⟩ := h.body i e
      refine ⟨y, by rw [List.getElem?_append_left (by omega), List.getElem_append_left e]; exact hy, ?_⟩
      rw [List.getElem_append_left e]
      exact k p1
    · have e2 : i = ns.length := by simp at hi; omega
      subst e2
      refine ⟨u, by rw [List.getElem?_append_right (by omega)]; simp [hl], ?_⟩
      simp only [List.getElem_concat_length]
      exact k hx
  · rw [List.map_append, List.pairwise_append]
    refine ⟨h.apart, by simp, fun y hy z' hz => ?_⟩
    obtain rfl : z' = u := by simpa using hz
    exact hne y hy
/-- The disk that is being made: its box o, its rows behind it. -/
structure CrL (w0 W : World) (o : Nat) (q : Int) (v1 v2 v3 : Value) (vs : List (Value × Value)) (N : List NdM) (E K : List EN) : Prop where
  box : Laid W o #[v1, v2, v3, .slice none 0 0, .int .i64 q] 27
  n : OwnNA W (o + 1) v1 vs N
  e : OwnE W (o + 1) v2 E
  k : OwnE W (o + 1) v3 K
  aw : awayV v2 v3
  bel : Below o w0 W
  sz : o + 1 ≤ W.heap.size
theorem CrL.below {w0 W W' : World} {o : Nat} {q : Int} {v1 v2 v3 : Value} {vs : List (Value × Value)} {N : List NdM} {E K : List EN} (h : CrL w0 W o q v1 v2 v3 vs N E K) (hb : Below W.heap.size W W') : CrL w0 W' o q v1 v2 v3 vs N E K :=
  ⟨h.box.below hb h.box.lt, h.n.fr (S := fun _ => False) (Fr.of_below hb) (fun _ _ => id), h.e.below hb, h.k.below hb, h.aw, h.bel.trans (hb.mono (by have := h.sz; omega)), Nat.le_trans h.sz hb.size⟩
theorem CrL.start (w : World) (q : Int) : CrL w (w.alloc (.cells #[.slice none 0 0, .slice none 0 0, .slice none 0 0, .slice none 0 0, .int .i64 q] 27)) w.heap.size q (.slice none 0 0) (.slice none 0 0) (.slice none 0 0) [] [] [] [] :=
  ⟨Laid.new w _ _, OwnNA.nil _ _, World.ownsRow_nil _ _ _ 2, World.ownsRow_nil _ _ _ 2, .inl rfl, (Below.refl _ _).alloc (Nat.le_refl _) _, by simp⟩
theorem own_ge {w : World} {b e k n : Nat} {v : Value} {xs : List Value} (h : w.ownsRow b e k v n xs) {g : Nat} (hg : v.ownBlock = some g) : b ≤ g ∧ g < w.heap.size := World.ownsRow.lt h g hg
/-- A node is put at its end. -/
theorem CrL.pushN {w0 W W2 w3 : World} {o : Nat} {q z : Int} {v1 v2 v3 v' u : Value} {vs : List (Value × Value)} {N : List NdM} {E K : List EN} {l : List Nat} (h : CrL w0 W o q v1 v2 v3 vs N E K) (hb : Below W.heap.size W W2) (hn : OwnNA w3 (o + 1) v' (vs ++ [(u, .int .i64 z)]) (N ++ [(l, z)])) (hg : W2.grownBy w3 v1.ownBlock) :
    CrL w0 (w3.setCell ⟨o, 0, none⟩ v') o q v' v2 v3 (vs ++ [(u, .int .i64 z)]) (N ++ [(l, z)]) E K := by
  have h2 := h.below hb
  have hlo : ∀ b, v1.ownBlock = some b → o + 1 ≤ b := fun b hb => (own_ge h2.n.row hb).1
  have ne : some o ≠ v1.ownBlock := fun e => by have := hlo o e.symm; omega
  have kb : Laid w3 o #[v1, v2, v3, .slice none 0 0, .int .i64 q] 27 := (hg.block o h2.box.lt ne).trans h2.box
  have ke : OwnE w3 (o + 1) v2 E := World.ownsRow.kept h2.e hg (owns_away h2.e h2.n.row (by decide))
  have kk : OwnE w3 (o + 1) v3 K := World.ownsRow.kept h2.k hg (owns_away h2.k h2.n.row (by decide))
  refine ⟨kb.set 0 v', hn.fr (S := fun g => g = o) ((Fr.refl _ _).set rfl) (fun g hg' e => by have := (hn.lo hg').1; omega), ke.set_low (by simp) _, kk.set_low (by simp) _, h.aw, (h2.bel.grown hg (by have := h2.sz; omega) (fun b e => by have := hlo b e; omega)).setCell (p := ⟨o, 0, none⟩) (by simp) _, by have := hg.size; have := h2.sz; simp; omega⟩
/-- A name is put at the end of Names. -/
theorem CrL.pushE {w0 W W2 w3 : World} {o : Nat} {q : Int} {v1 v2 v3 v' : Value} {vs : List (Value × Value)} {N : List NdM} {E K : List EN} {x : EN} (h : CrL w0 W o q v1 v2 v3 vs N E K) (hb : Below W.heap.size W W2) (hn : OwnE w3 (o + 1) v' (E ++ [x])) (hg : W2.grownBy w3 v2.ownBlock) (ha : awayV v' v3) :
    CrL w0 (w3.setCell ⟨o, 1, none⟩ v') o q v1 v' v3 vs N (E ++ [x]) K := by
  have h2 := h.below hb
  have hlo : ∀ b, v2.ownBlock = some b → o + 1 ≤ b := fun b hb => (own_ge h2.e hb).1
  have ne : some o ≠ v2.ownBlock := fun e => by have := hlo o e.symm; omega
  have kb : Laid w3 o #[v1, v2, v3, .slice none 0 0, .int .i64 q] 27 := (hg.block o h2.box.lt ne).trans h2.box
  have f3 : Fr (fun g => v2.ownBlock = some g) W2 w3 := Fr.of_grown hg (fun k e => e)
  have kn : OwnNA w3 (o + 1) v1 vs N := h2.n.fr f3 (fun g hg' e => h2.n.notin h2.e (by decide) (by decide) g e hg')
  have kk : OwnE w3 (o + 1) v3 K := owns_fr h2.k f3 (away_not h.aw.symm)
  refine ⟨kb.set 1 v', kn.fr (S := fun g => g = o) ((Fr.refl _ _).set rfl) (fun g hg' e => by have := (kn.lo hg').1; omega), hn.set_low (by simp) _, kk.set_low (by simp) _, ha, (h2.bel.grown hg (by have := h2.sz; omega) (fun b e => by have := hlo b e; omega)).setCell (p := ⟨o, 1, none⟩) (by simp) _, by have := hg.size; have := h2.sz; simp; omega⟩
/-- A name is put at the end of Kept. -/
theorem CrL.pushK {w0 W W2 w3 : World} {o : Nat} {q : Int} {v1 v2 v3 v' : Value} {vs : List (Value × Value)} {N : List NdM} {E K K' : List EN} (h : CrL w0 W o q v1 v2 v3 vs N E K) (hb : Below W.heap.size W W2) (hn : OwnE w3 (o + 1) v' K') (hg : W2.grownBy w3 v3.ownBlock) (ha : awayV v2 v') :
    CrL w0 (w3.setCell ⟨o, 2, none⟩ v') o q v1 v2 v' vs N E K' := by
  have h2 := h.below hb
  have hlo : ∀ b, v3.ownBlock = some b → o + 1 ≤ b := fun b hb => (own_ge h2.k hb).1
  have ne : some o ≠ v3.ownBlock := fun e => by have := hlo o e.symm; omega
  have kb : Laid w3 o #[v1, v2, v3, .slice none 0 0, .int .i64 q] 27 := (hg.block o h2.box.lt ne).trans h2.box
  have f3 : Fr (fun g => v3.ownBlock = some g) W2 w3 := Fr.of_grown hg (fun k e => e)
  have kn : OwnNA w3 (o + 1) v1 vs N := h2.n.fr f3 (fun g hg' e => h2.n.notin h2.k (by decide) (by decide) g e hg')
  have ke : OwnE w3 (o + 1) v2 E := owns_fr h2.e f3 (away_not h.aw)
  refine ⟨kb.set 2 v', kn.fr (S := fun g => g = o) ((Fr.refl _ _).set rfl) (fun g hg' e => by have := (kn.lo hg').1; omega), ke.set_low (by simp) _, hn.set_low (by simp) _, ha, (h2.bel.grown hg (by have := h2.sz; omega) (fun b e => by have := hlo b e; omega)).setCell (p := ⟨o, 2, none⟩) (by simp) _, by have := hg.size; have := h2.sz; simp; omega⟩
theorem away_at {W : World} {v v' v3 : Value} {b e k n : Nat} {xs : List Value} (hat : v'.ownBlock = v.ownBlock ∨ v'.ownBlock = some W.heap.size) (h : awayV v v3) (h3 : W.ownsRow b e k v3 n xs) : awayV v' v3 := by
  rcases hat with e1 | e1
  · rcases h with h | h
    · exact .inl (e1.trans h)
    · exact .inr (fun e2 => h (e1.symm.trans e2))
  · exact .inr (fun e2 => by have := (own_ge h3 (e2.symm.trans e1)).2; omega)
/-- append of one entry, and where the row then lies. -/
theorem wpList_append_entry_at {ops : Array Oper} {rest : List Oper} {o : Oper} {act : Act} {Q : Exit → Act → World → Prop} (w : World) (hgd : o.guard = none) (s x : Operand)
    (ho : o.op = .call { callee := .builtin .append, args := #[s, x], argTypes := #[24, 24] })
    (base : Nat) (v : Value) (es : List EN) (e : EN) (g1 c : Nat) (hs : act.eval s = v) (hx : act.eval x = .slice (some ⟨g1, 0, none⟩) 1 c) (hown : OwnE w base v es)
    (h0 : w.cell? ⟨g1, 0, none⟩ = some (.string e.1)) (h1 : w.cell? ⟨g1, 1, none⟩ = some (.int .i64 e.2)) (hlen : es.length ≤ 1048576) (hbase : base ≤ w.heap.size)
    (h : ∀ v' w', OwnE w' base v' (es ++ [e]) → w.grownBy w' v.ownBlock → (v'.ownBlock = v.ownBlock ∨ v'.ownBlock = some w.heap.size) → wpList Tryz.prog ops Q rest (act.put o.dst v') w') : wpList Tryz.prog ops Q (o :: rest) act w := by
  obtain ⟨i0, hi, hz0, hz1, hz2⟩ := info_parts Tryz.infoEntry
  have hown' : w.ownsRow base 37 2 v es.length (two (es.map entP)) := by have := hown; unfold OwnE Own2 at this; rw [List.length_map] at this; exact this
  refine wpList_append_own_at w hgd s x 24 ho base 37 i0 (.agg #[.string ByteArray.empty, .int .i64 0]) 2 24 Tryz.underlying24 hi hz0 hz1 hz2 rfl (by decide) v es.length (two (es.map entP)) hs hown' ⟨g1, 0, none⟩ 1 c [.string e.1, .int .i64 e.2] hx (by simp) ?_ ?_ (by unfold maxLen; omega) (by omega) hbase ?_
  · intro j u hj
    rw [addr_add]
    match j with
    | 0 => simp only [List.getElem?_cons_zero, Option.some.injEq] at hj; rw [← hj]; exact h0
    | 1 => simp only [List.getElem?_cons_succ, List.getElem?_cons_zero, Option.some.injEq] at hj; rw [← hj]; exact h1
    | j + 2 => simp at hj
  · intro u hu
    simp only [List.mem_cons, List.not_mem_nil, or_false] at hu
    rcases hu with rfl | rfl <;> rfl
  · intro v' w' hown2 hg _ hat
    refine h v' w' ?_ hg hat
    unfold OwnE Own2
    rw [List.length_map, List.length_append, List.map_append, two_append]
    exact hown2
/-- append of one node, as a step of a statement whose order is drawn. -/
theorem step_append_node {ops : Array Oper} {o : Oper} {act : Act} {K : Act → World → Prop} {Q : Exit → Act → World → Prop} {E : Prop} (w : World) (hgd : o.guard = none) (s x : Operand)
    (ho : o.op = .call { callee := .builtin .append, args := #[s, x], argTypes := #[23, 23] })
    (lo : Nat) (v : Value) (vs : List (Value × Value)) (ns : List NdM) (u : Value) (l : List Nat) (z : Int) (g1 c : Nat) (hs : act.eval s = v) (hx : act.eval x = .slice (some ⟨g1, 0, none⟩) 1 c) (hown : OwnNA w lo v vs ns) (h0 : w.cell? ⟨g1, 0, none⟩ = some u) (h1 : w.cell? ⟨g1, 1, none⟩ = some (.int .i64 z)) (hox : OwnB w lo u l)
    (hne : ∀ y ∈ vs.map (·.1), awayV y u) (hlen : ns.length ≤ 1048576) (hbase : lo ≤ w.heap.size)
    (h : ∀ v' w', OwnNA w' lo v' (vs ++ [(u, .int .i64 z)]) (ns ++ [(l, z)]) → w.grownBy w' v.ownBlock → K (act.put o.dst v') w') : if Region.wanted o (yielded ops act.tmps) = true then Oper.wp Tryz.prog o act w K Q else E := by
  have hw : Region.wanted o (yielded ops act.tmps) = true := by simp [Region.wanted, hgd]
  rw [if_pos hw]
  obtain ⟨i0, hi, hz0, hz1, hz2⟩ := info_parts Tryz.infoNode
  have hl := hown.len
  refine wp_append_own w s x 23 ho lo 49 i0 (.agg #[.slice none 0 0, .int .i64 0]) 2 32 Tryz.underlying23 hi hz0 hz1 hz2 rfl (by decide) v vs.length (two vs) hs hown.row ⟨g1, 0, none⟩ 1 c [u, .int .i64 z] hx (by simp) ?_ ?_ (by unfold maxLen; omega) (by omega) hbase ?_
  · intro j y hj
    rw [addr_add]
    match j with
    | 0 => simp only [List.getElem?_cons_zero, Option.some.injEq] at hj; rw [← hj]; exact h0
    | 1 => simp only [List.getElem?_cons_succ, List.getElem?_cons_zero, Option.some.injEq] at hj; rw [← hj]; exact h1
    | j + 2 => simp at hj
  · intro y hy
    simp only [List.mem_cons, List.not_mem_nil, or_false] at hy
    rcases hy with rfl | rfl
    · obtain ⟨a, c', rfl⟩ := hox.slice; rfl
    · rfl
  · intro v' w' hown' hg _
    exact h v' w' (hown.push hox hne hown' hg) hg
/-- What a call that hands back a disk answers. -/
def DiskPost (C : MDisk) (w : World) (e : Ending) (w' : World) : Prop := ∃ v1 v2 v3 v4 vs, e = .returned (.agg #[v1, v2, v3, v4, .int .i64 C.quota]) ∧ OwnDA w' w.heap.size w'.heap.size v1 v2 v3 v4 vs C ∧ Below w.heap.size w w'
end Go.Proofs.YtpccongphchagaaGreatDoor
namespace Go.Proofs.YtpccongphchagaaGreatDoor
open Go.RowKit
/-- append of a list of entries, perhaps none. -/
theorem wpList_append_ents {ops : Array Oper} {rest : List Oper} {o : Oper} {act : Act} {Q : Exit → Act → World → Prop} (w : World) (hgd : o.guard = none) (s x : Operand)
    (ho : o.op = .call { callee := .builtin .append, args := #[s, x], argTypes := #[24, 24] })
    (base : Nat) (v : Value) (es l : List EN) (hs : act.eval s = v) (hown : OwnE w base v es) (ad : Option Addr) (c : Nat) (hx : act.eval x = .slice ad l.length c) (hr : EntAt w ad l) (hlen : es.length + l.length ≤ 1048576) (hbase : base ≤ w.heap.size)
    (h : ∀ v' w', OwnE w' base v' (es ++ l) → w.grownBy w' v.ownBlock → wpList Tryz.prog ops Q rest (act.put o.dst v') w') : wpList Tryz.prog ops Q (o :: rest) act w := by
  obtain ⟨i0, hi, hz0, hz1, hz2⟩ := info_parts Tryz.infoEntry
  have hown' : w.ownsRow base 37 2 v es.length (two (es.map entP)) := by have := hown; unfold OwnE Own2 at this; rw [List.length_map] at this; exact this
  by_cases hm : 0 < l.length
  · obtain ⟨b, off, rfl, hc⟩ := hr hm
    have hcl : ∀ k (hk : k < l.length), w.cell? ⟨b, off + k * 2, none⟩ = (two (l.map entP))[k * 2]? ∧ w.cell? ⟨b, off + (k * 2 + 1), none⟩ = (two (l.map entP))[k * 2 + 1]? := fun k hk => by
      obtain ⟨h1, h2⟩ := hc k hk
      have hk' : k < (l.map entP).length := by rw [List.length_map]; exact hk
      rw [two_get0 _ k hk', two_get1 _ k hk', h1, show off + (k * 2 + 1) = off + k * 2 + 1 from by omega, h2]
      simp [entP]
    refine wpList_append_own w hgd s x 24 ho base 37 i0 (.agg #[.string ByteArray.empty, .int .i64 0]) 2 24 Tryz.underlying24 hi hz0 hz1 hz2 rfl (by decide) v es.length (two (es.map entP)) hs hown' ⟨b, off, none⟩ l.length c (two (l.map entP)) hx (by rw [two_length, List.length_map]) ?_ ?_ (by unfold maxLen; omega) (by omega) hbase ?_
    · intro j u hj
      rw [addr_add]
      have hj2 : j < l.length * 2 := by
        rcases Nat.lt_or_ge j (l.length * 2) with h' | h'
        · exact h'
        · rw [List.getElem?_eq_none (by rw [two_length, List.length_map]; exact h')] at hj; cases hj
      rw [← hj]
      rcases Nat.mod_two_eq_zero_or_one j with e | e
      · obtain ⟨k, rfl⟩ : ∃ k, j = k * 2 := ⟨j / 2, by omega⟩
        exact (hcl k (by omega)).1
      · obtain ⟨k, rfl⟩ : ∃ k, j = k * 2 + 1 := ⟨j / 2, by omega⟩
        exact (hcl k (by omega)).2
    · intro u hu
      unfold two at hu
      obtain ⟨p, hp, hu⟩ := List.mem_flatMap.1 hu
      obtain ⟨y, _, rfl⟩ := List.mem_map.1 hp
      simp only [entP, List.mem_cons, List.not_mem_nil, or_false] at hu
      rcases hu with rfl | rfl <;> rfl
    · intro v' w' hown2 hg _
      refine h v' w' ?_ hg
      unfold OwnE Own2
      rw [List.length_map, List.length_append, List.map_append, two_append]
      exact hown2
  · have hm0 : l = [] := List.eq_nil_of_length_eq_zero (by omega)
    subst hm0
    have hr' : (Builtin.append_ #[24, 24] o.type #[v, .slice ad 0 c]).run Tryz.prog w = .ok v w := by
      rcases hown'.2 with ⟨rfl, hn⟩ | ⟨g, cap, cur, rfl, hbg, hg, hnc, _⟩
      · cases ad <;> simp [Builtin.append_, run_underlying Tryz.underlying24, sizeOf, typeInfo, hi, Builtin.lenOf, Builtin.firstCells, loadCells, loadCellsFrom]
      · cases ad <;> simp [Builtin.append_, run_underlying Tryz.underlying24, sizeOf, typeInfo, hi, Builtin.lenOf, Builtin.firstCells, storeCells, loadCells, loadCellsFrom, hnc]
    refine wpList_plain hgd fun K hK => ?_
    unfold Oper.wp execOp
    simp only [List.length_nil] at hx
    simp only [ho, resolve, invoke, builtin, Sem.run_bind, Sem.run_pure, Result.andThen_ok, List.map_toArray, List.map_cons, List.map_nil, hs, hx, hr']
    exact hK _ _ (h v w (by rw [List.append_nil]; exact hown) (grown_refl _ _))
theorem l1Entries_any (a : Option Addr) (cap : Nat) (es : List EN) (w : World) (hn : es.length ≤ 1048576) (hr : EntAt w a es) :
    Calls Tryz.prog 46 #[.slice a es.length cap] w fun e w' => ∃ v, e = .returned v ∧ OwnE w' w.heap.size v es ∧ Below w.heap.size w w' := by
  have h0 : OwnE w w.heap.size (.slice none 0 0) [] := World.ownsRow_nil w _ _ 2
  go_enter Tryz.func46, Tryz.ntmps46
  go_wp2_with (at_builtin; refine wpList_append_ents _ rfl _ _ rfl w.heap.size (.slice none 0 0) [] es rfl h0 _ _ rfl hr (by simp; omega) (by simp) ?_; intro v2 w2 ho2 hg2)
  go_ret
  exact ⟨_, rfl, ho2, (Below.refl _ _).grown hg2 (Nat.le_refl _) (fun k h => by simp [Value.ownBlock] at h)⟩
theorem cloneE_any (a : Option Addr) (cap : Nat) (es : List EN) (w : World) (hn : es.length ≤ 1048576) (hr : EntAt w a es) :
    Calls Tryz.prog 36 #[.slice a es.length cap] w fun e w' => ∃ v, e = .returned v ∧ OwnE w' w.heap.size v es ∧ Below w.heap.size w w' := by
  have hnn := fun (n c : Nat) (x : Option Addr) (w : World) => Lib.run_eql_slice_nil (P := Tryz.prog) w 24 37 x n c 0 0 Tryz.underlying24
  have hA : Below w.heap.size w (w.alloc (.cells #[] 37)) := (Below.refl _ _).alloc (Nat.le_refl _) _
  have hE : OwnE (w.alloc (.cells #[] 37)) w.heap.size (.slice (some ⟨w.heap.size, 0, none⟩) 0 0) [] := ⟨rfl, .inr ⟨w.heap.size, 0, #[], rfl, Nat.le_refl _, heap_alloc_new w _, by simp, by simp [maxLen], by simp, by simp [two]⟩⟩
  cases a with
  | none =>
    have h0 : es = [] := by
      cases es with
      | nil => rfl
      | cons x r => obtain ⟨b, off, e, _⟩ := hr (by simp); cases e
    subst h0
    go_enter Tryz.func36, Tryz.ntmps36
    go_wp2
    go_ret
    exact ⟨_, rfl, World.ownsRow_nil w _ _ 2, Below.refl _ _⟩
  | some x =>
    go_enter Tryz.func36, Tryz.ntmps36
    go_wp2_with (at_builtin; refine wpList_append_ents _ rfl _ _ rfl w.heap.size (.slice (some ⟨w.heap.size, 0, none⟩) 0 0) [] es rfl hE _ _ rfl (hr.below hA) (by simp; omega) (by simp) ?_; intro v2 w2 ho2 hg2)
    go_ret
    exact ⟨_, rfl, ho2, hA.grown hg2 (by simp) (fun k h => by simp [Value.ownBlock] at h; omega)⟩
end Go.Proofs.YtpccongphchagaaGreatDoor
namespace Go.Proofs.YtpccongphchagaaGreatDoor
open Go.RowKit
theorem run_enterB (v : Value) (w : World) : (callFunc 47 #[v]).run Tryz.prog w = .ok (.enter 47 #[v]) w := by
  kernel_rfl
theorem run_enterC (v : Value) (w : World) : (callFunc 35 #[v]).run Tryz.prog w = .ok (.enter 35 #[v]) w := by
  kernel_rfl
/-- A call of a function of one argument, as a step of a statement whose order is drawn. -/
theorem step_call_one (f : FuncId) (hf : ∀ (v : Value) (w : World), (callFunc f #[v]).run Tryz.prog w = .ok (.enter f #[v]) w) {ops : Array Oper} {o : Oper} {act : Act} {w : World} {K : Act → World → Prop} {Q : Exit → Act → World → Prop} {E : Prop} (x : Operand) (ts : Array TypeId) (hgd : o.guard = none)
    (ho : o.op = .call { callee := .value (.func f), args := #[x], argTypes := ts }) (v : Value) (hx : act.eval x = v) (h : Calls Tryz.prog f #[v] w fun e w' => ∃ u, e = .returned u ∧ K (act.put o.dst u) w') :
    if Region.wanted o (yielded ops act.tmps) = true then Oper.wp Tryz.prog o act w K Q else E := by
  have hw : Region.wanted o (yielded ops act.tmps) = true := by simp [Region.wanted, hgd]
  rw [if_pos hw]
  obtain ⟨dst, op, ty, pos, after, guard⟩ := o
  simp only at ho hgd
  subst ho
  unfold Oper.wp
  rw [execOp_call_go]
  simp only [List.map_toArray, List.map_cons, List.map_nil, hx, List.append_toArray, List.nil_append, List.append_nil, hf, Oper.upon_enter]
  refine h.mono ?_
  rintro e w' ⟨u, rfl, hk⟩
  exact hk
/-- What holds behind the copy and the new list of one, in whatever order the statement was gone through. -/
structure NOk (w5 W0 Y : World) (o g : Nat) (q z : Int) (v1 v2 v3 u : Value) (vs : List (Value × Value)) (N : List NdM) (E K : List EN) (R : List Nat) : Prop where
  n : OwnNA Y (o + 1) v1 vs N
  c0 : Y.cell? ⟨g, 0, none⟩ = some u
  c1 : Y.cell? ⟨g, 1, none⟩ = some (.int .i64 z)
  ow : OwnB Y (o + 1) u R
  sz : o + 1 ≤ Y.heap.size
  next : ∀ w3 v', OwnNA w3 (o + 1) v' (vs ++ [(u, .int .i64 z)]) (N ++ [(R, z)]) → Y.grownBy w3 v1.ownBlock → CrL w5 (w3.setCell ⟨o, 0, none⟩ v') o q v' v2 v3 (vs ++ [(u, .int .i64 z)]) (N ++ [(R, z)]) E K ∧ w3.cell? ⟨o, 0, none⟩ = some v1 ∧ w3.frozen? ⟨o, 0, none⟩ = false ∧ (∀ b, b < W0.heap.size → v1.ownBlock ≠ some b → w3.heap[b]? = W0.heap[b]?)
theorem node_arm {w5 W0 W w2 Y : World} {o : Nat} {q : Int} {v1 v2 v3 u : Value} {vs : List (Value × Value)} {N : List NdM} {E K : List EN} {R : List Nat} (z : Int) (C : CrL w5 W0 o q v1 v2 v3 vs N E K) (e1 : W.heap = W0.heap) (e2 : W.os = W0.os) (e3 : W.tape = W0.tape) (e4 : W.output = W0.output) (hb2 : Below W.heap.size W w2) (ho2 : OwnB w2 W.heap.size u R)
    (y1 : Y.heap = (w2.alloc (.cells #[u, .int .i64 z] 49)).heap) (y2 : Y.os = w2.os) (y3 : Y.tape = w2.tape) (y4 : Y.output = w2.output) : NOk w5 W0 Y o w2.heap.size q z v1 v2 v3 u vs N E K R := by
  have hb : Below W0.heap.size W0 w2 := ⟨hb2.os.trans e2, hb2.tape.trans e3, hb2.output.trans e4, by rw [← e1]; exact hb2.size, fun k hk => by rw [← e1]; exact hb2.block k (by rw [e1]; exact hk)⟩
  have hal := (Below.refl w2.heap.size w2).alloc (Nat.le_refl _) (.cells #[u, .int .i64 z] 49)
  have hbw : Below w2.heap.size w2 Y := ⟨y2, y3, y4, by rw [y1]; exact hal.size, fun k hk => by rw [y1]; exact hal.block k hk⟩
  have hbY : Below W0.heap.size W0 Y := hb.trans (hbw.mono hb.size)
  have C' := C.below hbY
  have hL : Laid Y w2.heap.size #[u, .int .i64 z] 49 := by
    have h := Laid.new w2 #[u, .int .i64 z] 49
    unfold Laid at h ⊢
    rw [y1]; exact h
  rw [e1] at ho2
  have hou : OwnB Y W0.heap.size u R := OwnB.below ho2 hbw (Nat.le_refl _)
  refine ⟨C'.n, hL.cell 0, hL.cell 1, OwnB.mono hou C.sz, C'.sz, fun w3 v' hn hg => ⟨CrL.pushN C hbY hn hg, ?_, ?_, fun b hb1 hb2 => ?_⟩⟩
  · have ne : some o ≠ v1.ownBlock := fun e => by have := (own_ge C'.n.row e.symm).1; omega
    have kb : Laid w3 o #[v1, v2, v3, .slice none 0 0, .int .i64 q] 27 := (hg.block o C'.box.lt ne).trans C'.box
    exact kb.cell 0
  · have ne : some o ≠ v1.ownBlock := fun e => by have := (own_ge C'.n.row e.symm).1; omega
    have kb : Laid w3 o #[v1, v2, v3, .slice none 0 0, .int .i64 q] 27 := (hg.block o C'.box.lt ne).trans C'.box
    exact frozen_of_row w3 o 0 _ _ kb
  · exact (hg.block b (Nat.lt_of_lt_of_le hb1 hbY.size) (fun e => hb2 e.symm)).trans (hbY.block b hb1)
/-- The call in whatever order. -/
theorem node_call (f : FuncId) (hf : ∀ (a : Option Addr) (cap : Nat) (l : List Nat) (w : World), l.length ≤ 1048576 → RowAt w a l → Calls Tryz.prog f #[.slice a l.length cap] w fun e w' => ∃ v, e = .returned v ∧ OwnB w' w.heap.size v l ∧ Below w.heap.size w w')
    {w5 W0 : World} {o : Nat} {q : Int} {v1 v2 v3 : Value} {vs : List (Value × Value)} {N : List NdM} {E K : List EN} {R : List Nat} {a : Option Addr} (z : Int) (C : CrL w5 W0 o q v1 v2 v3 vs N E K) (jr : RowAt W0 a R) (n cap : Nat) (hn : n = R.length) (hR : R.length ≤ 1048576) :
    ∀ W : World, W.heap = W0.heap → W.os = W0.os → W.tape = W0.tape → W.output = W0.output → Calls Tryz.prog f #[.slice a n cap] W fun e w2 => ∃ a2 c2, e = .returned (.slice a2 R.length c2) ∧ (∀ y ∈ vs.map (·.1), awayV y (.slice a2 R.length c2)) ∧
      (∀ Y : World, Y.heap = (w2.alloc (.cells #[.slice a2 R.length c2, .int .i64 z] 49)).heap → Y.os = w2.os → Y.tape = w2.tape → Y.output = w2.output → NOk w5 W0 Y o w2.heap.size q z v1 v2 v3 (.slice a2 R.length c2) vs N E K R) ∧ w2.cell? ⟨o, 0, none⟩ = some v1 ∧ o < w2.heap.size := by
  intro W e1 e2 e3 e4
  subst hn
  have jr' : RowAt W a R := by
    intro hp
    obtain ⟨b, off, rfl, hc⟩ := jr hp
    refine ⟨b, off, rfl, fun i hi => ?_⟩
    rw [← hc i hi]
    exact World.cell?_of_block (by rw [e1])
  refine (hf a cap R W hR jr').mono ?_
  rintro e w2 ⟨v2', rfl, ho2, hb2⟩
  obtain ⟨a2, c2, rfl⟩ := ho2.slice
  have hb : Below W0.heap.size W0 w2 := ⟨hb2.os.trans e2, hb2.tape.trans e3, hb2.output.trans e4, by rw [← e1]; exact hb2.size, fun k hk => by rw [← e1]; exact hb2.block k (by rw [e1]; exact hk)⟩
  refine ⟨a2, c2, rfl, fun y hy => ?_, fun Y y1 y2 y3 y4 => node_arm z C e1 e2 e3 e4 hb2 ho2 y1 y2 y3 y4, (C.box.below hb C.box.lt).cell 0, Nat.lt_of_lt_of_le C.box.lt hb.size⟩
  cases hby : y.ownBlock with
  | none => exact .inl hby
  | some g =>
    refine .inr fun e => ?_
    have h1 := (C.n.lo (.inr ⟨y, hy, hby⟩)).2
    rw [hby] at e
    have h2 := (own_ge ho2 e.symm).1
    rw [e1] at h2
    omega
theorem n_next {w5 W0 w2 Y w3 : World} {o : Nat} {q z : Int} {v1 v2 v3 u v' : Value} {vs : List (Value × Value)} {N : List NdM} {E K : List EN} {R : List Nat} (h : ∀ Y : World, Y.heap = (w2.alloc (.cells #[u, .int .i64 z] 49)).heap → Y.os = w2.os → Y.tape = w2.tape → Y.output = w2.output → NOk w5 W0 Y o w2.heap.size q z v1 v2 v3 u vs N E K R)
    (ho : OwnNA w3 (o + 1) v' (vs ++ [(u, .int .i64 z)]) (N ++ [(R, z)])) (hg : Y.grownBy w3 v1.ownBlock) (y1 : Y.heap = (w2.alloc (.cells #[u, .int .i64 z] 49)).heap := by rfl) (y2 : Y.os = w2.os := by rfl) (y3 : Y.tape = w2.tape := by rfl) (y4 : Y.output = w2.output := by rfl) :
    CrL w5 (w3.setCell ⟨o, 0, none⟩ v') o q v' v2 v3 (vs ++ [(u, .int .i64 z)]) (N ++ [(R, z)]) E K ∧ w3.cell? ⟨o, 0, none⟩ = some v1 ∧ w3.frozen? ⟨o, 0, none⟩ = false ∧ (∀ b, b < W0.heap.size → v1.ownBlock ≠ some b → w3.heap[b]? = W0.heap[b]?) :=
  (h Y y1 y2 y3 y4).next w3 v' ho hg
/-- The rows of bytes have room for what they hold. -/
def CapAt (w : World) (a : Option Addr) (ns : List NdM) : Prop := 0 < ns.length → ∃ b off, a = some ⟨b, off, none⟩ ∧ ∀ i (h : i < ns.length), ∃ ai ci, w.cell? ⟨b, off + i * 2, none⟩ = some (.slice ai ns[i].1.length ci) ∧ ns[i].1.length ≤ ci
theorem CapAt.below {w w' : World} {a : Option Addr} {ns : List NdM} (h : CapAt w a ns) (hb : Below w.heap.size w w') : CapAt w' a ns := fun hp => by
  obtain ⟨b, off, rfl, hc⟩ := h hp
  refine ⟨b, off, rfl, fun i hi => ?_⟩
  obtain ⟨ai, ci, h1, h2⟩ := hc i hi
  exact ⟨ai, ci, by rw [hb.cell (p := ⟨b, off + i * 2, none⟩) (lt_of_cell0 h1)]; exact h1, h2⟩
def DiskCap (w : World) (v : Value) (D : MDisk) : Prop := ∃ a1 n1 c1 x2 x3 a4 n4 c4 x5, v = .agg #[.slice a1 n1 c1, x2, x3, .slice a4 n4 c4, x5] ∧ CapAt w a1 D.nodes ∧ n4 ≤ c4
theorem DiskCap.below {w w' : World} {v : Value} {D : MDisk} (h : DiskCap w v D) (hb : Below w.heap.size w w') : DiskCap w' v D := by
  obtain ⟨a1, n1, c1, x2, x3, a4, n4, c4, x5, e, h1, h2⟩ := h
  exact ⟨a1, n1, c1, x2, x3, a4, n4, c4, x5, e, h1.below hb, h2⟩
theorem own_cap {w : World} {base e k n m cap : Nat} {a : Option Addr} {xs : List Value} (h : w.ownsRow base e k (.slice a n cap) m xs) : n ≤ cap := by
  rcases h.2 with ⟨e1, _⟩ | ⟨g, c, cur, e1, _, _, hnc, _⟩
  · simp only [Value.slice.injEq] at e1; omega
  · simp only [Value.slice.injEq] at e1; omega
theorem OwnN.cap {w : World} {base : Nat} {a : Option Addr} {n cap : Nat} {ns : List NdM} (h : OwnN w base (.slice a n cap) ns) : CapAt w a ns := fun hp => by
  obtain ⟨vs, hlen, h2, hi⟩ := h
  rcases h2.2 with ⟨_, hn⟩ | ⟨g, cap', cur, h', _⟩
  · omega
  · simp only [Value.slice.injEq] at h'
    obtain ⟨rfl, rfl, rfl⟩ := h'
    refine ⟨g, 0, rfl, fun i hi2 => ?_⟩
    obtain ⟨x, hx, ox⟩ := hi i hi2
    obtain ⟨ai, ci, rfl⟩ := ox.slice
    obtain ⟨hl2, hx2⟩ := List.getElem?_eq_some_iff.1 hx
    obtain ⟨c0, _⟩ := Own2.cells h2 i hl2
    rw [hx2] at c0
    rw [Nat.zero_add]
    exact ⟨ai, ci, c0, own_cap ox⟩
theorem OwnD.cap {w : World} {base : Nat} {v : Value} {D : MDisk} (h : OwnD w base v D) : DiskCap w v D := by
  obtain ⟨v1, v2, v3, v4, rfl, h1, h2, h3, h4⟩ := h
  obtain ⟨a1, c1, rfl⟩ := h1.slice
  obtain ⟨a4, c4, rfl⟩ := h4.slice
  exact ⟨_, _, _, _, _, _, _, _, _, rfl, h1.cap, own_cap h4⟩
end Go.Proofs.YtpccongphchagaaGreatDoor
namespace Go.Proofs.YtpccongphchagaaGreatDoor
open Go.RowKit
theorem CrL.app {w5 W : World} {o : Nat} {q : Int} {v1 v2 v3 : Value} {vs : List (Value × Value)} {N : List NdM} {E K : List EN} (C : CrL w5 W o q v1 v2 v3 vs N E K) (x : EN) :
    Below W.heap.size W (W.alloc (.cells #[.string x.1, .int .i64 x.2] 37)) ∧ OwnE (W.alloc (.cells #[.string x.1, .int .i64 x.2] 37)) (o + 1) v2 E ∧ OwnE (W.alloc (.cells #[.string x.1, .int .i64 x.2] 37)) (o + 1) v3 K ∧ (W.alloc (.cells #[.string x.1, .int .i64 x.2] 37)).cell? ⟨W.heap.size, 0, none⟩ = some (.string x.1) ∧ (W.alloc (.cells #[.string x.1, .int .i64 x.2] 37)).cell? ⟨W.heap.size, 1, none⟩ = some (.int .i64 x.2) ∧ o + 1 ≤ (W.alloc (.cells #[.string x.1, .int .i64 x.2] 37)).heap.size := by
  have hal := (Below.refl W.heap.size W).alloc (Nat.le_refl _) (.cells #[.string x.1, .int .i64 x.2] 37)
  have hL := Laid.new W #[.string x.1, .int .i64 x.2] 37
  exact ⟨hal, C.e.below hal, C.k.below hal, hL.cell 0, hL.cell 1, Nat.le_trans C.sz hal.size⟩
theorem CrL.grown {w5 W w3 : World} {o : Nat} {q : Int} {v1 v2 v3 : Value} {vs : List (Value × Value)} {N : List NdM} {E K : List EN} {bk : Option Nat} (C : CrL w5 W o q v1 v2 v3 vs N E K) (hg : W.grownBy w3 bk) (hb : ∀ b, bk = some b → o + 1 ≤ b) : Laid w3 o #[v1, v2, v3, .slice none 0 0, .int .i64 q] 27 :=
  (hg.block o C.box.lt (fun e => by have := hb o e.symm; omega)).trans C.box
/-- Behind an append to Names. -/
theorem CrL.appE {w5 W w3 : World} {o : Nat} {q : Int} {v1 v2 v3 v' : Value} {vs : List (Value × Value)} {N : List NdM} {E K : List EN} {x : EN} (C : CrL w5 W o q v1 v2 v3 vs N E K) (ho : OwnE w3 (o + 1) v' (E ++ [x])) (hg : (W.alloc (.cells #[.string x.1, .int .i64 x.2] 37)).grownBy w3 v2.ownBlock) (hat : v'.ownBlock = v2.ownBlock ∨ v'.ownBlock = some (W.alloc (.cells #[.string x.1, .int .i64 x.2] 37)).heap.size) :
    CrL w5 (w3.setCell ⟨o, 1, none⟩ v') o q v1 v' v3 vs N (E ++ [x]) K ∧ w3.cell? ⟨o, 1, none⟩ = some v2 ∧ w3.frozen? ⟨o, 1, none⟩ = false ∧ w3.cell? ⟨o, 2, none⟩ = some v3 ∧ w3.frozen? ⟨o, 2, none⟩ = false ∧ (∀ b, b < W.heap.size → v2.ownBlock ≠ some b → w3.heap[b]? = W.heap[b]?) := by
  have hal := (C.app x).1
  have C2 := C.below hal
  have kb := C2.grown hg (fun b hb => (own_ge C2.e hb).1)
  exact ⟨C.pushE hal ho hg (away_at hat C.aw C2.k), kb.cell 1, frozen_of_row w3 o 1 _ _ kb, kb.cell 2, frozen_of_row w3 o 2 _ _ kb, fun b h1 h2 => (hg.block b (Nat.lt_of_lt_of_le h1 hal.size) (fun e => h2 e.symm)).trans (hal.block b h1)⟩
/-- Behind an append to Kept. -/
theorem CrL.appK {w5 W w3 : World} {o : Nat} {q : Int} {v1 v2 v3 v' : Value} {vs : List (Value × Value)} {N : List NdM} {E K : List EN} {x : EN} (C : CrL w5 W o q v1 v2 v3 vs N E K) (ho : OwnE w3 (o + 1) v' (K ++ [x])) (hg : (W.alloc (.cells #[.string x.1, .int .i64 x.2] 37)).grownBy w3 v3.ownBlock) (hat : v'.ownBlock = v3.ownBlock ∨ v'.ownBlock = some (W.alloc (.cells #[.string x.1, .int .i64 x.2] 37)).heap.size) :
    CrL w5 (w3.setCell ⟨o, 2, none⟩ v') o q v1 v2 v' vs N E (K ++ [x]) ∧ w3.cell? ⟨o, 2, none⟩ = some v3 ∧ w3.frozen? ⟨o, 2, none⟩ = false := by
  have hal := (C.app x).1
  have C2 := C.below hal
  have kb := C2.grown hg (fun b hb => (own_ge C2.k hb).1)
  exact ⟨C.pushK hal ho hg (away_at hat C.aw.symm C2.e).symm, kb.cell 2, frozen_of_row w3 o 2 _ _ kb⟩
end Go.Proofs.YtpccongphchagaaGreatDoor
namespace Go.Proofs.YtpccongphchagaaGreatDoor
open Go.RowKit
theorem ret_disk {fn : Func} {tmps : Array Value} {p : Tmp} (B : Nat) (W : World) (x1 x2 x3 x4 x5 : Value) (hf : fn.results = #[.cell p 27]) (hp : tmps.getD p undef = .pointer (some ⟨B, 0, none⟩)) (hb : Laid W B #[x1, x2, x3, x4, x5] 27) :
    (results fn tmps).run Tryz.prog W = .ok (.agg #[x1, x2, x3, x4, x5]) W :=
  results_cell_row (P := Tryz.prog) hf _ _ B _ _ _ _ hp hb Tryz.underlying27 rfl (by kernel_rfl)
def setD (W : World) (B : Nat) (x1 x2 x3 x4 x5 : Value) : World := ((((W.setCell ⟨B, 0, none⟩ x1).setCell ⟨B, 1, none⟩ x2).setCell ⟨B, 2, none⟩ x3).setCell ⟨B, 3, none⟩ x4).setCell ⟨B, 4, none⟩ x5
theorem set_disk {W : World} {B : Nat} {y1 y2 y3 y4 y5 : Value} (x1 x2 x3 x4 x5 : Value) (h : Laid W B #[y1, y2, y3, y4, y5] 27) : Laid (setD W B x1 x2 x3 x4 x5) B #[x1, x2, x3, x4, x5] 27 := ((((h.set 0 x1).set 1 x2).set 2 x3).set 3 x4).set 4 x5
theorem setD_fr (W : World) (B : Nat) (x1 x2 x3 x4 x5 : Value) : Fr (fun g => g = B) W (setD W B x1 x2 x3 x4 x5) := by
  have h0 : (fun g => g = B) B := rfl
  exact (((((Fr.refl (fun g => g = B) W).set (u := x1) (j := 0) h0).set (u := x2) (j := 1) h0).set (u := x3) (j := 2) h0).set (u := x4) (j := 3) h0).set (u := x5) (j := 4) h0
theorem setD_size (W : World) (B : Nat) (x1 x2 x3 x4 x5 : Value) : (setD W B x1 x2 x3 x4 x5).heap.size = W.heap.size := by simp [setD]
theorem own_no (w : World) (base hi : Nat) : OwnDA w base hi (.slice none 0 0) (.slice none 0 0) (.slice none 0 0) (.slice none 0 0) [] noDisk :=
  ⟨OwnNA.nil _ _, World.ownsRow_nil _ _ _ 2, World.ownsRow_nil _ _ _ 2, World.ownsRow_nil _ _ _ 4, .inl rfl, (fun g h => h.elim (fun e => by cases e) (fun ⟨_, hx, _⟩ => by cases hx)), (fun g h => by cases h), (fun g h => by cases h), (fun g h => by cases h)⟩
/-- What is handed back where the disk is no good. -/
theorem disk_no {w W : World} {B : Nat} {C : MDisk} (hC : C = noDisk) (hB : w.heap.size ≤ B) (hb : Below w.heap.size w W) : DiskPost C w (.returned (.agg #[.slice none 0 0, .slice none 0 0, .slice none 0 0, .slice none 0 0, .int .i64 0])) (setD W B (.slice none 0 0) (.slice none 0 0) (.slice none 0 0) (.slice none 0 0) (.int .i64 0)) := by
  subst hC
  exact ⟨_, _, _, _, [], rfl, own_no _ _ _, hb.trans ((setD_fr W B _ _ _ _ _).below (fun g e => by omega) hb.size)⟩
/-- What is handed back where it is. -/
theorem disk_yes {w w0 W : World} {B o : Nat} {C : MDisk} {q : Int} {v1 v2 v3 : Value} {vs : List (Value × Value)} {N : List NdM} {E K : List EN} (hC : C = ⟨N, E, K, [], q⟩) (h : CrL w0 W o q v1 v2 v3 vs N E K) (hB : w.heap.size ≤ B) (hBo : B < o) (hb : Below w.heap.size w w0) (ho : w0.heap.size = o) :
    DiskPost C w (.returned (.agg #[v1, v2, v3, .slice none 0 0, .int .i64 q])) (setD W B v1 v2 v3 (.slice none 0 0) (.int .i64 q)) := by
  subst hC
  have hbw : Below w.heap.size w W := hb.trans (h.bel.mono (by omega))
  have hz := setD_size W B v1 v2 v3 (.slice none 0 0) (.int .i64 q)
  have hf := setD_fr W B v1 v2 v3 (.slice none 0 0) (.int .i64 q)
  have h1 : OwnDA W (o + 1) W.heap.size v1 v2 v3 (.slice none 0 0) vs ⟨N, E, K, [], q⟩ := ⟨h.n, h.e, h.k, World.ownsRow_nil _ _ _ 4, h.aw, fun g hg => (h.n.lo hg).2, fun g hg => (own_ge h.e hg).2, fun g hg => (own_ge h.k hg).2, fun g hg => by cases hg⟩
  have h2 := h1.fr hf (fun g h1 _ e => by omega)
  rw [← hz] at h2
  have hle : w.heap.size ≤ o + 1 := by omega
  exact ⟨v1, v2, v3, _, vs, rfl, ⟨⟨h2.nodes.len, Own2.mono h2.nodes.row hle, fun i hi => by obtain ⟨x, hx, ho⟩ := h2.nodes.body i hi; exact ⟨x, hx, ho.mono hle⟩, h2.nodes.apart⟩, OwnE.mono h2.names hle, OwnE.mono h2.kept hle, OwnO.mono h2.pend hle, h2.away, h2.b1, h2.b2, h2.b3, h2.b4⟩, hbw.trans (hf.below (fun g e => by omega) hbw.size)⟩
open Classical in
/-- The disk that a crash leaves. -/
noncomputable def crOf (D : MDisk) (dirs : Int) (picks : List Int) : MDisk := if ValidD D then crashD D dirs picks else noDisk
theorem crOf_no {D : MDisk} {dirs : Int} {picks : List Int} (h : ¬ ValidD D) : crOf D dirs picks = noDisk := by unfold crOf; rw [if_neg h]
theorem crOf_yes {D : MDisk} {dirs : Int} {picks : List Int} (h : ValidD D) : crOf D dirs picks = crashD D dirs picks := by unfold crOf; rw [if_pos h]
theorem pre_min {nodes : Int} {es : List EN} {ops : List DO} (k d : Nat) (h : ops.length ≤ k) : preE nodes es ops (min k d) = preE nodes es ops d := by
  rcases Nat.le_total k d with h1 | h1
  · rw [Nat.min_eq_left h1, preE_all k h, preE_all d (by omega)]
  · rw [Nat.min_eq_right h1]
theorem preE_zero {nodes : Int} {es : List EN} {ops : List DO} : preE nodes es ops 0 = es := by cases ops <;> rfl
/-- A row of entries beside the disk that is being made. -/
theorem ext_keep {W w3 : World} {o i b : Nat} {ve vv u : Value} {es : List EN} (x : OwnE W b ve es) (hb : o < b) (hk : ∀ g, g < W.heap.size → vv.ownBlock ≠ some g → w3.heap[g]? = W.heap[g]?) (ha : awayV ve vv) : OwnE (w3.setCell ⟨o, i, none⟩ u) b ve es := by
  refine OwnE.set_low ?_ (by simpa using hb) u
  refine ⟨x.1, ?_⟩
  rcases x.2 with hn' | ⟨g, cap, cur, rfl, hbase, hg, rest⟩
  · exact .inl hn'
  · exact .inr ⟨g, cap, cur, rfl, hbase, (hk g (lt_of_block hg) (fun e => away_not ha g rfl e)).trans hg, rest⟩
theorem pre_min2 {nodes : Int} {es : List EN} {ops : List DO} (d : Nat) : preE nodes es ops (min d ops.length) = preE nodes es ops d := by
  rcases Nat.le_total d ops.length with h1 | h1
  · rw [Nat.min_eq_left h1]
  · rw [Nat.min_eq_right h1, preE_all d h1]
theorem quiet_same {P : Program} {f : FuncId} {args : Array Value} {w : World} {a x : Nat} {v : Value} (h : Calls P f args (w.drewN (a + x)) fun e w' => e = .returned v ∧ w' = w.drewN (a + x)) : Calls P f args (w.drewN (a + x)) fun e w'' => e = .returned v ∧ ∃ n, w'' = w.drewN (a + n) :=
  h.mono fun _ _ ⟨he, hm⟩ => ⟨he, x, hm⟩
end Go.Proofs.YtpccongphchagaaGreatDoor
