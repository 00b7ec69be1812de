import Derived.Test.YtpbpidfjecejcaaGreatDoorPka
namespace Go.Proofs.YtpbpidfjecejcaaGreatDoor
open Go.RowKit
/-- append of bytes, perhaps none, as a step of a statement whose order is drawn. -/
theorem step_append_blk {ops : Array Oper} {o : Oper} {act : Act} {K : Act → World → Prop} {Q : Exit → Act → World → Prop} {E : Prop} (w : World) (hgd : o.guard = none) (s x : Operand)
    (ho : o.op = .call { callee := .builtin .append, args := #[s, x], argTypes := #[52, 52] })
    (base : Nat) (v : Value) (l m : List Nat) (hs : act.eval s = v) (hown : OwnB w base v l) (ad : Option Addr) (c : Nat) (hx : act.eval x = .slice ad m.length c) (hr : RowAt w ad m)
    (hlen : l.length + m.length ≤ 1099511627776) (hbase : base ≤ w.heap.size)
    (h : ∀ v' w', OwnB w' base v' (l ++ m) → w.grownBy w' v.ownBlock → (v'.ownBlock = v.ownBlock ∨ v'.ownBlock = some w.heap.size) → K (act.put o.dst v') w') : if Region.wanted o (yielded ops act.tmps) = true then Oper.wp Tryz.prog o act w K Q else E := by
  have hw : Region.wanted o (yielded ops act.tmps) = true := by simp [Region.wanted, hgd]
  rw [if_pos hw]
  obtain ⟨i0, hi, hz0, hz1, hz2⟩ := info_parts Tryz.info5
  by_cases hm : 0 < m.length
  · obtain ⟨b, off, rfl, hc⟩ := hr hm
    have hnews : ∀ j u, (m.map bv)[j]? = some u → w.cell? ((⟨b, off, none⟩ : Addr).add j) = some u := by
      intro j u hj
      rw [addr_add]
      have hjm : j < m.length := by
        rcases Nat.lt_or_ge j m.length with h' | h'
        · exact h'
        · simp [List.getElem?_eq_none h'] at hj
      rw [hc j hjm]
      simp [hjm, bv] at hj
      rw [hj]
    have h1 : ∀ u ∈ m.map bv, u.oneCell' = true := by
      intro u hu
      simp only [List.mem_map] at hu
      obtain ⟨y, _, rfl⟩ := hu
      rfl
    obtain ⟨v', w', hr', h2, h3, _⟩ := run_append_own (P := Tryz.prog) w base 52 o.type 5 i0 (.int .u8 0) 1 1 Tryz.underlying52 hi hz0 hz1 hz2 rfl (by decide) v l.length (l.map bv) hown ⟨b, off, none⟩ m.length c (m.map bv) (by simp) hnews h1 (by unfold maxLen; omega) (by omega) hbase
    have hblk : v'.ownBlock = v.ownBlock ∨ v'.ownBlock = some w.heap.size := by
      rcases hown.2 with ⟨rfl, hn⟩ | ⟨g, cap, cur, rfl, hbg, hg, hnc, hcm, hcs, htake⟩
      · have hr2 := run_append_nil (P := Tryz.prog) w 52 o.type 5 i0 (.int .u8 0) Tryz.underlying52 hi hz0 ⟨b, off, none⟩ m.length c (m.map bv) (by rw [hz1]; simp) hnews (by omega) (by omega) (by rw [hz2]; omega)
        rw [hr'] at hr2
        simp only [Result.ok.injEq] at hr2
        rw [hr2.1]
        exact .inr rfl
      · by_cases hroom : l.length + m.length ≤ cap
        · have hr2 := run_append_room (P := Tryz.prog) w 52 o.type 5 i0 Tryz.underlying52 hi g l.length cap cur hg ⟨b, off, none⟩ m.length c (m.map bv) (by rw [hz1]; simp) hnews h1 hroom (by rw [hz1]; simp; omega)
          rw [hr'] at hr2
          simp only [Result.ok.injEq] at hr2
          rw [hr2.1]
          exact .inl rfl
        · have hr2 := run_append_grow (P := Tryz.prog) w 52 o.type 5 i0 (.int .u8 0) Tryz.underlying52 hi hz0 ⟨g, 0, none⟩ l.length cap (l.map bv) (by rw [hz1]; simp) (hown.cells (g := g) rfl) ⟨b, off, none⟩ m.length c (m.map bv) (by rw [hz1]; simp) hnews (by omega) (by omega) (growslice_fits (by omega) (by rw [hz2]; omega))
          rw [hr'] at hr2
          simp only [Result.ok.injEq] at hr2
          rw [hr2.1]
          exact .inr rfl
    unfold Oper.wp execOp
    simp only [ho, resolve, invoke, builtin, Sem.run_bind, Sem.run_pure, Result.andThen_ok, List.map_toArray, List.map_cons, List.map_nil, hs, hx, hr']
    refine (h v' w' ?_ h3 hblk)
    unfold OwnB
    rw [List.length_append, List.map_append]
    exact h2
  · have hm0 : m = [] := List.eq_nil_of_length_eq_zero (by omega)
    subst hm0
    have hr' : (Builtin.append_ #[52, 52] o.type #[v, .slice ad 0 c]).run Tryz.prog w = .ok v w := by
      rcases hown.2 with ⟨rfl, hn⟩ | ⟨g, cap, cur, rfl, hbg, hg, hnc, _⟩
      · cases ad <;> simp [Builtin.append_, run_underlying Tryz.underlying52, sizeOf, typeInfo, hi, Builtin.lenOf, Builtin.firstCells, loadCells, loadCellsFrom]
      · cases ad <;> simp [Builtin.append_, run_underlying Tryz.underlying52, sizeOf, typeInfo, hi, Builtin.lenOf, Builtin.firstCells, storeCells, loadCells, loadCellsFrom, hnc]
    unfold Oper.wp execOp
    simp only [List.length_nil] at hx
    simp only [ho, resolve, invoke, builtin, Sem.run_bind, Sem.run_pure, Result.andThen_ok, List.map_toArray, List.map_cons, List.map_nil, hs, hx, hr']
    exact (h v w (by rw [List.append_nil]; exact hown) (grown_refl _ _) (.inl rfl))
end Go.Proofs.YtpbpidfjecejcaaGreatDoor
