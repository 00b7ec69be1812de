import Derived.Test.YtpccongphchagaaGreatDoorPkzp
import Derived.Test.YtpccongphchagaaGreatDoorPkza
import Derived.Test.YtpccongphchagaaGreatDoorPkzq
import Derived.Test.YtpccongphchagaaGreatDoorPkzh
import Derived.Deep.DeepCutAuto
namespace Go.Proofs.YtpccongphchagaaGreatDoor
open Go.RowKit
set_option linter.unusedVariables false
/-- As many zeros as the code is long, and the code. -/
def twice (code : List Nat) : List Nat := List.replicate code.length 0 ++ code
theorem twice_len (code : List Nat) : (twice code).length = code.length + code.length := by simp [twice]
theorem twice_nx (code : List Nat) : nx (twice code) 0 = 0 := by
  unfold nx twice
  cases code with
  | nil => rfl
  | cons x r => rfl
theorem twice_byte {code : List Nat} (h : ∀ x ∈ code, x < 256) : ∀ x ∈ twice code, x < 256 := fun x hx => by
  unfold twice at hx
  rcases List.mem_append.1 hx with h1 | h1
  · rw [(List.mem_replicate.1 h1).2]; decide
  · exact h x h1
/-- How the law's first loop stands. -/
structure SetL (w W : World) (B5 B6 b : Nat) (x1 x2 x3 x4 y1 y2 y3 y4 v : Value) (vs : List V4) (l : List OpV) (C : MDisk) : Prop where
  b5 : Laid W B5 #[x1, x2, x3, x4, .int .i64 4000] 27
  b6 : Laid W B6 #[y1, y2, y3, y4, .int .i64 4000] 27
  d5 : Dk W w.heap.size x1 x2 x3 x4 C
  d6 : Dk W w.heap.size y1 y2 y3 y4 C
  val : ValidD C
  q : C.quota = 4000
  ops : OwnV W b v vs l
  bel : Below w.heap.size w W
  lo : w.heap.size ≤ B5
  ne : B5 < B6
theorem SetL.below {w W W' : World} {B5 B6 b : Nat} {x1 x2 x3 x4 y1 y2 y3 y4 v : Value} {vs : List V4} {l : List OpV} {C : MDisk} (h : SetL w W B5 B6 b x1 x2 x3 x4 y1 y2 y3 y4 v vs l C) (hb : Below W.heap.size W W') : SetL w W' B5 B6 b x1 x2 x3 x4 y1 y2 y3 y4 v vs l C :=
  ⟨h.b5.below hb h.b5.lt, h.b6.below hb h.b6.lt, h.d5.below hb, h.d6.below hb, h.val, h.q, h.ops.below' hb, h.bel.trans (hb.mono h.bel.size), h.lo, h.ne⟩
/-- Both disks are put anew. -/
theorem SetL.put {w W : World} {B5 B6 b : Nat} {x1 x2 x3 x4 y1 y2 y3 y4 u1 u2 u3 u4 z1 z2 z3 z4 v : Value} {vs : List V4} {l : List OpV} {C C' : MDisk} (h : SetL w W B5 B6 b x1 x2 x3 x4 y1 y2 y3 y4 v vs l C) (hz : Dk W w.heap.size z1 z2 z3 z4 C') (hu : Dk W w.heap.size u1 u2 u3 u4 C') (hv : ValidD C') (hq : C'.quota = 4000) :
    SetL w (setD (setD W B6 z1 z2 z3 z4 (.int .i64 4000)) B5 u1 u2 u3 u4 (.int .i64 4000)) B5 B6 b u1 u2 u3 u4 z1 z2 z3 z4 v vs l C' := by
  have hlo := h.lo
  have hne := h.ne
  have f6 := setD_fr W B6 z1 z2 z3 z4 (.int .i64 4000)
  have L5 : Laid (setD W B6 z1 z2 z3 z4 (.int .i64 4000)) B5 #[x1, x2, x3, x4, .int .i64 4000] 27 := (f6.block B5 h.b5.lt (by omega)).trans h.b5
  have L6 := set_disk z1 z2 z3 z4 (.int .i64 4000) h.b6
  have f5 := setD_fr (setD W B6 z1 z2 z3 z4 (.int .i64 4000)) B5 u1 u2 u3 u4 (.int .i64 4000)
  have hb6 : Below w.heap.size w (setD W B6 z1 z2 z3 z4 (.int .i64 4000)) := h.bel.trans (f6.below (fun g e => by omega) h.bel.size)
  exact ⟨set_disk _ _ _ _ _ L5, (f5.block B6 L6.lt (by omega)).trans L6, (hu.setD h.b6 _ _ _ _ _).setD L5 _ _ _ _ _, (hz.setD h.b6 _ _ _ _ _).setD L5 _ _ _ _ _, hv, hq, (h.ops.setD h.b6 _ _ _ _ _).setD L5 _ _ _ _ _, hb6.trans (f5.below (fun g e => by omega) hb6.size), hlo, hne⟩
theorem OwnDA.dk {w : World} {base hi : Nat} {v1 v2 v3 v4 : Value} {vs : List (Value × Value)} {D : MDisk} (h : OwnDA w base hi v1 v2 v3 v4 vs D) : Dk w base v1 v2 v3 v4 D := ⟨h.nodes.own, h.names, h.kept, h.pend⟩
theorem Dk.low {w : World} {base base' : Nat} {v1 v2 v3 v4 : Value} {D : MDisk} (h : Dk w base v1 v2 v3 v4 D) (hb : base' ≤ base) : Dk w base' v1 v2 v3 v4 D := ⟨h.n.mono hb, h.e.mono hb, h.k.mono hb, h.p.mono hb⟩
theorem Dk.cap {w : World} {base : Nat} {v1 v2 v3 v4 x5 : Value} {D : MDisk} (h : Dk w base v1 v2 v3 v4 D) : DiskCap w (.agg #[v1, v2, v3, v4, x5]) D := by
  obtain ⟨a1, c1, rfl⟩ := h.n.slice
  obtain ⟨a4, c4, rfl⟩ := h.p.slice
  exact ⟨a1, _, c1, v2, v3, a4, _, c4, x5, rfl, OwnN.cap h.n, own_cap h.p⟩
/-- One operation of the row. -/
theorem ops_one {w : World} {a : Option Addr} {l : List OpV} (h : OpsAt w a l) (i : Nat) (hi : i < l.length) : ∃ b off, a = some ⟨b, off, none⟩ ∧ OpsAt w (some ⟨b, off + i * 4, none⟩) [l[i]] := by
  obtain ⟨b, off, rfl, hc⟩ := h (by omega)
  refine ⟨b, off, rfl, fun _ => ⟨b, off + i * 4, rfl, fun k hk => ?_⟩⟩
  obtain rfl : k = 0 := by simpa using hk
  obtain ⟨ai, ci, h0, h1, h2, h3, h4⟩ := hc i hi
  exact ⟨ai, ci, by simpa using h0, by simpa using h1, by simpa using h2, by simpa using h3, by simpa using h4⟩
/-- What one operation does. -/
theorem doOf_one {C : MDisk} (h : ValidD C) (o : OpV) : ValidD (doOf C [o]).1 ∧ (doOf C [o]).1.quota = C.quota := by
  rw [doOf_yes ⟨by simp, h⟩]
  refine ⟨doRun_valid _ _ h, ?_⟩
  simp only [doRun]
  split
  · exact one_quota C o
  · rfl
end Go.Proofs.YtpccongphchagaaGreatDoor
namespace Go.Proofs.YtpccongphchagaaGreatDoor
open Go.RowKit
set_option linter.unusedVariables false
/-- append of the code behind as many zeros. -/
theorem wpList_append_two {ops : Array Oper} {rest : List Oper} {o : Oper} {act : Act} {Q : Exit → Act → World → Prop} (w : World) (hgd : o.guard = none) (s x : Operand)
    (ho : o.op = .call { callee := .builtin .append, args := #[s, x], argTypes := #[22, 22] })
    (base : Nat) (b : Addr) (q : Option Addr) (code : List Nat) (c : Nat) (hs : act.eval s = .slice (some b) code.length code.length) (hx : act.eval x = .slice q code.length c) (hown : OwnB w base (.slice (some b) code.length code.length) (List.replicate code.length 0)) (hr : RowAt w q code) (hlen : code.length ≤ 1048576) (hbase : base ≤ w.heap.size)
    (h : ∀ v' w', OwnB w' base v' (twice code) → Below base w w' → wpList Tryz.prog ops Q rest (act.put o.dst v') w') : wpList Tryz.prog ops Q (o :: rest) act w := by
  by_cases hp : 0 < code.length
  · refine wpList_append_bytes w hgd s x ho base _ (List.replicate code.length 0) code hs hown q c hx hr hp (by simp; omega) hbase ?_
    intro v' w' h1 h2
    exact h v' w' h1 ((Below.refl base w).grown h2 hbase (fun k e => (own_ge hown e).1))
  · obtain rfl : code = [] := List.eq_nil_of_length_eq_zero (by omega)
    have h0 := h _ w hown (Below.refl base w)
    obtain ⟨i0, hi, hz0, hz1, hz2⟩ := info_parts Tryz.info5
    have hr : (Builtin.append_ #[22, 22] o.type #[.slice (some b) 0 0, .slice q 0 c]).run Tryz.prog w = .ok (.slice (some b) 0 0) w := by
      cases q <;> simp [Builtin.append_, run_underlying Tryz.underlying22, sizeOf, typeInfo, hi, Builtin.lenOf, Builtin.firstCells, storeCells, loadCells, loadCellsFrom]
    refine wpList_plain hgd fun K hK => ?_
    unfold Oper.wp execOp
    simp only [List.length_nil] at hs hx
    simp only [ho, resolve, invoke, builtin, Sem.run_bind, Sem.run_pure, Result.andThen_ok, List.map_toArray, List.map_cons, List.map_nil, hs, hx, hr]
    exact hK _ _ h0
/-- A row of one operation with a name alone. -/
theorem op_new (X : World) (base : Nat) (kd : Int) (nm : ByteArray) (hX : base ≤ X.heap.size) : OwnV (X.alloc (.cells (four [(.int .i64 kd, .string nm, .string noStr, .slice none 0 0)]).toArray 39)) base (.slice (some ⟨X.heap.size, 0, none⟩) 1 1) [(.int .i64 kd, .string nm, .string noStr, .slice none 0 0)] [(kd, nm, noStr, [])] :=
  ownV_new X base [(.int .i64 kd, .string nm, .string noStr, .slice none 0 0)] [(kd, nm, noStr, [])] hX (by simp) rfl (fun i hi => by
    match i, hi with
    | 0, _ => exact ⟨_, rfl, OwnB.nil _ _⟩)
def syncOps (es : List EN) : List OpV := es.map (fun e => ((3 : Int), e.1, noStr, ([] : List Nat)))
theorem syncOps_snoc (es : List EN) (m : Nat) (h : m < es.length) : syncOps (es.take (m + 1)) = syncOps (es.take m) ++ [(3, es[m].1, noStr, [])] := by
  unfold syncOps
  rw [List.take_succ_eq_append_getElem h, List.map_append]
  rfl
theorem lastOps_is (es : List EN) : lastOps es = syncOps es ++ [(6, noStr, noStr, [])] := rfl
theorem names_300 {D : MDisk} (h : ValidD D) : D.names.length ≤ 300 := by
  have h5 := h.2.2.2.2.1
  unfold okList at h5
  exact (of_decide_eq_true h5).1
theorem last_size (D : MDisk) (h : ValidD D) : (lastOps D.names).length ≤ 301 ∧ ∀ o ∈ lastOps D.names, o.2.1.size ≤ 1048576 ∧ o.2.2.1.size ≤ 1048576 ∧ o.2.2.2.length ≤ 1048576 := by
  have h3 := names_300 h
  have hs := (valid_modest h).s2
  have h0 : noStr.size ≤ 40 := noStr40
  refine ⟨by simp [lastOps]; omega, fun o ho => ?_⟩
  unfold lastOps at ho
  rcases List.mem_append.1 ho with h1 | h1
  · obtain ⟨e, he, rfl⟩ := List.mem_map.1 h1
    have := hs e he
    exact ⟨this, by show noStr.size ≤ 1048576; omega, by simp⟩
  · obtain rfl : o = (6, noStr, noStr, []) := by simpa using h1
    exact ⟨by show noStr.size ≤ 1048576; omega, by show noStr.size ≤ 1048576; omega, by simp⟩
theorem doOf_last {D : MDisk} (h : ValidD D) : doOf D (lastOps D.names) = (setOf D, D.names.length + 1, 0) := by
  rw [doOf_yes ⟨by have := (last_size D h).1; omega, h⟩]
  exact run_last h
end Go.Proofs.YtpccongphchagaaGreatDoor
