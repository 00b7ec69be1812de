import Derived.Test.YtpccongphchagaaGreatDoorPku
import Derived.Test.YtpccongphchagaaGreatDoorPkt
import Derived.Test.YtpccongphchagaaGreatDoorPkq
import Derived.Test.YtpccongphchagaaGreatDoorPkk
import Derived.Test.YtpccongphchagaaGreatDoorPkc
import Derived.OwnWalk
namespace Go.Proofs.YtpccongphchagaaGreatDoor
open Go.RowKit
set_option linter.unusedVariables false
def sumV : List OpV → Nat
  | [] => 0
  | e :: es => e.2.1.size + e.2.2.1.size + e.2.2.2.length + sumV es
theorem sumV_append (a b : List OpV) : sumV (a ++ b) = sumV a + sumV b := by
  induction a with
  | nil => simp [sumV]
  | cons x r ih => simp [sumV, ih]; omega
theorem sumV_take_succ (es : List OpV) (k : Nat) (h : k < es.length) : sumV (es.take (k + 1)) = sumV (es.take k) + (es[k].2.1.size + es[k].2.2.1.size + es[k].2.2.2.length) := by
  rw [List.take_succ_eq_append_getElem h, sumV_append]; simp [sumV]
theorem sumV_take_le (es : List OpV) (k : Nat) : sumV (es.take k) ≤ sumV es := by
  have h := sumV_append (es.take k) (es.drop k)
  rw [List.take_append_drop] at h; omega
end Go.Proofs.YtpccongphchagaaGreatDoor
namespace Go.Proofs.YtpccongphchagaaGreatDoor
open Go.RowKit
set_option linter.unusedVariables false
theorem ret_op {fn : Func} {tmps : Array Value} {p : Tmp} (B : Nat) (W : World) (x1 x2 x3 x4 : Value) (hf : fn.results = #[.cell p 39]) (hp : tmps.getD p undef = .pointer (some ⟨B, 0, none⟩)) (hb : Laid W B #[x1, x2, x3, x4] 39) :
    (results fn tmps).run Tryz.prog W = .ok (.agg #[x1, x2, x3, x4]) W :=
  results_cell_row (P := Tryz.prog) hf _ _ B _ _ _ _ hp hb Tryz.underlying39 rfl (by kernel_rfl)
end Go.Proofs.YtpccongphchagaaGreatDoor
namespace Go.Proofs.YtpccongphchagaaGreatDoor
open Go.RowKit
set_option linter.unusedVariables false
theorem Tryz.infoOp : (Tryz.prog.info? 39).map (fun i => (i.zero, i.size, i.bytes)) = some (some (.agg #[.int .i64 0, .string ByteArray.empty, .string ByteArray.empty, .slice none 0 0]), 4, 64) := by kernel_rfl
/-- Operations of a call's own. -/
structure OwnV (w : World) (base : Nat) (v : Value) (vs : List V4) (ops : List OpV) : Prop where
  len : vs.length = ops.length
  row : Own4 w base 39 v vs
  body : ∀ i (h : i < ops.length), ∃ x, vs[i]? = some (.int .i64 ops[i].1, .string ops[i].2.1, .string ops[i].2.2.1, x) ∧ OwnB w base x ops[i].2.2.2
theorem OwnV.at {w : World} {base : Nat} {a : Option Addr} {n cap : Nat} {vs : List V4} {ops : List OpV} (h : OwnV w base (.slice a n cap) vs ops) : OpsAt w a ops := fun hp => by
  have hl := h.len
  rcases h.row.2 with ⟨_, hn⟩ | ⟨g, cap', cur, h', _⟩
  · omega
  · simp only [Value.slice.injEq] at h'
    obtain ⟨rfl, rfl, rfl⟩ := h'
    refine ⟨g, 0, rfl, fun i hlt => ?_⟩
    obtain ⟨c0, c1, c2, c3⟩ := Own4.cells h.row i (by omega)
    obtain ⟨x, hx, ho⟩ := h.body i hlt
    rw [List.getElem?_eq_getElem (by omega)] at hx
    simp only [Option.some.injEq] at hx
    rw [hx] at c0 c1 c2 c3
    obtain ⟨ai, ci, rfl⟩ := ho.slice
    rw [Nat.zero_add]
    exact ⟨ai, ci, c0, c1, c2, c3, ho.row⟩
def z4 : V4 := (.int .i64 0, .string ByteArray.empty, .string ByteArray.empty, .slice none 0 0)
/-- k of the operations are written. -/
def VFill (w : World) (g k : Nat) (os : List OpV) : Prop := g + 1 ≤ w.heap.size ∧ ∃ vs : List V4, vs.length = k ∧ Own4 w g 39 (.slice (some ⟨g, 0, none⟩) os.length os.length) (vs ++ List.replicate (os.length - k) z4) ∧ ∀ i (h : i < os.length), i < k → ∃ x, vs[i]? = some (.int .i64 os[i].1, .string os[i].2.1, .string os[i].2.2.1, x) ∧ OwnB w (g + 1) x os[i].2.2.2
theorem VFill.done {w : World} {g : Nat} {os : List OpV} (h : VFill w g os.length os) : ∃ vs, OwnV w g (.slice (some ⟨g, 0, none⟩) os.length os.length) vs os := by
  obtain ⟨_, vs, hl, h2, hi⟩ := h
  rw [Nat.sub_self, List.replicate_zero, List.append_nil] at h2
  refine ⟨vs, hl, h2, fun i h => ?_⟩
  obtain ⟨x, hx, ho⟩ := hi i h h
  exact ⟨x, hx, ho.mono (by omega)⟩
theorem VFill.below {w w2 : World} {g k : Nat} {os : List OpV} (h : VFill w g k os) (hb : Below w.heap.size w w2) : VFill w2 g k os := by
  obtain ⟨hs, vs, hl, h2, hi⟩ := h
  refine ⟨Nat.le_trans hs hb.size, vs, hl, h2.below hb (Nat.le_refl _), fun i h h' => ?_⟩
  obtain ⟨x, hx, ho⟩ := hi i h h'
  exact ⟨x, hx, ho.below hb (Nat.le_refl _)⟩
theorem VFill.next {w : World} {g k : Nat} {os : List OpV} (h : VFill w g k os) (hk : k < os.length) {x : Value} (hx : OwnB w (g + 1) x os[k].2.2.2) :
    VFill ((((w.setCell ⟨g, k * 4, none⟩ (.int .i64 os[k].1)).setCell ⟨g, k * 4 + 1, none⟩ (.string os[k].2.1)).setCell ⟨g, k * 4 + 2, none⟩ (.string os[k].2.2.1)).setCell ⟨g, k * 4 + 3, none⟩ x) g (k + 1) os := by
  obtain ⟨hs, vs, hl, h2, hi⟩ := h
  refine ⟨by simpa using hs, vs ++ [(.int .i64 os[k].1, .string os[k].2.1, .string os[k].2.2.1, x)], by simp [hl], ?_, fun i h h' => ?_⟩
  · have := Own4.store h2 k (.int .i64 os[k].1) (.string os[k].2.1) (.string os[k].2.2.1) x
    rw [fill_set vs _ k _ _ hl hk] at this
    exact this
  · by_cases e : i = k
    · subst e
      refine ⟨x, by rw [List.getElem?_append_right (by omega), hl, Nat.sub_self]; rfl, ?_⟩
      exact (((hx.set_low (by simp) _).set_low (by simp) _).set_low (by simp) _).set_low (by simp) _
    · obtain ⟨y, hy, ho⟩ := hi i h (by omega)
      exact ⟨y, by rw [List.getElem?_append_left (by omega)]; exact hy, (((ho.set_low (by simp) _).set_low (by simp) _).set_low (by simp) _).set_low (by simp) _⟩
theorem VFill.cells {w : World} {g k : Nat} {os : List OpV} (h : VFill w g k os) (hk : k < os.length) : w.cell? ⟨g, k * 4, none⟩ = some (.int .i64 0) ∧ w.cell? ⟨g, k * 4 + 1, none⟩ = some (.string ByteArray.empty) ∧ w.cell? ⟨g, k * 4 + 2, none⟩ = some (.string ByteArray.empty) ∧ w.cell? ⟨g, k * 4 + 3, none⟩ = some (.slice none 0 0) ∧ ∀ j, w.frozen? ⟨g, j, none⟩ = false := by
  obtain ⟨hs, vs, hl, h2, hi⟩ := h
  have hlt : k < (vs ++ List.replicate (os.length - k) z4).length := by simp; omega
  obtain ⟨c0, c1, c2, c3⟩ := Own4.cells h2 k hlt
  have e : (vs ++ List.replicate (os.length - k) z4)[k] = z4 := by
    rw [List.getElem_append_right (by omega)]; simp
  rw [e] at c0 c1 c2 c3
  exact ⟨c0, c1, c2, c3, fun j => Own4.frozen h2 j⟩
theorem wpList_make_ops {ops : Array Oper} {rest : List Oper} {o : Oper} {act : Act} {Q : Exit → Act → World → Prop} (w : World) (hgd : o.guard = none) (s x : Operand)
    (ho : o.op = Op.makeSlice 28 s x) (os : List OpV) (hs : act.eval s = .int .i64 (os.length : Int)) (hx : act.eval x = .int .i64 (os.length : Int)) (hlen : os.length ≤ 1048576)
    (h : ∀ w', VFill w' w.heap.size 0 os → Below w.heap.size w w' → wpList Tryz.prog ops Q rest (act.put o.dst (.slice (some ⟨w.heap.size, 0, none⟩) os.length os.length)) w') : wpList Tryz.prog ops Q (o :: rest) act w := by
  obtain ⟨i0, hi, hz0, hz1, hz2⟩ := info_parts Tryz.infoOp
  refine wpList_make_full w hgd s x 28 ho w.heap.size 39 i0 (.agg #[.int .i64 0, .string ByteArray.empty, .string ByteArray.empty, .slice none 0 0]) 4 Tryz.underlying28 hi hz0 hz1 .i64 .i64 _ _ os.length hs hx rfl rfl (by rw [hz2]; omega) (by unfold maxLen; omega) (Nat.le_refl _) ?_
  intro w1 hown hgrow
  refine h w1 ⟨?_, [], rfl, ?_, fun i _ h => by omega⟩ ((Below.refl _ _).grown hgrow (Nat.le_refl _) (fun k h => by cases h))
  · rcases hown.2 with ⟨h', _⟩ | ⟨g, cap, cur, h', _, hg, _⟩
    · simp at h'
    · simp only [Value.slice.injEq, Option.some.injEq, Addr.mk.injEq, and_true] at h'
      obtain ⟨rfl, _⟩ := h'
      exact lt_of_block hg
  · unfold Own4
    rw [List.nil_append, List.length_replicate, Nat.sub_zero]
    have e : (madeCells (Value.agg #[.int .i64 0, .string ByteArray.empty, .string ByteArray.empty, .slice none 0 0]).cells (os.length * 4)).toList = four (List.replicate os.length z4) := four_made _ _ _ _ _
    rw [e] at hown; exact hown
end Go.Proofs.YtpccongphchagaaGreatDoor
namespace Go.Proofs.YtpccongphchagaaGreatDoor
open Go.RowKit
set_option linter.unusedVariables false
/-- A file made: created, written, synced. -/
def putOps (nm : ByteArray) (d : List Nat) : List OpV := [(1, nm, noStr, []), (2, nm, noStr, d), (3, nm, noStr, [])]
theorem own4_new (w : World) (base e : Nat) (vs : List V4) (hb : base ≤ w.heap.size) (hn : vs.length ≤ 1048576) : Own4 (w.alloc (.cells (four vs).toArray e)) base e (.slice (some ⟨w.heap.size, 0, none⟩) vs.length vs.length) vs :=
  ⟨four_length vs, .inr ⟨w.heap.size, vs.length, (four vs).toArray, rfl, hb, heap_alloc_new w _, Nat.le_refl _, by unfold maxLen; omega, by simp [four_length], by simp only; rw [List.take_of_length_le]; rw [four_length]; exact Nat.le_refl _⟩⟩
theorem OwnV.mono {w : World} {base base' : Nat} {v : Value} {vs : List V4} {os : List OpV} (h : OwnV w base v vs os) (hb : base' ≤ base) : OwnV w base' v vs os :=
  ⟨h.len, h.row.mono hb, fun i hi => by
    obtain ⟨x, h1, h2⟩ := h.body i hi
    exact ⟨x, h1, h2.mono hb⟩⟩
theorem OwnV.below' {w w' : World} {base : Nat} {v : Value} {vs : List V4} {os : List OpV} (h : OwnV w base v vs os) (hb : Below w.heap.size w w') : OwnV w' base v vs os :=
  ⟨h.len, h.row.below hb (Nat.le_refl _), fun i hi => by
    obtain ⟨x, h1, h2⟩ := h.body i hi
    exact ⟨x, h1, h2.below hb (Nat.le_refl _)⟩⟩
theorem OwnV.slice {w : World} {base : Nat} {v : Value} {vs : List V4} {os : List OpV} (h : OwnV w base v vs os) : ∃ a cap, v = .slice a os.length cap := by
  obtain ⟨a, cap, e⟩ := Own4.slice h.row
  exact ⟨a, cap, by rw [e, h.len]⟩
/-- A row of operations that a literal makes. -/
theorem ownV_new (w : World) (base : Nat) (vs : List V4) (os : List OpV) (hb : base ≤ w.heap.size) (hn : vs.length ≤ 1048576) (hl : vs.length = os.length) (hbd : ∀ i (h : i < os.length), ∃ x, vs[i]? = some (.int .i64 os[i].1, .string os[i].2.1, .string os[i].2.2.1, x) ∧ OwnB w base x os[i].2.2.2) :
    OwnV (w.alloc (.cells (four vs).toArray 39)) base (.slice (some ⟨w.heap.size, 0, none⟩) vs.length vs.length) vs os :=
  ⟨hl, own4_new w base _ vs hb hn, fun i hi => by
    obtain ⟨x, h1, h2⟩ := hbd i hi
    exact ⟨x, h1, h2.below ((Below.refl _ _).alloc (Nat.le_refl _) _) (Nat.le_refl _)⟩⟩
/-- append of operations. -/
theorem wpList_append_ops {ops : Array Oper} {rest : List Oper} {o : Oper} {act : Act} {Q : Exit → Act → World → Prop} (w : World) (hgd : o.guard = none) (s x : Operand)
    (ho : o.op = .call { callee := .builtin .append, args := #[s, x], argTypes := #[28, 28] })
    (base : Nat) (v : Value) (vs : List V4) (es : List OpV) (hs : act.eval s = v) (hown : OwnV w base v vs es) (xv : Value) (xs : List V4) (l : List OpV) (hx : act.eval x = xv) (hr : OwnV w base xv xs l) (hp : 0 < l.length) (hlen : es.length + l.length ≤ 1048576) (hbase : base ≤ w.heap.size)
    (h : ∀ v' w', OwnV w' base v' (vs ++ xs) (es ++ l) → w.grownBy w' v.ownBlock → wpList Tryz.prog ops Q rest (act.put o.dst v') w') : wpList Tryz.prog ops Q (o :: rest) act w := by
  obtain ⟨i0, hi, hz0, hz1, hz2⟩ := info_parts Tryz.infoOp
  have hvl := hown.len
  have hxl := hr.len
  rcases hr.row.2 with ⟨_, h0⟩ | ⟨g, cap, cur, hxv, hlo, hg, hnc, hcm, hcs, htk⟩
  · omega
  · subst hxv
    have hcl : ∀ j u, (four xs)[j]? = some u → w.cell? ((⟨g, 0, none⟩ : Addr).add j) = some u := fun j u hj => by
      rw [addr_add, Nat.zero_add, cell_of_row w g j _ _ _ hg]
      rw [← htk] at hj
      rw [List.getElem?_take] at hj
      split at hj
      · rw [← Array.getElem?_toList]; exact hj
      · cases hj
    have h1 : ∀ u ∈ four xs, u.oneCell' = true := fun u hu => by
      unfold four at hu
      obtain ⟨p, hp2, hu⟩ := List.mem_flatMap.1 hu
      obtain ⟨i, hi2, rfl⟩ := List.getElem_of_mem hp2
      obtain ⟨y, e1, e2⟩ := hr.body i (by omega)
      rw [List.getElem?_eq_getElem hi2] at e1
      simp only [Option.some.injEq] at e1
      rw [e1] at hu
      obtain ⟨ay, cy, rfl⟩ := e2.slice
      simp only [List.mem_cons, List.not_mem_nil, or_false] at hu
      rcases hu with rfl | rfl | rfl | rfl <;> rfl
    refine wpList_append_own w hgd s x 28 ho base 39 i0 (.agg #[.int .i64 0, .string ByteArray.empty, .string ByteArray.empty, .slice none 0 0]) 4 64 Tryz.underlying28 hi hz0 hz1 hz2 rfl (by decide) v vs.length (four vs) hs hown.row ⟨g, 0, none⟩ xs.length cap (four xs) hx (four_length xs) hcl h1 (by unfold maxLen; omega) (by omega) hbase ?_
    intro v' w' hown2 hgr _
    have f : Fr (fun k => v.ownBlock = some k) w w' := Fr.of_grown hgr (fun k e => e)
    have hS : ∀ k, v.ownBlock = some k → ∃ t, KindAt w k t ∧ t ≠ 5 := fun k e => ⟨_, own_kind hown.row e, by decide⟩
    refine h v' w' ⟨by simp [hvl, hxl], ?_, fun i hi2 => ?_⟩ hgr
    · unfold Own4
      rw [four_append, List.length_append]
      exact hown2
    · rw [List.length_append] at hi2
      by_cases h1 : i < es.length
      · obtain ⟨y, e1, e2⟩ := hown.body i h1
        refine ⟨y, ?_, ?_⟩
        · rw [List.getElem?_append_left (by omega), e1, List.getElem_append_left h1]
        · rw [List.getElem_append_left h1]; exact own_frk e2 f hS
      · obtain ⟨y, e1, e2⟩ := hr.body (i - es.length) (by omega)
        refine ⟨y, ?_, ?_⟩
        · rw [List.getElem?_append_right (by omega), hvl, e1, List.getElem_append_right (by omega)]
        · rw [List.getElem_append_right (by omega)]; exact own_frk e2 f hS
/-- What a list of operations that is handed back is. -/
def PutPost (w : World) (l : List OpV) (e : Ending) (w' : World) : Prop := ∃ v vs, e = .returned v ∧ OwnV w' w.heap.size v vs l ∧ Below w.heap.size w w'
end Go.Proofs.YtpccongphchagaaGreatDoor
namespace Go.Proofs.YtpccongphchagaaGreatDoor
open Go.RowKit
set_option linter.unusedVariables false
/-- Own rows stand where nothing but block p has changed. -/
theorem own_kp {p : Nat} {w w' : World} {b e k n : Nat} {v : Value} {xs : List Value} (h : w.ownsRow b e k v n xs) (hk : Kp p w w') (hp : v.ownBlock ≠ some p) : w'.ownsRow b e k v n xs := by
  rcases h with ⟨h1, h2 | ⟨g, cap, cur, hv, hlo, hg, hr⟩⟩
  · exact ⟨h1, .inl h2⟩
  · refine ⟨h1, .inr ⟨g, cap, cur, hv, hlo, ?_, hr⟩⟩
    rw [hk.block g (lt_of_block hg) (fun e => hp (by rw [hv, ← e]; rfl))]
    exact hg
theorem own_off {w : World} {b e k n p : Nat} {v : Value} {xs : List Value} (h : w.ownsRow b e k v n xs) (hp : p < b) : v.ownBlock ≠ some p := fun e' => by
  have := (World.ownsRow.lt h p e').1
  omega
/-- The reader stands where a row of the call's own has grown. -/
theorem rd_grown {wk w0 w w' : World} {p : Nat} {a : Option Addr} {cap : Nat} {code : List Nat} {i : Nat} {row : Option Nat} (h : RdIn wk w0 w p a cap code i) (hg : w.grownBy w' row) (hr : ∀ b, row = some b → wk.heap.size ≤ b) (hp : p < wk.heap.size) (hk : w0.heap.size ≤ wk.heap.size) : RdIn wk w0 w' p a cap code i :=
  ⟨h.rd.grown hg (fun e => by have := hr p e.symm; omega), h.low.trans ((Below.refl _ _).grown hg h.low.size (fun k e => by have := hr k e; omega)), h.above, ⟨Nat.le_trans h.kp.size hg.size, fun g hgl hn => (hg.block g (Nat.lt_of_lt_of_le hgl h.kp.size) (fun e => by have := hr g e.symm; omega)).trans (h.kp.block g hgl hn)⟩⟩
set_option maxRecDepth 20000 in
set_option maxHeartbeats 2000000 in
theorem l1Data_in {w0 w : World} {p : Nat} {a : Option Addr} {cap : Nat} {code : List Nat} {i : Nat} (hc : CodeW w0 a code) (h : RdIn w w0 w p a cap code i) :
    Calls Tryz.prog 42 #[.pointer (some ⟨p, 0, none⟩)] w fun e w' => ∃ v l j, e = .returned v ∧ OwnB w' w.heap.size v l ∧ l.length ≤ 255 ∧ RdIn w w0 w' p a cap code j := by
  have hpl := h.rd.lt
  have hw0 := h.low.size
  have hx := nx_lt hc.byte i
  have HC := hide hc
  have NX := hide (next_w hc h)
  clear h hc
  obtain ⟨i0, hi, hz0, hz1, hz2⟩ := info_parts Tryz.info5
  go_enter Tryz.func42, Tryz.ntmps42
  go_wp2_with fail
  refine NX.out.mono ?_
  rintro e w1 ⟨rfl, hr1⟩
  have HR1 := hide hr1
  have hs1 := hr1.kp.size
  clear hr1 NX
  generalize nx code i = c0 at hx
  have FIN := hide (fun (m : Nat) (hm : m ≤ 255) (w2 : World) (ho : w2.ownsRow w.heap.size 5 1 (.slice (some ⟨w1.heap.size, 0, none⟩) 0 m) 0 []) (hg : w1.grownBy w2 none) => show RdIn w w0 w2 p a cap code (i + 1) from rd_grown HR1.out hg (fun b e => by cases e) hpl hw0)
  by_cases hc2 : c0 < 200
  · have hci : (c0 : Int) < 200 := by omega
    have hcm : (c0 : Int) % 12 = ((c0 % 12 : Nat) : Int) := by omega
    have hm12 : c0 % 12 ≤ 255 := by have := Nat.mod_lt c0 (show 0 < 12 by decide); omega
    generalize c0 % 12 = m0 at hcm hm12
    have HCM := hide hcm
    clear hcm
    go_wp2_with (at_make; (refine wpList_make_own _ rfl _ _ 22 rfl w.heap.size 5 i0 (.int .u8 0) 1 Tryz.underlying22 hi hz0 hz1 .i64 .i64 ((c0 : Int) % 12) m0 rfl rfl ?_ ?_ ?_ ?_ ?_; (exact HCM.out); (rw [hz2]; omega); (unfold maxLen; omega); (exact hs1); intro w2 ho2 hg2; have HO2 := hide ho2; have HR2 := hide (FIN.out m0 hm12 w2 ho2 hg2); clear ho2 hg2))
    clear FIN HR1
    go_loopw [3, 4] (fun n v wv => ∃ (m : Nat) (l : List Nat) (j : Nat), n = .int .i64 (m : Int) ∧ OwnB wv w.heap.size v l ∧ l.length + m ≤ 255 ∧ RdIn w w0 wv p a cap code j) (fun n _ _ => (intOf n).toNat)
    case atStart => exact ⟨m0, [], i + 1, by rw [← HCM.out], HO2.out, by simp; exact hm12, HR2.out⟩
    case round =>
      obtain ⟨m, l, j, rfl, ho, hlm, hr⟩ := hrel
      have hsr := hr.kp.size
      obtain ⟨av, cv, rfl⟩ := OwnB.slice ho
      by_cases hm : 0 < m
      · have hmi : (0 : Int) < (m : Int) := by omega
        have hxj := nx_lt HC.out.byte j
        have hm255 : m ≤ 255 := by omega
        have NX := hide (next_w HC.out hr.anew)
        have HR := hide hr
        have HO := hide ho
        clear hr ho HO2 HR2
        go_wp2_with fail
        refine NX.out.mono ?_
        rintro e w3 ⟨rfl, hr3⟩
        have ho3 := own_kp HO.out hr3.kp (own_off HO.out hpl)
        have hR3 : RdIn w w0 w3 p a cap code (j + 1) := hr3.onto HR.out.kp
        generalize nx code j = c at hxj ⊢
        have hal := (Below.refl w3.heap.size w3).alloc (Nat.le_refl _) (.cells #[.int .u8 (c : Int)] 5)
        have HO4 := hide (show OwnB (w3.alloc (.cells #[.int .u8 (c : Int)] 5)) w.heap.size (.slice av l.length cv) l from OwnB.below ho3 hal (Nat.le_refl _))
        have HR4 := hide (hR3.below hal)
        have HB4 := hide (Nat.le_trans (Nat.le_trans hsr hr3.kp.size) hal.size)
        have HROW := hide (show RowAt (w3.alloc (.cells #[.int .u8 (c : Int)] 5)) (some ⟨w3.heap.size, 0, none⟩) [c] from fun _ => ⟨w3.heap.size, 0, rfl, fun k hk => by
          have hk0 : k = 0 := by simpa using hk
          subst hk0
          rw [cell_of_row _ _ _ _ _ _ (heap_alloc_new w3 _)]
          rfl⟩)
        have HHL := hide hlm
        have hl2 : l.length ≤ 255 := by omega
        clear ho3 hR3 hr3 hal HR HO NX hlm
        go_wp2_with (at_builtin; (refine wpList_append_bytes _ rfl (.tmp 17) (.tmp 21) rfl w.heap.size (.slice av l.length cv) l [c] rfl ?_ (some ⟨w3.heap.size, 0, none⟩) 1 rfl ?_ ?_ ?_ ?_ ?_; (exact HO4.out); (exact HROW.out); (exact Nat.succ_pos 0); (simp; omega); (exact HB4.out); intro v6 w6 h6 hg6; have HO6 := hide h6; have HR6 := hide (rd_grown HR4.out hg6 (fun b e => (own_ge HO4.out e).1) hpl hw0); clear h6 hg6))
        go_roundw
        case rel => exact ⟨m - 1, l ++ [c], j + 1, by go_num, HO6.out, by have := HHL.out; simp; omega, HR6.out⟩
        case measure => simp [intOf]; omega
      · obtain rfl : m = 0 := by omega
        have HO := hide ho
        have HR := hide hr
        clear ho hr
        go_wp2
        go_ret
        exact ⟨_, l, j, rfl, HO.out, by omega, HR.out⟩
  · have hci : ¬ (c0 : Int) < 200 := by omega
    have hm12 : c0 ≤ 255 := by omega
    obtain ⟨m0, hm0⟩ : ∃ m, m = c0 := ⟨_, rfl⟩
    subst hm0
    go_wp2_with (at_make; (refine wpList_make_own _ rfl _ _ 22 rfl w.heap.size 5 i0 (.int .u8 0) 1 Tryz.underlying22 hi hz0 hz1 .i64 .i64 (m0 : Int) m0 rfl rfl rfl ?_ ?_ ?_ ?_; (rw [hz2]; omega); (unfold maxLen; omega); (exact hs1); intro w2 ho2 hg2; have HO2 := hide ho2; have HR2 := hide (FIN.out m0 hm12 w2 ho2 hg2); clear ho2 hg2))
    clear FIN HR1
    go_loopw [3, 4] (fun n v wv => ∃ (m : Nat) (l : List Nat) (j : Nat), n = .int .i64 (m : Int) ∧ OwnB wv w.heap.size v l ∧ l.length + m ≤ 255 ∧ RdIn w w0 wv p a cap code j) (fun n _ _ => (intOf n).toNat)
    case atStart => exact ⟨m0, [], i + 1, rfl, HO2.out, by simp; exact hm12, HR2.out⟩
    case round =>
      obtain ⟨m, l, j, rfl, ho, hlm, hr⟩ := hrel
      have hsr := hr.kp.size
      obtain ⟨av, cv, rfl⟩ := OwnB.slice ho
      by_cases hm : 0 < m
      · have hmi : (0 : Int) < (m : Int) := by omega
        have hxj := nx_lt HC.out.byte j
        have hm255 : m ≤ 255 := by omega
        have NX := hide (next_w HC.out hr.anew)
        have HR := hide hr
        have HO := hide ho
        clear hr ho HO2 HR2
        go_wp2_with fail
        refine NX.out.mono ?_
        rintro e w3 ⟨rfl, hr3⟩
        have ho3 := own_kp HO.out hr3.kp (own_off HO.out hpl)
        have hR3 : RdIn w w0 w3 p a cap code (j + 1) := hr3.onto HR.out.kp
        generalize nx code j = c at hxj ⊢
        have hal := (Below.refl w3.heap.size w3).alloc (Nat.le_refl _) (.cells #[.int .u8 (c : Int)] 5)
        have HO4 := hide (show OwnB (w3.alloc (.cells #[.int .u8 (c : Int)] 5)) w.heap.size (.slice av l.length cv) l from OwnB.below ho3 hal (Nat.le_refl _))
        have HR4 := hide (hR3.below hal)
        have HB4 := hide (Nat.le_trans (Nat.le_trans hsr hr3.kp.size) hal.size)
        have HROW := hide (show RowAt (w3.alloc (.cells #[.int .u8 (c : Int)] 5)) (some ⟨w3.heap.size, 0, none⟩) [c] from fun _ => ⟨w3.heap.size, 0, rfl, fun k hk => by
          have hk0 : k = 0 := by simpa using hk
          subst hk0
          rw [cell_of_row _ _ _ _ _ _ (heap_alloc_new w3 _)]
          rfl⟩)
        have HHL := hide hlm
        have hl2 : l.length ≤ 255 := by omega
        clear ho3 hR3 hr3 hal HR HO NX hlm
        go_wp2_with (at_builtin; (refine wpList_append_bytes _ rfl (.tmp 17) (.tmp 21) rfl w.heap.size (.slice av l.length cv) l [c] rfl ?_ (some ⟨w3.heap.size, 0, none⟩) 1 rfl ?_ ?_ ?_ ?_ ?_; (exact HO4.out); (exact HROW.out); (exact Nat.succ_pos 0); (simp; omega); (exact HB4.out); intro v6 w6 h6 hg6; have HO6 := hide h6; have HR6 := hide (rd_grown HR4.out hg6 (fun b e => (own_ge HO4.out e).1) hpl hw0); clear h6 hg6))
        go_roundw
        case rel => exact ⟨m - 1, l ++ [c], j + 1, by go_num, HO6.out, by have := HHL.out; simp; omega, HR6.out⟩
        case measure => simp [intOf]; omega
      · obtain rfl : m = 0 := by omega
        have HO := hide ho
        have HR := hide hr
        clear ho hr
        go_wp2
        go_ret
        exact ⟨_, l, j, rfl, HO.out, by omega, HR.out⟩
end Go.Proofs.YtpccongphchagaaGreatDoor
