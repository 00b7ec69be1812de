import Derived.Test.YtpccongphchagaaGreatDoorPkza
import Derived.Test.YtpccongphchagaaGreatDoorPkz
import Derived.Test.YtpccongphchagaaGreatDoorPky
import Derived.Test.YtpccongphchagaaGreatDoorPkk
import Derived.Maps.AppendAt
import Derived.Deep.RegionHeld3
namespace Go.Proofs.YtpccongphchagaaGreatDoor
open Go.RowKit Go.Extern.Stop Go.Stop Go.Extern
set_option linter.unusedVariables false
set_option linter.unusedSimpArgs false
/-- What errors' own variable holds. -/
def ErrG (w : World) : Prop := w.cell? ⟨0, 0, none⟩ = some (.iface 144 (.agg #[.pointer (some ⟨1, 62, none⟩)]))
theorem lt_cell {w : World} {p : Addr} {v : Value} (h : w.cell? p = some v) : p.block < w.heap.size := by
  rcases Nat.lt_or_ge p.block w.heap.size with h' | h'
  · exact h'
  · simp [World.cell?, Array.getElem?_eq_none h'] at h
set_option maxRecDepth 20000 in
set_option maxHeartbeats 4000000 in
theorem as_hit (t : Nat) (n : Int) (tc : TypeId) (vc o0 o1 : Value) (w : World) (hg : ErrG w) (ht0 : w.cell? ⟨t, 0, none⟩ = some o0) (ht1 : w.cell? ⟨t, 1, none⟩ = some o1) (hf : ∀ j, w.frozen? ⟨t, j, none⟩ = false) :
    Calls Tryz.prog 55 #[.iface 102 (.agg #[.int .i64 n, .iface tc vc]), .iface 104 (.pointer (some ⟨t, 0, none⟩))] w fun ev w' => ev = .returned (.bool true) ∧ ∃ X, Below w.heap.size w X ∧ w' = (X.setCell ⟨t, 0, none⟩ (.int .i64 n)).setCell ⟨t, 1, none⟩ (.iface tc vc) := by
  have h6 := @run_callFunc_extern Tryz.prog 76 _ (fun args => ReflectliteValue.unpack (args.getD 0 (.tuple #[]))) Tryz.func76 (by kernel_rfl) (by kernel_rfl) (by kernel_rfl) (by kernel_rfl)
  have h7 := @run_callFunc_extern Tryz.prog 77 _ (ReflectliteValue.methodAny (ReflectliteValue.valueError "reflectlite.Value.Type" 0) (fun t _ _ _ => ReflectliteType.toType t)) Tryz.func77 (by kernel_rfl) (by kernel_rfl) (by kernel_rfl) (by kernel_rfl)
  have h8 := @run_callFunc_extern Tryz.prog 78 _ (ReflectliteValue.method (ReflectliteValue.valueError "reflectlite.Value.IsNil" 0) ReflectliteValue.isNil) Tryz.func78 (by kernel_rfl) (by kernel_rfl) (by kernel_rfl) (by kernel_rfl)
  have h27 := @run_callFunc_extern Tryz.prog 109 _ (ReflectliteType.abiMethod fun t => do pure (.int .u8 (← Rtype.kind t))) Tryz.func109 (by kernel_rfl) (by kernel_rfl) (by kernel_rfl) (by kernel_rfl)
  have h37 := @run_callFunc_extern Tryz.prog 121 _ (ReflectliteType.method ReflectliteType.elem) Tryz.func121 (by kernel_rfl) (by kernel_rfl) (by kernel_rfl) (by kernel_rfl)
  have h38 := @run_callFunc_extern Tryz.prog 122 _ (ReflectliteType.relation "Implements" ReflectliteType.implements_) Tryz.func122 (by kernel_rfl) (by kernel_rfl) (by kernel_rfl) (by kernel_rfl)
  have h10 := @run_callFunc_extern Tryz.prog 80 _ ReflectliteType.typeOf Tryz.func80 (by kernel_rfl) (by kernel_rfl) (by kernel_rfl) (by kernel_rfl)
  have h35 := @run_callFunc_extern Tryz.prog 119 _ (ReflectliteType.relation "AssignableTo" ReflectliteType.assignableTo) Tryz.func119 (by kernel_rfl) (by kernel_rfl) (by kernel_rfl) (by kernel_rfl)
  have h11 := @run_callFunc_extern Tryz.prog 87 _ (ReflectliteValue.method (ReflectliteValue.valueError "reflectlite.Value.Elem" 0) ReflectliteValue.elem) Tryz.func87 (by kernel_rfl) (by kernel_rfl) (by kernel_rfl) (by kernel_rfl)
  have h12 := @run_callFunc_extern Tryz.prog 88 _ ReflectliteValue.set Tryz.func88 (by kernel_rfl) (by kernel_rfl) (by kernel_rfl) (by kernel_rfl)
  have tO := ea_typeOfF
  have mA := ea_methodAssignableTo
  have a25 := ea_assignable
  have v25 := ea_valueOfF
  have f6 := ea_valueOfP
  have f7 := ea_typeP
  have mK := ea_methodKind
  have mE := ea_methodElem
  have mI := ea_methodImplements
  have k27 := ea_kindP
  have k25 := ea_kindF
  have e27 := ea_elemP
  have i25 := ea_implements
  unfold ErrG at hg
  have b1 := (Below.refl w.heap.size w).alloc (Nat.le_refl _) (.cells #[.pointer (some ⟨t, 0, none⟩)] 104)
  have b2 := b1.alloc b1.size (.cells #[.pointer (some ⟨1, 104, none⟩), .pointer (some ⟨w.heap.size, 0, none⟩), .int .u64 150] 128)
  have b3 := b2.alloc b2.size (.cells #[.pointer (some ⟨1, 104, none⟩), .pointer (some ⟨w.heap.size, 0, none⟩), .int .u64 150] 128)
  have b4 := b3.alloc b3.size (.cells #[.int .i64 n, .iface tc vc] 102)
  have n8 := ea_isNilP ⟨w.heap.size, 0, none⟩ ⟨t, 0, none⟩ ((w.alloc (.cells #[.pointer (some ⟨t, 0, none⟩)] 104)).alloc (.cells #[.pointer (some ⟨1, 104, none⟩), .pointer (some ⟨w.heap.size, 0, none⟩), .int .u64 150] 128)) (by simp)
  have hg2 := (b2.cell (p := ⟨0, 0, none⟩) (lt_cell hg)).trans hg
  have el := ea_elemV ⟨w.heap.size, 0, none⟩ ⟨t, 0, none⟩ (((w.alloc (.cells #[.pointer (some ⟨t, 0, none⟩)] 104)).alloc (.cells #[.pointer (some ⟨1, 104, none⟩), .pointer (some ⟨w.heap.size, 0, none⟩), .int .u64 150] 128)).alloc (.cells #[.pointer (some ⟨1, 104, none⟩), .pointer (some ⟨w.heap.size, 0, none⟩), .int .u64 150] 128)) (by rw [World.cell?_alloc_lt _ _ ⟨w.heap.size, 0, none⟩ (by simp; omega), World.cell?_alloc_lt _ _ ⟨w.heap.size, 0, none⟩ (by simp)]; simp)
  have hlt := lt_cell ht0
  have htne : t ≠ w.heap.size + 1 + 1 + 1 := by simp only at hlt; omega
  have st := ea_set t (w.heap.size + 1 + 1 + 1) n tc vc o0 o1 ((((w.alloc (.cells #[.pointer (some ⟨t, 0, none⟩)] 104)).alloc (.cells #[.pointer (some ⟨1, 104, none⟩), .pointer (some ⟨w.heap.size, 0, none⟩), .int .u64 150] 128)).alloc (.cells #[.pointer (some ⟨1, 104, none⟩), .pointer (some ⟨w.heap.size, 0, none⟩), .int .u64 150] 128)).alloc (.cells #[.int .i64 n, .iface tc vc] 102))
    (by rw [World.cell?_alloc_at _ _ _ _ (by simp)]; rfl) (by rw [World.cell?_alloc_at _ _ _ _ (by simp)]; rfl)
    ((b4.cell (p := ⟨t, 0, none⟩) hlt).trans ht0) ((b4.cell (p := ⟨t, 1, none⟩) hlt).trans ht1)
    ((b4.frozen (p := ⟨t, 0, none⟩) hlt).trans (hf 0)) ((b4.frozen (p := ⟨t, 1, none⟩) hlt).trans (hf 1))
  have B4 := hide b4
  clear b1 b2 b3 b4 hf
  go_enter Tryz.func55, Tryz.ntmps55
  go_wp2
  refine wp_loop_rounds 1 ?_
  rw [rounds_succ]
  go_wp2
  go_ret
  exact ⟨rfl, _, B4.out, rfl⟩
end Go.Proofs.YtpccongphchagaaGreatDoor
namespace Go.Proofs.YtpccongphchagaaGreatDoor
open Go.RowKit
set_option linter.unusedVariables false
/-- The cells of the nodes that names pick. -/
def pickV (vs : List (Value × Value)) (es : List EN) : List (Value × Value) := es.map fun e => vs.getD e.2.toNat (.slice none 0 0, .int .i64 0)
/-- A node that a name picks is put behind those that went ahead: its row is none of theirs. -/
theorem pick_away {w : World} {base : Nat} {v : Value} {vs : List (Value × Value)} {ns : List NdM} {es : List EN} (h : OwnNA w base v vs ns) (ha : Apart es) (hnd : ∀ e ∈ es, 0 ≤ e.2 ∧ e.2 < (ns.length : Int)) (j : Nat) (hj : j < es.length) :
    ∀ y ∈ (pickV vs (es.take j)).map (·.1), awayV y (vs.getD es[j].2.toNat (.slice none 0 0, .int .i64 0)).1 := by
  intro y hy
  obtain ⟨p, hp, rfl⟩ := List.mem_map.1 hy
  obtain ⟨e, he, rfl⟩ := List.mem_map.1 hp
  obtain ⟨i, hi, rfl⟩ := List.getElem_of_mem he
  have hij : i < j := by simp at hi; omega
  have hie : i < es.length := by omega
  have e1 : (es.take j)[i] = es[i] := by simp
  rw [e1]
  have hl := h.len
  have n1 := hnd _ (List.getElem_mem hie)
  have n2 := hnd _ (List.getElem_mem hj)
  have hne := (List.pairwise_iff_getElem.1 ha i j hie hj hij).2
  have k1 : es[i].2.toNat < vs.length := by omega
  have k2 : es[j].2.toNat < vs.length := by omega
  have g1 : vs.getD es[i].2.toNat (.slice none 0 0, .int .i64 0) = vs[es[i].2.toNat] := by rw [List.getD_eq_getElem?_getD, List.getElem?_eq_getElem k1]; rfl
  have g2 : vs.getD es[j].2.toNat (.slice none 0 0, .int .i64 0) = vs[es[j].2.toNat] := by rw [List.getD_eq_getElem?_getD, List.getElem?_eq_getElem k2]; rfl
  rw [g1, g2]
  exact awayP h.apart (p := es[i].2.toNat) (q := es[j].2.toNat) (by rw [List.getElem?_map, List.getElem?_eq_getElem k1]; rfl) (by rw [List.getElem?_map, List.getElem?_eq_getElem k2]; rfl) (by omega)
theorem pick_at {w : World} {base : Nat} {v : Value} {vs : List (Value × Value)} {ns : List NdM} {e : EN} (h : OwnNA w base v vs ns) (hnd : 0 ≤ e.2 ∧ e.2 < (ns.length : Int)) :
    ∃ x, vs.getD e.2.toNat (.slice none 0 0, .int .i64 0) = (x, .int .i64 (nodeOf ns e).2) ∧ OwnB w base x (nodeOf ns e).1 := by
  have hk : e.2.toNat < ns.length := by omega
  obtain ⟨x, hx, ho⟩ := h.body _ hk
  have hno : nodeOf ns e = ns[e.2.toNat] := by
    unfold nodeOf
    rw [List.getD_eq_getElem?_getD, List.getElem?_eq_getElem hk]
    rfl
  refine ⟨x, ?_, by rw [hno]; exact ho⟩
  rw [List.getD_eq_getElem?_getD, hx, hno]
  rfl
theorem pickV_succ (vs : List (Value × Value)) (es : List EN) (j : Nat) (h : j < es.length) : pickV vs (es.take (j + 1)) = pickV vs (es.take j) ++ [vs.getD es[j].2.toNat (.slice none 0 0, .int .i64 0)] := by
  unfold pickV
  rw [List.take_add_one, List.getElem?_eq_getElem h, List.map_append]
  rfl
/-- The list as it stands when its first j numbers are put anew. -/
def putE (es : List EN) (j : Nat) : List EN := outE es j ++ es.drop j
theorem putE_zero (es : List EN) : putE es 0 = es := by simp [putE, outE]
theorem putE_len (es : List EN) : putE es es.length = outE es es.length := by simp [putE]
theorem putE_length (es : List EN) (j : Nat) (h : j ≤ es.length) : (putE es j).length = es.length := by simp [putE, outE_length]; omega
theorem putE_at (es : List EN) (j : Nat) (h : j < es.length) (h' : j < (putE es j).length) : (putE es j)[j] = es[j] := by
  have e : (putE es j)[j]? = es[j]? := by
    show (outE es j ++ es.drop j)[j]? = es[j]?
    rw [List.getElem?_append_right (by rw [outE_length]; omega), outE_length, Nat.sub_self, List.getElem?_drop]
    rfl
  rw [List.getElem?_eq_getElem h', List.getElem?_eq_getElem h] at e
  exact Option.some.inj e
theorem putE_set (es : List EN) (j : Nat) (h : j < es.length) : (putE es j).set j (es[j].1, (j : Int)) = putE es (j + 1) := by
  unfold putE
  rw [List.set_append_right _ _ (by rw [outE_length]; omega), outE_length, Nat.sub_self, List.drop_eq_getElem_cons h, List.set_cons_zero, outE_succ es j h]
  simp
end Go.Proofs.YtpccongphchagaaGreatDoor
namespace Go.Proofs.YtpccongphchagaaGreatDoor
open Go.RowKit
set_option linter.unusedVariables false
/-- append of one node as a step of a drawn statement, and where the row then lies. -/
theorem step_append_nodeAt {ops : Array Oper} {o : Oper} {act : Act} {K : Act → World → Prop} {Q : Exit → Act → World → Prop} {E : Prop} (w : World) (hgd : o.guard = none) (s x : Operand)
    (ho : o.op = .call { callee := .builtin .append, args := #[s, x], argTypes := #[23, 23] })
    (lo : Nat) (v : Value) (vs : List (Value × Value)) (ns : List NdM) (u : Value) (l : List Nat) (z : Int) (g1 c : Nat) (hs : act.eval s = v) (hx : act.eval x = .slice (some ⟨g1, 0, none⟩) 1 c) (hown : OwnNA w lo v vs ns) (h0 : w.cell? ⟨g1, 0, none⟩ = some u) (h1 : w.cell? ⟨g1, 1, none⟩ = some (.int .i64 z)) (hox : OwnB w lo u l)
    (hne : ∀ y ∈ vs.map (·.1), awayV y u) (hlen : ns.length ≤ 1048576) (hbase : lo ≤ w.heap.size)
    (h : ∀ v' w', OwnNA w' lo v' (vs ++ [(u, .int .i64 z)]) (ns ++ [(l, z)]) → w.grownBy w' v.ownBlock → (v'.ownBlock = v.ownBlock ∨ v'.ownBlock = some w.heap.size) → K (act.put o.dst v') w') : if Region.wanted o (yielded ops act.tmps) = true then Oper.wp Tryz.prog o act w K Q else E := by
  have hw : Region.wanted o (yielded ops act.tmps) = true := by simp [Region.wanted, hgd]
  rw [if_pos hw]
  obtain ⟨i0, hi, hz0, hz1, hz2⟩ := info_parts Tryz.infoNode
  have hl := hown.len
  have hnews : ∀ j y, [u, Value.int .i64 z][j]? = some y → w.cell? ((⟨g1, 0, none⟩ : Addr).add j) = some y := by
    intro j y hj
    rw [addr_add]
    match j with
    | 0 => simp only [List.getElem?_cons_zero, Option.some.injEq] at hj; rw [← hj]; exact h0
    | 1 => simp only [List.getElem?_cons_succ, List.getElem?_cons_zero, Option.some.injEq] at hj; rw [← hj]; exact h1
    | j + 2 => simp at hj
  have hone : ∀ y ∈ [u, Value.int .i64 z], y.oneCell' = true := by
    intro y hy
    simp only [List.mem_cons, List.not_mem_nil, or_false] at hy
    rcases hy with rfl | rfl
    · obtain ⟨a, c', rfl⟩ := hox.slice; rfl
    · rfl
  obtain ⟨v', w', hr', h2, h3, _, hat⟩ := run_append_own_at (P := Tryz.prog) w lo 23 o.type 49 i0 (.agg #[.slice none 0 0, .int .i64 0]) 2 32 Tryz.underlying23 hi hz0 hz1 hz2 rfl (by decide) v vs.length (two vs) hown.row ⟨g1, 0, none⟩ 1 c [u, .int .i64 z] (by simp) hnews hone (by unfold maxLen; omega) (by omega) hbase
  unfold Oper.wp execOp
  simp only [ho, resolve, invoke, builtin, Sem.run_bind, Sem.run_pure, Result.andThen_ok, List.map_toArray, List.map_cons, List.map_nil, hs, hx, hr']
  exact h v' w' (hown.push hox hne h2 h3) h3 hat
end Go.Proofs.YtpccongphchagaaGreatDoor
namespace Go.Proofs.YtpccongphchagaaGreatDoor
open Go.RowKit
set_option linter.unusedVariables false
theorem run_enterCl (v : Value) (w : World) : (callFunc 35 #[v]).run Tryz.prog w = .ok (.enter 35 #[v]) w := by
  kernel_rfl
/-- The nodes of a drive come anew, where only their row has changed. -/
theorem Drv.push {base : Nat} {W w5 : World} {o b1 b2 m : Nat} {v1 v3 v4 v5 : Value} {vs vs' : List (Value × Value)} {D : MDisk} {N : List NdM} (h : Drv base W o b1 b2 m v1 v3 v4 vs D) (f : Fr (fun g => v1.ownBlock = some g) W w5) (h5 : OwnNA w5 base v5 vs' N) :
    Drv base (w5.setCell ⟨o, 0, none⟩ v5) o b1 b2 m v5 v3 v4 vs' ⟨N, D.names, D.kept, D.pend, D.quota⟩ := by
  have hS : ∀ g, v1.ownBlock = some g → KindAt W g 49 := fun g hg => own_kind h.n.row hg
  have hnk : ∀ {g t : Nat}, KindAt W g t → t ≠ 49 → ¬ v1.ownBlock = some g := fun hk ht e => ht (hk.ne (hS _ e))
  have bx : Laid w5 o #[v1, .map (some b1), .map (some b2), v3, v4, .int .i64 D.quota] 99 := (f.block _ h.box.lt (hnk h.box.kind (by decide))).trans h.box
  have k5 : OwnE w5 base v3 D.kept := own_frk h.k f (fun g e => ⟨_, hS g e, by decide⟩)
  have p5 : OwnO w5 base v4 D.pend := own_frk h.p f (fun g e => ⟨_, hS g e, by decide⟩)
  have fs : Fr (fun g => g = o) w5 (w5.setCell ⟨o, 0, none⟩ v5) := (Fr.refl _ _).set rfl
  have hmap : ∀ b, b = b1 ∨ b = b2 → w5.heap[b]? = W.heap[b]? ∧ b ≠ o := by
    obtain ⟨D1, D2, hLL, _⟩ := h.l
    have hk : ∀ b t, b = b1 ∨ b = b2 → ¬ KindAt W b t := by
      rintro b t (rfl | rfl) ⟨cs, fr, hk⟩
      · obtain ⟨_, _, hmm, _⟩ := hLL.o1
        rw [hmm] at hk; cases hk
      · obtain ⟨_, _, hmm, _⟩ := hLL.o2
        rw [hmm] at hk; cases hk
    intro b hb
    have hlt : b < W.heap.size := by rcases hb with rfl | rfl; exact hLL.o1.lt; exact hLL.o2.lt
    exact ⟨f.block b hlt (fun e => hk b _ hb (hS b e)), fun e => hk b _ hb (by rw [e]; exact h.box.kind)⟩
  have l5 : LstAt (w5.setCell ⟨o, 0, none⟩ v5) b1 b2 m D.names := by
    obtain ⟨D1, D2, hLL, hRR⟩ := h.l
    have hx : ∀ b, b = b1 ∨ b = b2 → (w5.setCell ⟨o, 0, none⟩ v5).heap[b]? = W.heap[b]? := fun b hb => (heap_setCell_other w5 ⟨o, 0, none⟩ b v5 (hmap b hb).2).trans (hmap b hb).1
    obtain ⟨es1, ck1, k1, k2⟩ := hLL.o1
    obtain ⟨es2, ck2, j1, j2⟩ := hLL.o2
    exact ⟨D1, D2, ⟨⟨es1, ck1, (hx b1 (.inl rfl)).trans k1, k2⟩, ⟨es2, ck2, (hx b2 (.inr rfl)).trans j1, j2⟩, hLL.ne⟩, hRR⟩
  have hkd : ∀ g, g = o → KindAt w5 g 99 := fun g e => by subst e; exact bx.kind
  exact ⟨bx.set 0 v5, h5.box bx (by decide) (by decide) 0 v5, l5, own_frk k5 fs (fun g e => ⟨_, hkd g e, by decide⟩), own_frk p5 fs (fun g e => ⟨_, hkd g e, by decide⟩), h.lb, h.lo⟩
theorem OwnNA.mono {w : World} {base base' : Nat} {v : Value} {vs : List (Value × Value)} {ns : List NdM} (h : OwnNA w base v vs ns) (hb : base' ≤ base) : OwnNA w base' v vs ns :=
  ⟨h.len, h.row.mono hb, fun i hi => by
    obtain ⟨x, h1, h2⟩ := h.body i hi
    exact ⟨x, h1, h2.mono hb⟩, h.apart⟩
/-- A new drive, without nodes. -/
theorem drv_new {base b1 b2 m : Nat} {W : World} {v3 v4 : Value} {D : MDisk} (hl : LstAt W b1 b2 m D.names) (hk : OwnE W base v3 D.kept) (hp : OwnO W base v4 D.pend) (h1 : base ≤ b1) (h2 : base ≤ b2) (hb : base ≤ W.heap.size) :
    Drv base (W.alloc (.cells #[.slice none 0 0, .map (some b1), .map (some b2), v3, v4, .int .i64 D.quota] 99)) W.heap.size b1 b2 m (.slice none 0 0) v3 v4 [] ⟨[], D.names, D.kept, D.pend, D.quota⟩ := by
  have hal := (Below.refl W.heap.size W).alloc (Nat.le_refl _) (.cells #[.slice none 0 0, .map (some b1), .map (some b2), v3, v4, .int .i64 D.quota] 99)
  exact ⟨Laid.new W _ _, OwnNA.nil _ _, hl.below hal hl.lt.1 hl.lt.2, hk.below hal, hp.below hal, ⟨h1, h2⟩, hb⟩
set_option maxRecDepth 20000 in
set_option maxHeartbeats 4000000 in
theorem driveOf_any (v : Value) (D : MDisk) (w : World) (hW : Wkd D) (hd : DiskAt w v D) :
    Calls Tryz.prog 19 #[v] w fun e w' => ∃ o b1 b2 v1 v3 v4 vs, e = .returned (.pointer (some ⟨o, 0, none⟩)) ∧ Drv w.heap.size w' o b1 b2 D.names.length v1 v3 v4 vs D ∧ Below w.heap.size w w' := by
  obtain ⟨a1, c1, a2, c2, a3, c3, a4, c4, rfl, hN, hE, hK, hO⟩ := hd
  have hA := (Below.refl w.heap.size w).alloc (Nat.le_refl _) (.cells #[.slice a1 D.nodes.length c1, .slice a2 D.names.length c2, .slice a3 D.kept.length c3, .slice a4 D.pend.length c4, .int .i64 D.quota] 27)
  have L0 := Laid.new w #[.slice a1 D.nodes.length c1, .slice a2 D.names.length c2, .slice a3 D.kept.length c3, .slice a4 D.pend.length c4, .int .i64 D.quota] 27
  have hln := hW.fine.ln
  have hnn := hW.nn
  have hnk := hW.nk
  have hnp := hW.np
  have HDT := hide hW.data
  have HWF := hide (show ∀ e ∈ D.names, (Lit.int .i64 e.2).wf = true from fun e he => by
    have := hW.fine.nd e he
    simp [Lit.wf, IntKind.min, IntKind.max, IntKind.signed, IntKind.bits]; omega)
  have HSZ := hide hW.fine.sz
  have HAP := hide hW.fine.ap
  clear hW
  go_enter Tryz.func19, Tryz.ntmps19
  have HN0 := hide (hN.below hA)
  have HE0 := hide (hE.below hA)
  have HK0 := hide (hK.below hA)
  have HO0 := hide (hO.below hA)
  have HA := hide hA
  clear hN hE hK hO hA
  go_upto_region 1 with fail
  generalize w.alloc (.cells #[.slice a1 D.nodes.length c1, .slice a2 D.names.length c2, .slice a3 D.kept.length c3, .slice a4 D.pend.length c4, .int .i64 D.quota] 27) = w5 at L0 HN0 HE0 HK0 HO0 HA ⊢
  have t1 : w5.cell? ⟨w.heap.size, 1, none⟩ = some (.slice a2 D.names.length c2) := L0.cell 1
  have t2 : w5.cell? ⟨w.heap.size, 2, none⟩ = some (.slice a3 D.kept.length c3) := L0.cell 2
  have t3 : w5.cell? ⟨w.heap.size, 3, none⟩ = some (.slice a4 D.pend.length c4) := L0.cell 3
  have t4 : w5.cell? ⟨w.heap.size, 4, none⟩ = some (.int .i64 D.quota) := L0.cell 4
  have HB := hide (fun X (h : Below w5.heap.size w5 X) j => (h.cell (p := ⟨w.heap.size, j, none⟩) L0.lt).trans (L0.cell j))
  have LST := hide (fun (X : World) (h : Below w5.heap.size w5 X) => listingOf_any a2 c2 D.names X (by omega) HSZ.out HWF.out HAP.out (HE0.out.below h))
  unfold lstV at LST
  have CLK := hide (fun (X : World) (h : Below w5.heap.size w5 X) => cloneE_any a3 c3 D.kept X (by omega) (HK0.out.below h))
  have CLO := hide (fun (X : World) (h : Below w5.heap.size w5 X) => cloneO_any a4 c4 D.pend X (by omega) (HO0.out.below h))
  have HL0 := hide L0
  clear L0
  go_cut [3] (fun s3 wx => ∃ (o b1 b2 : Nat) (v3 v4 : Value), s3 = .pointer (some ⟨o, 0, none⟩) ∧ Drv w5.heap.size wx o b1 b2 D.names.length (.slice none 0 0) v3 v4 [] ⟨[], D.names, D.kept, D.pend, D.quota⟩ ∧ Below w5.heap.size w5 wx)
  case first =>
    go_region_held3 (fun w' => w'.cell? ⟨w.heap.size, 1, none⟩ = some (.slice a2 D.names.length c2) ∧ w'.cell? ⟨w.heap.size, 2, none⟩ = some (.slice a3 D.kept.length c3) ∧ w'.cell? ⟨w.heap.size, 3, none⟩ = some (.slice a4 D.pend.length c4) ∧ w'.cell? ⟨w.heap.size, 4, none⟩ = some (.int .i64 D.quota)) (go_keep)
      (first
        | (go_at_call 30; refine (LST.out _ (Below.refl _ _).drew).mono ?_; rintro e w6 ⟨b1, b2, rfl, hg1, hg2, hl6, hb6⟩; have bb6 : Below w5.heap.size w5 w6 := (Below.refl _ _).drew.trans hb6; have u1 : w6.cell? ⟨w.heap.size, 1, none⟩ = some (.slice a2 D.names.length c2) := HB.out w6 bb6 1; have u2 : w6.cell? ⟨w.heap.size, 2, none⟩ = some (.slice a3 D.kept.length c3) := HB.out w6 bb6 2; have u3 : w6.cell? ⟨w.heap.size, 3, none⟩ = some (.slice a4 D.pend.length c4) := HB.out w6 bb6 3; have u4 : w6.cell? ⟨w.heap.size, 4, none⟩ = some (.int .i64 D.quota) := HB.out w6 bb6 4; have HBB6 := hide bb6; have HL6 := hide hl6; have HG1 := hide hg1; have HG2 := hide hg2; clear hb6 bb6 hl6 hg1 hg2)
        | (go_at_call 36; refine (CLK.out w6 HBB6.out).mono ?_; rintro e w7 ⟨v3, rfl, ho7, hb7⟩; obtain ⟨a7, c7, rfl⟩ := ho7.slice; have bb7 : Below w5.heap.size w5 w7 := HBB6.out.trans (hb7.mono HBB6.out.size); have p1 : w7.cell? ⟨w.heap.size, 1, none⟩ = some (.slice a2 D.names.length c2) := HB.out w7 bb7 1; have p2 : w7.cell? ⟨w.heap.size, 2, none⟩ = some (.slice a3 D.kept.length c3) := HB.out w7 bb7 2; have p3 : w7.cell? ⟨w.heap.size, 3, none⟩ = some (.slice a4 D.pend.length c4) := HB.out w7 bb7 3; have p4 : w7.cell? ⟨w.heap.size, 4, none⟩ = some (.int .i64 D.quota) := HB.out w7 bb7 4; have HBB7 := hide bb7; have HB7 := hide hb7; have HO7 := hide ho7; clear hb7 bb7 ho7)
        | (go_at_call 53; refine (CLO.out w7 HBB7.out).mono ?_; rintro e w8 ⟨v4, rfl, ho8, hb8⟩; obtain ⟨a8, c8, rfl⟩ := ho8.slice; have bb8 : Below w5.heap.size w5 w8 := HBB7.out.trans (hb8.mono HBB7.out.size); have r1 : w8.cell? ⟨w.heap.size, 1, none⟩ = some (.slice a2 D.names.length c2) := HB.out w8 bb8 1; have r2 : w8.cell? ⟨w.heap.size, 2, none⟩ = some (.slice a3 D.kept.length c3) := HB.out w8 bb8 2; have r3 : w8.cell? ⟨w.heap.size, 3, none⟩ = some (.slice a4 D.pend.length c4) := HB.out w8 bb8 3; have r4 : w8.cell? ⟨w.heap.size, 4, none⟩ = some (.int .i64 D.quota) := HB.out w8 bb8 4; have hc8 := (Below.refl w8.heap.size w8).alloc (Nat.le_refl _) (.cells #[.slice none 0 0, .map (some b1), .map (some b2), .slice a7 D.kept.length c7, .slice a8 D.pend.length c8, .int .i64 D.quota] 99); have HBB8 := hide bb8; have HB8 := hide hb8; have HO8 := hide ho8; have bb9 : Below w5.heap.size w5 (w8.alloc (.cells #[.slice none 0 0, .map (some b1), .map (some b2), .slice a7 D.kept.length c7, .slice a8 D.pend.length c8, .int .i64 D.quota] 99)) := bb8.trans (hc8.mono bb8.size); have y1 : (w8.alloc (.cells #[.slice none 0 0, .map (some b1), .map (some b2), .slice a7 D.kept.length c7, .slice a8 D.pend.length c8, .int .i64 D.quota] 99)).cell? ⟨w.heap.size, 1, none⟩ = some (.slice a2 D.names.length c2) := HB.out (w8.alloc (.cells #[.slice none 0 0, .map (some b1), .map (some b2), .slice a7 D.kept.length c7, .slice a8 D.pend.length c8, .int .i64 D.quota] 99)) bb9 1; have y2 : (w8.alloc (.cells #[.slice none 0 0, .map (some b1), .map (some b2), .slice a7 D.kept.length c7, .slice a8 D.pend.length c8, .int .i64 D.quota] 99)).cell? ⟨w.heap.size, 2, none⟩ = some (.slice a3 D.kept.length c3) := HB.out (w8.alloc (.cells #[.slice none 0 0, .map (some b1), .map (some b2), .slice a7 D.kept.length c7, .slice a8 D.pend.length c8, .int .i64 D.quota] 99)) bb9 2; have y3 : (w8.alloc (.cells #[.slice none 0 0, .map (some b1), .map (some b2), .slice a7 D.kept.length c7, .slice a8 D.pend.length c8, .int .i64 D.quota] 99)).cell? ⟨w.heap.size, 3, none⟩ = some (.slice a4 D.pend.length c4) := HB.out (w8.alloc (.cells #[.slice none 0 0, .map (some b1), .map (some b2), .slice a7 D.kept.length c7, .slice a8 D.pend.length c8, .int .i64 D.quota] 99)) bb9 3; have y4 : (w8.alloc (.cells #[.slice none 0 0, .map (some b1), .map (some b2), .slice a7 D.kept.length c7, .slice a8 D.pend.length c8, .int .i64 D.quota] 99)).cell? ⟨w.heap.size, 4, none⟩ = some (.int .i64 D.quota) := HB.out (w8.alloc (.cells #[.slice none 0 0, .map (some b1), .map (some b2), .slice a7 D.kept.length c7, .slice a8 D.pend.length c8, .int .i64 D.quota] 99)) bb9 4; have HBB9 := hide bb9; clear hb8 bb8 ho8 hc8 bb9)
        | fail)
    all_goals
      go_wp2_with fail
      go_meet
      case rel =>
        have l8 := (HL6.out.below HB7.out HL6.out.lt.1 HL6.out.lt.2)
        have l9 := l8.below HB8.out l8.lt.1 l8.lt.2
        exact ⟨_, b1, b2, _, _, rfl, drv_new l9 (OwnE.mono (HO7.out.below HB8.out) HBB6.out.size) (OwnO.mono HO8.out HBB7.out.size) HG1.out HG2.out HBB8.out.size, HBB9.out⟩
  case rest =>
    obtain ⟨o, b1, b2, v3, v4, rfl, hD, hbc⟩ := hcut
    have d0 : wc.cell? ⟨w.heap.size, 0, none⟩ = some (.slice a1 D.nodes.length c1) := HB.out wc hbc 0
    have HD0 := hide hD
    have HBC := hide hbc
    clear hD hbc t1 t2 t3 t4 LST CLK CLO HE0 HK0 HO0
    obtain ⟨wB, eB⟩ : ∃ x, x = wc := ⟨wc, rfl⟩
    subst eB
    go_wp2
    go_loopw [5, 22] (fun _ i wv => ∃ (j : Nat) (v1 : Value) (vs : List (Value × Value)), j ≤ D.nodes.length ∧ i = .int .i64 (j : Int) ∧ Drv w5.heap.size wv o b1 b2 D.names.length v1 v3 v4 vs ⟨D.nodes.take j, D.names, D.kept, D.pend, D.quota⟩ ∧ Below w5.heap.size w5 wv) (fun _ i _ => D.nodes.length - (intOf i).toNat)
    case atStart => exact ⟨0, _, [], Nat.zero_le _, rfl, HD0.out, HBC.out⟩
    case round =>
      obtain ⟨j, v1, vs, hj, rfl, hC, hbv⟩ := hrel
      have HC := hide hC
      have HBV := hide hbv
      clear hC HD0 HBC d0
      by_cases hlt : j < D.nodes.length
      · obtain ⟨bn, off1, rfl, hcn⟩ := (HN0.out.below hbv) (by omega)
        obtain ⟨ai, ci, g0, g1, hri⟩ := hcn j hlt
        have hdl := HDT.out _ (List.getElem_mem hlt)
        have HSN := hide (nodes_succ D.nodes j hlt)
        generalize D.nodes[j].1 = dd at g0 hri hdl HSN
        generalize D.nodes[j].2 = sf at g1 HSN
        have hA8 := (Below.refl wr.heap.size wr).alloc (Nat.le_refl _) (.cells #[.slice ai dd.length ci, .int .i64 sf] 49)
        have LN8 := Laid.new wr #[.slice ai dd.length ci, .int .i64 sf] 49
        have C8 := HC.out.below hA8
        have hlo8 : w5.heap.size ≤ (wr.alloc (.cells #[.slice ai dd.length ci, .int .i64 sf] 49)).heap.size := Nat.le_trans hbv.size hA8.size
        have CALL := hide (nd_call 35 clone_own (z := sf) C8.n hlo8 (hri.below hA8) dd.length ci rfl (by omega))
        have n0 := LN8.cell 0
        have n1 := LN8.cell 1
        have o0 : (wr.alloc (.cells #[.slice ai dd.length ci, .int .i64 sf] 49)).cell? ⟨o, 0, none⟩ = some v1 := C8.box.cell 0
        have HC8 := hide C8
        have HB8 := hide (hbv.trans (hA8.mono hbv.size))
        have hNl : (D.nodes.take j).length = j := by simp; omega
        simp only at CALL
        generalize D.nodes.take j = N0 at HC8 CALL HSN hNl
        have hNb : N0.length ≤ 1048576 := by omega
        clear hcn hri C8 LN8 hA8 hlo8 hNl HC hbv HBV
        go_wp2
        generalize wr.alloc (.cells #[.slice ai dd.length ci, .int .i64 sf] 49) = W8 at HC8 HB8 CALL n0 n1 o0 ⊢
        go_region_law (first
          | (refine step_call_one 35 run_enterCl (.tmp 32) #[22] (by rfl) (by rfl) (.slice ai dd.length ci) (by rfl) ?_; refine (CALL.out _ ?_ ?_ ?_ ?_).mono ?_; (exact rfl); (exact rfl); (exact rfl); (exact rfl); rintro e w9 ⟨a9, c9, rfl, hkn, ha, hcl⟩; have p1 := (hcl ⟨o, 0, none⟩ (lt_of_cell0 o0)).trans o0; have l2 : o < w9.heap.size := lt_of_cell0 p1; have p2 := (hcl ⟨wr.heap.size, 1, none⟩ (lt_of_cell0 n1)).trans n1; have HKN := hide hkn; have HA := hide ha; clear hkn ha hcl; refine ⟨_, rfl, ?_⟩)
          | (refine step_append_node _ (by rfl) (.tmp 30) (.tmp 37) (by rfl) w5.heap.size v1 vs N0 (.slice a9 dd.length c9) dd sf w9.heap.size 1 (by rfl) (by rfl) ?_ ?_ ?_ ?_ ?_ ?_ ?_ ?_; (refine (HA.out _ ?_ ?_ ?_ ?_).n <;> rfl); (refine (HA.out _ ?_ ?_ ?_ ?_).c0 <;> rfl); (refine (HA.out _ ?_ ?_ ?_ ?_).c1 <;> rfl); (refine (HA.out _ ?_ ?_ ?_ ?_).ow <;> rfl); (exact HKN.out); (exact hNb); (refine (HA.out _ ?_ ?_ ?_ ?_).sz <;> rfl); intro v9 w10 ho9 hg9; have hz := nd_next HA.out HC8.out.box (by decide) (by rfl) ho9 hg9; obtain ⟨a10, c10, rfl⟩ := ho9.slice; have p3 := hz.2.2.1; have f3 := hz.2.2.2.1)
          | fail)
        all_goals
          have HP := hide (HC8.out.push hz.1 hz.2.2.2.2)
          have HBP := hide ((HB8.out.trans (hz.1.below (fun g hg => (own_ge HC8.out.n.row hg).1) HB8.out.size)).setCell (p := ⟨o, 0, none⟩) HC8.out.lo (.slice a10 (N0 ++ [(dd, sf)]).length c10))
          rw [show (N0 ++ [(dd, sf)]).length = N0.length + 1 from by simp] at HP HBP
          clear hz p3 f3 HA HKN p1 l2 hg9 ho9 n0 n1 o0 HC8 CALL HB8
          generalize w10.setCell ⟨o, 0, none⟩ (.slice a10 (N0.length + 1) c10) = W11 at HP HBP ⊢
          go_wp2
          go_roundw
          case rel => exact ⟨j + 1, _, _, by omega, by go_num, by rw [HSN.out]; exact HP.out, HBP.out⟩
          case measure => simp [intOf]; omega
      · obtain rfl : j = D.nodes.length := by omega
        have HT := hide (List.take_length (l := D.nodes))
        rw [HT.out] at HC
        clear hbv hlt
        go_wp2
        go_ret
        refine ⟨o, b1, b2, v1, v3, v4, vs, rfl, ?_, HA.out.trans (HBV.out.mono HA.out.size)⟩
        have h := HC.out
        have hle := HA.out.size
        have hle2 : w.heap.size ≤ w5.heap.size := hle
        exact ⟨h.box, h.n.mono hle2, h.l, h.k.mono hle2, h.p.mono hle2, ⟨Nat.le_trans hle2 h.lb.1, Nat.le_trans hle2 h.lb.2⟩, Nat.le_trans hle2 h.lo⟩
end Go.Proofs.YtpccongphchagaaGreatDoor
namespace Go.Proofs.YtpccongphchagaaGreatDoor
open Go.RowKit
set_option linter.unusedVariables false
/-- A drive's rows and its names written out are a disk, all rows apart. -/
theorem da_of {base lo : Nat} {w w6 : World} {o b1 b2 m : Nat} {v1 v2 v3 v4 : Value} {vs : List (Value × Value)} {D : MDisk} (h : Drv base w o b1 b2 m v1 v3 v4 vs D) (hb : Below w.heap.size w w6) (hbase : base ≤ w.heap.size) (h2 : OwnE w6 lo v2 D.names) (hlo : w.heap.size ≤ lo) : OwnDA w6 base w6.heap.size v1 v2 v3 v4 vs D := by
  have h6 := h.below hb
  refine ⟨h6.n, h2.mono (Nat.le_trans hbase hlo), h6.k, h6.p, ?_, fun g hg => (h6.n.lo hg).2, fun g hg => (own_ge h2 hg).2, fun g hg => (own_ge h6.k hg).2, fun g hg => (own_ge h6.p hg).2⟩
  cases e2 : v2.ownBlock with
  | none => exact .inl e2
  | some g =>
    refine .inr fun e => ?_
    have k1 := (own_ge h2 e2).1
    rw [e2] at e
    have k2 := (own_ge h.k e.symm).2
    omega
set_option maxRecDepth 20000 in
set_option maxHeartbeats 1000000 in
theorem disk_any (base o b1 b2 m : Nat) (v1 v3 v4 : Value) (vs : List (Value × Value)) (D : MDisk) (w : World) (hbase : base ≤ w.heap.size) (hW : Wkd D) (hm : m ≤ 1048576) (hd : Drv base w o b1 b2 m v1 v3 v4 vs D) :
    Calls Tryz.prog 21 #[.pointer (some ⟨o, 0, none⟩)] w fun e w' => ∃ v2, e = .returned (.agg #[v1, v2, v3, v4, .int .i64 D.quota]) ∧ OwnDA w' base w'.heap.size v1 v2 v3 v4 vs D ∧ Below w.heap.size w w' := by
  obtain ⟨a1, c1, rfl⟩ := hd.n.slice
  obtain ⟨a3, c3, rfl⟩ := hd.k.slice
  obtain ⟨a4, c4, rfl⟩ := hd.p.slice
  have hA := (Below.refl w.heap.size w).alloc (Nat.le_refl _) (.cells #[.slice none 0 0, .slice none 0 0, .slice none 0 0, .slice none 0 0, .int .i64 0] 27)
  have L0 := Laid.new w #[.slice none 0 0, .slice none 0 0, .slice none 0 0, .slice none 0 0, .int .i64 0] 27
  have hd0 := hd.below hA
  have ENT := hide (fun (X : World) (hX : Below (w.alloc (.cells #[.slice none 0 0, .slice none 0 0, .slice none 0 0, .slice none 0 0, .int .i64 0] 27)).heap.size (w.alloc (.cells #[.slice none 0 0, .slice none 0 0, .slice none 0 0, .slice none 0 0, .int .i64 0] 27)) X) => entries_holds b1 b2 m D.names X hm hW.fine.ln hW.fine.ap hW.fine.so hW.fine.sz (hd0.below hX).l)
  unfold lstV at ENT
  have HA := hide hA
  have hol : o < w.heap.size := hd.box.lt
  have hno : ¬ o = w.heap.size := by omega
  have hno' : ¬ w.heap.size = o := by omega
  clear hol
  have HDW := hide hd
  clear hd hW hA
  go_enter Tryz.func21, Tryz.ntmps21
  go_upto_region 1 with fail
  generalize w.alloc (.cells #[.slice none 0 0, .slice none 0 0, .slice none 0 0, .slice none 0 0, .int .i64 0] 27) = W at hd0 HA L0 ENT ⊢
  have q0 : W.cell? ⟨o, 0, none⟩ = some (.slice a1 D.nodes.length c1) := hd0.box.cell 0
  have q1 : W.cell? ⟨o, 1, none⟩ = some (.map (some b1)) := hd0.box.cell 1
  have q2 : W.cell? ⟨o, 2, none⟩ = some (.map (some b2)) := hd0.box.cell 2
  have q3 : W.cell? ⟨o, 3, none⟩ = some (.slice a3 D.kept.length c3) := hd0.box.cell 3
  have q4 : W.cell? ⟨o, 4, none⟩ = some (.slice a4 D.pend.length c4) := hd0.box.cell 4
  have q5 : W.cell? ⟨o, 5, none⟩ = some (.int .i64 D.quota) := hd0.box.cell 5
  have HD0 := hide hd0
  have HL0 := hide L0
  clear hd0 L0
  go_region_held3 (fun w' => w'.cell? ⟨o, 0, none⟩ = some (.slice a1 D.nodes.length c1) ∧ w'.cell? ⟨o, 1, none⟩ = some (.map (some b1)) ∧ w'.cell? ⟨o, 2, none⟩ = some (.map (some b2)) ∧ w'.cell? ⟨o, 3, none⟩ = some (.slice a3 D.kept.length c3) ∧ w'.cell? ⟨o, 4, none⟩ = some (.slice a4 D.pend.length c4) ∧ w'.cell? ⟨o, 5, none⟩ = some (.int .i64 D.quota)) (go_keep)
    (first
      | (go_at_call 33; refine (ENT.out _ (Below.refl _ _).drew).mono ?_; rintro e w6 ⟨v, rfl, ho6, hb6⟩; obtain ⟨a6, c6, rfl⟩ := ho6.slice; have HO6 := hide ho6; have HB6 := hide hb6; have d6 := (HD0.out.below (Below.refl _ _).drew).below hb6; have u0 : w6.cell? ⟨o, 0, none⟩ = some (.slice a1 D.nodes.length c1) := d6.box.cell 0; have u1 : w6.cell? ⟨o, 1, none⟩ = some (.map (some b1)) := d6.box.cell 1; have u2 : w6.cell? ⟨o, 2, none⟩ = some (.map (some b2)) := d6.box.cell 2; have u3 : w6.cell? ⟨o, 3, none⟩ = some (.slice a3 D.kept.length c3) := d6.box.cell 3; have u4 : w6.cell? ⟨o, 4, none⟩ = some (.slice a4 D.pend.length c4) := d6.box.cell 4; have u5 : w6.cell? ⟨o, 5, none⟩ = some (.int .i64 D.quota) := d6.box.cell 5; have L6 := (HL0.out.below (Below.refl _ _).drew HL0.out.lt).below hb6 HL0.out.lt; have z0 : w6.cell? ⟨w.heap.size, 0, none⟩ = some (.slice none 0 0) := L6.cell 0; have z1 : w6.cell? ⟨w.heap.size, 1, none⟩ = some (.slice none 0 0) := L6.cell 1; have z2 : w6.cell? ⟨w.heap.size, 2, none⟩ = some (.slice none 0 0) := L6.cell 2; have z3 : w6.cell? ⟨w.heap.size, 3, none⟩ = some (.slice none 0 0) := L6.cell 3; have z4 : w6.cell? ⟨w.heap.size, 4, none⟩ = some (.int .i64 0) := L6.cell 4; have f0 := frozen_of_row w6 w.heap.size 0 _ _ L6; have f1 := frozen_of_row w6 w.heap.size 1 _ _ L6; have f2 := frozen_of_row w6 w.heap.size 2 _ _ L6; have f3 := frozen_of_row w6 w.heap.size 3 _ _ L6; have f4 := frozen_of_row w6 w.heap.size 4 _ _ L6; have HL6 := hide L6; clear L6 d6 ho6 hb6)
      | fail)
  all_goals
    go_wp2
    have hbW : Below w.heap.size w w6 := (HA.out.trans ((Below.refl W.heap.size W).drew.mono HA.out.size)).trans (HB6.out.mono HA.out.size)
    have hbF : Below w.heap.size w (setD w6 w.heap.size (.slice a1 D.nodes.length c1) (.slice a6 D.names.length c6) (.slice a3 D.kept.length c3) (.slice a4 D.pend.length c4) (.int .i64 D.quota)) := hbW.trans ((setD_fr _ _ _ _ _ _ _).below (fun g e => by omega) hbW.size)
    refine bodyPost_ret (ret_disk w.heap.size _ _ _ _ _ _ rfl rfl (set_disk _ _ _ _ _ HL6.out)) rfl ⟨_, rfl, ?_, hbF⟩
    exact da_of HDW.out hbF hbase (own_frk HO6.out (setD_fr _ _ _ _ _ _ _) (fun g e => ⟨_, by obtain rfl : g = w.heap.size := e; exact HL6.out.kind, by decide⟩)) HA.out.size
end Go.Proofs.YtpccongphchagaaGreatDoor
