import Derived.Test.YtpccongphchagaaGreatDoorPky
import Derived.Test.YtpccongphchagaaGreatDoorPkl
import Derived.Test.YtpccongphchagaaGreatDoorPkw
import Derived.Deep.RegionLaw
import Derived.Laws.Closers25
namespace Go.Proofs.YtpccongphchagaaGreatDoor
open Go.RowKit Go.Maps
set_option linter.unusedVariables false
theorem wpList_next_ranges_si2 {H : Type} {P : Program} (w : World) {ops : Array Oper} {rest : List Oper} {o : Oper} {a : Act} {Q : Exit → Act → World → Prop}
    (hg : o.guard = none) (it : Operand) (hop : o.op = Op.next it false) (k e : TypeId) (qe : IntKind) (K : Keyed P k) (hk : P.underlying k = some .string) (he : P.underlying e = some (.int qe))
    (b r n : Nat) (D : DataW H) (left : Lit → Bool) (cnt : Nat) (hit : a.eval it = .pointer (some ⟨r, 0, none⟩)) (h : w.ranges P k (plainElem P e) b r n D left cnt)
    (hDone : cnt = 0 → (∀ kl, left kl = false) → wpList P ops Q rest (a.put o.dst (.tuple #[.bool false])) w)
    (hMore : ∀ (x : ByteArray) (c : Int) (w' : World) (cnt' : Nat), left (.string x.data.toList) = true → D.atKey (.string x.data.toList) (.lit (.int qe 0)) = .lit (.int qe c) → w'.ranges P k (plainElem P e) b r n D (fun z => left z && !z.sameKey (.string x.data.toList)) cnt' → cnt' < cnt →
      w.grownBy w' (some r) → w'.heap.size = w.heap.size → (Instr.entry (.pointer (some ⟨r, 0, none⟩))).run P w' = .ok (.tuple #[.string x, .int qe c]) w' → wpList P ops Q rest (a.put o.dst (.tuple #[.bool true, .string x, .int qe c])) w') :
    wpList P ops Q (o :: rest) a w :=
  wpList_next_ranges w hg it hop k K (plainElem P e) Value.string (Value.int qe) (fun key kl hkey => by obtain ⟨x, rfl, _⟩ := keyOf_str_inv hk hkey; exact ⟨x, rfl⟩) (fun v y hv => by obtain ⟨c, rfl, _⟩ := plainElem_int_inv he hv; exact ⟨c, rfl⟩)
    b r n D left cnt hit h hDone (fun x c kl y w' cnt' hkey hlk hv hat hrg hlt hgr hsz hen => by
      obtain ⟨x', ex, rfl, hwx⟩ := keyOf_str_inv hk hkey
      cases ex
      obtain ⟨c', ec, hy, _⟩ := plainElem_int_inv he hv
      cases ec
      refine hMore x c w' cnt' hlk ?_ hrg hlt hgr hsz hen
      rw [hat, hy])
def usedL (ns : List NdM) (left : Lit → Bool) : List EN → Nat
  | [] => 0
  | e :: r => (if left (kS e.1) = true then 0 else (nodeOf ns e).1.length) + usedL ns left r
theorem usedL_start (ns : List NdM) (left : Lit → Bool) : ∀ (es : List EN), (∀ e ∈ es, left (kS e.1) = true) → usedL ns left es = 0
  | [], _ => rfl
  | e :: r, h => by rw [usedL, if_pos (h e (List.mem_cons_self ..)), usedL_start ns left r (fun x hx => h x (List.mem_cons_of_mem _ hx))]
theorem usedL_end (ns : List NdM) (left : Lit → Bool) (h : ∀ kl, left kl = false) : ∀ (es : List EN), usedL ns left es = usedOf ns es
  | [] => rfl
  | e :: r => by rw [usedL, usedOf, if_neg (by rw [h]; decide), usedL_end ns left h r]
theorem usedL_le (ns : List NdM) (left : Lit → Bool) : ∀ (es : List EN), usedL ns left es ≤ usedOf ns es
  | [] => Nat.le_refl _
  | e :: r => by
    have := usedL_le ns left r
    rw [usedL, usedOf]
    split <;> omega
theorem sameKey_iff (s t : ByteArray) : (kS s).sameKey (kS t) = true ↔ s = t := ⟨fun e => kS_inj (WideAt.sameKey_eq e), fun e => by rw [e]; exact WideAt.sameKey_self (isKeyS t)⟩
theorem usedL_keep (ns : List NdM) (left : Lit → Bool) (x : ByteArray) : ∀ (es : List EN), (∀ e ∈ es, e.1 ≠ x) → usedL ns (fun z => left z && !z.sameKey (kS x)) es = usedL ns left es
  | [], _ => rfl
  | e :: r, h => by
    have h1 : (kS e.1).sameKey (kS x) = false := by
      cases hs : (kS e.1).sameKey (kS x) with
      | false => rfl
      | true => exact absurd ((sameKey_iff _ _).1 hs) (h e (List.mem_cons_self ..))
    rw [usedL, usedL, usedL_keep ns left x r (fun y hy => h y (List.mem_cons_of_mem _ hy))]
    simp only [h1, Bool.not_false, Bool.and_true]
theorem usedL_step (ns : List NdM) (left : Lit → Bool) (x : ByteArray) (c : Int) (hx : left (kS x) = true) : ∀ (es : List EN), Apart es → (x, c) ∈ es → usedL ns (fun z => left z && !z.sameKey (kS x)) es = usedL ns left es + (nodeOf ns (x, c)).1.length
  | [], _, h => by cases h
  | e :: r, ha, h => by
    obtain ⟨a1, a2⟩ := List.pairwise_cons.1 ha
    by_cases he : e = (x, c)
    · subst he
      rw [usedL, usedL, usedL_keep ns left x r (fun y hy e2 => (a1 y hy).1 e2.symm)]
      have hs : (kS x).sameKey (kS x) = true := (sameKey_iff x x).2 rfl
      simp only [hs, hx, Bool.not_true, Bool.and_false, if_true]
      simp
      omega
    · have hm : (x, c) ∈ r := by
        rcases List.mem_cons.1 h with h | h
        · exact absurd h.symm he
        · exact h
      have hne : e.1 ≠ x := (a1 _ hm).1
      have h1 : (kS e.1).sameKey (kS x) = false := by
        cases hs : (kS e.1).sameKey (kS x) with
        | false => rfl
        | true => exact absurd ((sameKey_iff _ _).1 hs) hne
      rw [usedL, usedL, usedL_step ns left x c hx r a2 hm]
      simp only [h1, Bool.not_false, Bool.and_true]
      omega
theorem use_fact {base : Nat} {w w1 : World} {o b1 b2 m : Nat} {a1 : Option Addr} {c1 : Nat} {v3 v4 : Value} {vs : List (Value × Value)} {D : MDisk} {D1 D2 : DU} {x : ByteArray} {c : Int} (hd : Drv base w o b1 b2 m (.slice a1 D.nodes.length c1) v3 v4 vs D) (hr : Reads D1 D2 D.names) (hnd : ∀ e ∈ D.names, 0 ≤ e.2 ∧ e.2 < (D.nodes.length : Int)) (hx : Maps.has D1 (kS x) = true) (hat : D1.atKey (kS x) (.lit (.int .i64 0)) = .lit (.int .i64 c)) (hb : Below w.heap.size w w1) :
    (x, c) ∈ D.names ∧ ∃ (k g : Nat) (ai : Option Addr) (ci : Nat), c = (k : Int) ∧ k < D.nodes.length ∧ a1 = some ⟨g, 0, none⟩ ∧ w1.cell? ⟨o, 0, none⟩ = some (.slice a1 D.nodes.length c1) ∧ w1.cell? ⟨g, k * 2, none⟩ = some (.slice ai (nodeOf D.nodes (x, c)).1.length ci) ∧ Below w.heap.size w w1 := by
  obtain ⟨n, hn⟩ := hr.r2 x hx
  have h1 := (hr.r1 x n hn).2
  rw [hat] at h1
  simp only [DataW.lit.injEq, Lit.int.injEq, true_and] at h1
  subst h1
  obtain ⟨h2, h3⟩ := hnd _ hn
  simp only at h2 h3
  have d1 := hd.below hb
  obtain ⟨g, e, _, _, hc⟩ := d1.n.cells (by omega)
  have hk : c.toNat < D.nodes.length := by omega
  obtain ⟨ai, ci, _, k1, _, _⟩ := hc c.toNat hk
  refine ⟨hn, c.toNat, g, ai, ci, by omega, hk, e, d1.box.cell 0, ?_, hb⟩
  have hno : nodeOf D.nodes (x, c) = D.nodes[c.toNat] := by
    unfold nodeOf
    rw [List.getD_eq_getElem?_getD, List.getElem?_eq_getElem hk]
    rfl
  rw [hno]
  exact k1
set_option maxRecDepth 20000 in
set_option maxHeartbeats 1000000 in
theorem used_any (base o b1 b2 m : Nat) (v1 v3 v4 : Value) (vs : List (Value × Value)) (D : MDisk) (w : World) (hW : Wkd D) (hd : Drv base w o b1 b2 m v1 v3 v4 vs D) :
    Calls Tryz.prog 86 #[.pointer (some ⟨o, 0, none⟩)] w fun e w' => e = .returned (.int .i64 (usedOf D.nodes D.names : Int)) ∧ Below w.heap.size w w' := by
  obtain ⟨a1, c1, rfl⟩ := hd.n.slice
  have HD := hide hd
  obtain ⟨D1, D2, hl, hr⟩ := hd.l
  have HL := hide hl.o1
  have HR := hide hr
  have hub := used_le _ _ hW.fine.ap hW.fine.nd
  have hsm := hW.sum
  have hln := hW.fine.ln
  have HAP := hide hW.fine.ap
  have HND := hide hW.fine.nd
  have q1 : w.cell? ⟨o, 1, none⟩ = some (.map (some b1)) := hd.box.cell 1
  have hlt1 := hl.o1.lt
  clear hd hl hr hW
  go_enter Tryz.func86, Tryz.ntmps86
  go_wp2_with (first | (at_range; refine wpList_range_own _ rfl _ 74 rfl 9 3 lawStr Tryz.underlying74 (plainElem Tryz.prog 3) b1 m D1 rfl HL.out ?_; intro w0 hrg0 hg0 hs0) | go_in)
  go_frame
  have HB0 := hide ((Below.refl w.heap.size w).grown hg0 (Nat.le_refl _) (fun k h => by cases h))
  have HRG0 := hide hrg0
  clear hrg0 hg0 q1
  go_loopw [3, 5] (fun t _ wr => ∃ (left : Lit → Bool) (cnt : Nat), wr.ranges Tryz.prog 9 (plainElem Tryz.prog 3) b1 w.heap.size m D1 left cnt ∧ (∀ s, left (kS s) = true → Maps.has D1 (kS s) = true) ∧ t = .int .i64 (usedL D.nodes left D.names : Int) ∧ Below w.heap.size w wr) (fun _ _ wr => wr.rangeLeft b1 w.heap.size)
  case atStart => exact ⟨_, _, HRG0.out, fun _ h => h, by rw [usedL_start _ _ _ (fun e he => (HR.out.r1 e.1 e.2 he).1)]; rfl, HB0.out⟩
  case round =>
    obtain ⟨left, cnt, hrg, hsub, rfl, hbel⟩ := hrel
    have HRG := hide hrg
    have HS := hide hsub
    have HBL := hide hbel
    have hle := usedL_le D.nodes left D.names
    have FACT := hide (fun x c w1 (hlx : left (kS x) = true) (hat : D1.atKey (kS x) (.lit (.int .i64 0)) = .lit (.int .i64 c)) (hg : wr.grownBy w1 (some w.heap.size)) => use_fact HD.out HR.out HND.out (HS.out x hlx) hat (HBL.out.grown hg HBL.out.size (fun k h => by simp only [Option.some.injEq] at h; omega)))
    have STEP := hide (fun x c (hlx : left (kS x) = true) (hm : (x, c) ∈ D.names) => usedL_step D.nodes left x c hlx D.names HAP.out hm)
    have FINAL := hide (fun h => usedL_end D.nodes left h D.names)
    generalize hus : usedL D.nodes left D.names = us at hle STEP FINAL ⊢
    clear hrg hsub hbel HRG0 HB0 hus
    go_wp2_with (first | (at_next; refine wpList_next_ranges_si2 _ rfl _ rfl 9 3 .i64 lawStr Tryz.underlying9 Tryz.underlying3 b1 w.heap.size m _ _ _ rfl HRG.out ?_ ?_; intro hc0 hl0; rotate_left; intro x c w1 cnt1 hlx hat hrg1 hlt hg1 hs1 hen; obtain ⟨hmem, k, g, ai, ci, rfl, hkl, rfl, x0, x1, hb1⟩ := FACT.out x c w1 hlx hat hg1; have hst := STEP.out x (k : Int) hlx hmem; have hle1 := usedL_le D.nodes (fun z => left z && !z.sameKey (kS x)) D.names; rw [hst] at hle1; have HST := hide hst; have HRG1 := hide hrg1; have HB1 := hide hb1; have HSB := hide (fun s (h : (left (kS s) && !(kS s).sameKey (kS x)) = true) => HS.out s (by simp only [Bool.and_eq_true] at h; exact h.1)); have hlt' := hlt; generalize hnl : (nodeOf D.nodes (x, (k : Int))).1.length = nl at x1 hle1 HST; clear hst hrg1 hg1 hb1 hlx hat hmem hlt hnl; rotate_right) | go_in)
    · have hfin := FINAL.out hl0
      go_ret
      exact ⟨congrArg (fun n : Nat => Ending.returned (.int .i64 (n : Int))) hfin, HBL.out⟩
    · exact ⟨⟨_, cnt1, HRG1.out, HSB.out, val_int (by have h := HST.out; unfold kS at h; rw [h]; omega), HB1.out⟩, by rw [HRG1.out.left_eq, HRG.out.left_eq]; omega⟩
end Go.Proofs.YtpccongphchagaaGreatDoor
namespace Go.Proofs.YtpccongphchagaaGreatDoor
open Go.RowKit
set_option linter.unusedVariables false
/-- A node's row has grown and is put. -/
theorem drv_put {base : Nat} {W w5 : World} {o b1 b2 m g n cap i : Nat} {v3 v4 x v' : Value} {y : Int} {l : List Nat} {vs : List (Value × Value)} {D : MDisk} (h : Drv base W o b1 b2 m (.slice (some ⟨g, 0, none⟩) n cap) v3 v4 vs D) (hi : i < D.nodes.length) (hx : vs[i]? = some (x, .int .i64 y)) (ho : OwnB w5 base v' l) (hg : W.grownBy w5 x.ownBlock) (hat : v'.ownBlock = x.ownBlock ∨ v'.ownBlock = some W.heap.size ∨ v'.ownBlock = none) (hb : base ≤ W.heap.size) :
    Drv base (w5.setCell ⟨g, i * 2, none⟩ v') o b1 b2 m (.slice (some ⟨g, 0, none⟩) n cap) v3 v4 (vs.set i (v', .int .i64 y)) ⟨D.nodes.set i (l, D.nodes[i].2), D.names, D.kept, D.pend, D.quota⟩ ∧ KepI base W (w5.setCell ⟨g, i * 2, none⟩ v') := by
  obtain ⟨x0, hx0, p1⟩ := h.n.body i hi
  obtain rfl : x = x0 := by rw [hx] at hx0; simp only [Option.some.injEq, Prod.mk.injEq] at hx0; exact hx0.1
  obtain ⟨hn, hg2⟩ := h.n.putData hi hx ho hg hat
  have f1 : Fr (fun k => x.ownBlock = some k) W w5 := Fr.of_grown hg (fun k e => e)
  have S1 : ∀ k, x.ownBlock = some k → KindAt W k 5 := fun k e => own_kind p1 e
  have Kg : KindAt W g 49 := own_kind h.n.row rfl
  have Kg5 : KindAt w5 g 49 := Kg.on (f1.block g Kg.lt (fun e => by have := Kg.ne (S1 g e); revert this; decide))
  have f2 : Fr (fun k => k = g) w5 (w5.setCell ⟨g, i * 2, none⟩ v') := (Fr.refl _ _).set rfl
  have f : Fr (fun k => x.ownBlock = some k ∨ k = g) W (w5.setCell ⟨g, i * 2, none⟩ v') := (f1.mono (fun k e => .inl e)).trans (f2.mono (fun k e => .inr e))
  have S : ∀ k, (x.ownBlock = some k ∨ k = g) → KindAt W k 5 ∨ KindAt W k 49 := by
    rintro k (e | rfl)
    · exact .inl (S1 k e)
    · exact .inr Kg
  have nk : ∀ {k t : Nat}, KindAt W k t → t ≠ 5 → t ≠ 49 → ¬ (x.ownBlock = some k ∨ k = g) := fun hk h5 hN e => by
    rcases S _ e with e2 | e2
    · exact h5 (hk.ne e2)
    · exact hN (hk.ne e2)
  have bx := (f.block _ h.box.lt (nk h.box.kind (by decide) (by decide))).trans h.box
  have k5 : OwnE (w5.setCell ⟨g, i * 2, none⟩ v') base v3 D.kept := owns_fr h.k f (fun k hk e => nk (own_kind h.k hk) (by decide) (by decide) e)
  have p5 : OwnO (w5.setCell ⟨g, i * 2, none⟩ v') base v4 D.pend := owns_fr h.p f (fun k hk e => nk (own_kind h.p hk) (by decide) (by decide) e)
  have l5 : LstAt (w5.setCell ⟨g, i * 2, none⟩ v') b1 b2 m D.names := by
    obtain ⟨D1, D2, hLL, hRR⟩ := h.l
    obtain ⟨es1, ck1, k1, k2⟩ := hLL.o1
    obtain ⟨es2, ck2, j1, j2⟩ := hLL.o2
    have nm : ∀ {b : Nat} {es : Array MapEntry} {ck : Nat}, W.heap[b]? = some (.map es ck) → ¬ (x.ownBlock = some b ∨ b = g) := fun hm e => by
      rcases S _ e with ⟨_, _, e2⟩ | ⟨_, _, e2⟩ <;> (rw [hm] at e2; cases e2)
    exact ⟨D1, D2, ⟨⟨es1, ck1, (f.block b1 hLL.o1.lt (nm k1)).trans k1, k2⟩, ⟨es2, ck2, (f.block b2 hLL.o2.lt (nm j1)).trans j1, j2⟩, hLL.ne⟩, hRR⟩
  refine ⟨⟨bx, hn, l5, k5, p5, h.lb, h.lo⟩, KepI.fr f (fun k e => ⟨?_, fun t ht => ?_⟩) hb⟩
  · rcases e with e | rfl
    · exact (own_ge p1 e).1
    · exact (own_ge h.n.row rfl).1
  · rcases S k e with e2 | e2
    · exact .inr (.inl (ht.ne e2))
    · exact .inl (ht.ne e2)
def addR (D : MDisk) (n : Int) (data : List Nat) : MDisk × Int := if D.quota < (usedOf D.nodes D.names : Int) + (data.length : Int) then (D, 5) else if 40000 < (ndAt D n).1.length + data.length ∨ 200000 < sumN D.nodes + data.length then (D, 6) else (putD D n ((ndAt D n).1 ++ data, (ndAt D n).2), 0)
end Go.Proofs.YtpccongphchagaaGreatDoor
namespace Go.Proofs.YtpccongphchagaaGreatDoor
open Go.RowKit
set_option linter.unusedVariables false
theorem run_enterUs (v : Value) (w : World) : (callFunc 86 #[v]).run Tryz.prog w = .ok (.enter 86 #[v]) w := by
  kernel_rfl
theorem add_fin {base : Nat} {W w5 : World} {o b1 b2 m g n cap i : Nat} {v3 v4 x v' : Value} {y : Int} {l : List Nat} {vs : List (Value × Value)} {D : MDisk} (h : Drv base W o b1 b2 m (.slice (some ⟨g, 0, none⟩) n cap) v3 v4 vs D) (hi : i < D.nodes.length) (hx : vs[i]? = some (x, .int .i64 y)) (ho : OwnB w5 base v' l) (hg : W.grownBy w5 x.ownBlock) (hat : v'.ownBlock = x.ownBlock ∨ v'.ownBlock = some W.heap.size ∨ v'.ownBlock = none) (hb : base ≤ W.heap.size) :
    Drv base (w5.setCell ⟨g, i * 2, none⟩ v') o b1 b2 m (.slice (some ⟨g, 0, none⟩) n cap) v3 v4 (vs.set i (v', .int .i64 y)) ⟨D.nodes.set i (l, D.nodes[i].2), D.names, D.kept, D.pend, D.quota⟩ ∧ KepI base W (w5.setCell ⟨g, i * 2, none⟩ v') ∧ w5.cell? ⟨g, i * 2, none⟩ = some x ∧ w5.frozen? ⟨g, i * 2, none⟩ = false := by
  obtain ⟨h1, h2⟩ := drv_put h hi hx ho hg hat hb
  obtain ⟨x0, hx0, p1⟩ := h.n.body i hi
  obtain rfl : x = x0 := by rw [hx] at hx0; simp only [Option.some.injEq, Prod.mk.injEq] at hx0; exact hx0.1
  have hrow := World.ownsRow.kept h.n.row hg (owns_away h.n.row p1 (by decide))
  obtain ⟨hl2, hx2⟩ := List.getElem?_eq_some_iff.1 hx
  have hc := (Own2.cells hrow i hl2).1
  rw [hx2] at hc
  exact ⟨h1, h2, hc, Own2.frozen hrow _⟩
set_option maxRecDepth 20000 in
set_option maxHeartbeats 2000000 in
theorem add_any (base o b1 b2 m : Nat) (v1 v3 v4 : Value) (vs : List (Value × Value)) (D : MDisk) (nm : ByteArray) (ad : Option Addr) (data : List Nat) (cd k : Nat) (w : World) (hbase : base ≤ w.heap.size) (hW : Wkd D) (hs1 : nm.size ≤ 1048576) (hdl : data.length ≤ 1048576) (hk : k < D.nodes.length) (hin : nodeIn D.names nm = some (k : Int)) (hrow : RowAt w ad data) (hd : Drv base w o b1 b2 m v1 v3 v4 vs D) :
    Calls Tryz.prog 72 #[.pointer (some ⟨o, 0, none⟩), .string nm, .slice ad data.length cd] w (DrAny base o m w (addR D (k : Int) data)) := by
  obtain ⟨a1, c1, rfl⟩ := hd.n.slice
  obtain ⟨g, rfl, hgb, -, -⟩ := hd.n.cells (by omega)
  have q5 : w.cell? ⟨o, 5, none⟩ = some (.int .i64 D.quota) := hd.box.cell 5
  have hub := used_le _ _ hW.fine.ap hW.fine.nd
  have hsm := hW.sum
  have hnn := hW.nn
  have hq0 := hW.q0
  have hq1 := hW.q1
  have hndl := hW.data _ (List.getElem_mem hk)
  have HD := hide hd
  have HW := hide hW
  have HIN := hide hin
  have HRW := hide hrow
  have USE := hide (fun W' (e1 : W'.heap = w.heap) (e2 : W'.os = w.os) (e3 : W'.tape = w.tape) (e4 : W'.output = w.output) => like_calls (X := w) (used_any base o b1 b2 m _ v3 v4 vs D W' hW (hd.below (like_below e1 e2 e3 e4))) e1 e2 e3 e4)
  have hnda : ndAt D (k : Int) = D.nodes[k] := by
    unfold ndAt
    simp [List.getD_eq_getElem?_getD, List.getElem?_eq_getElem hk]
  have HR0 := hide (show addR D (k : Int) data = (if D.quota < (usedOf D.nodes D.names : Int) + (data.length : Int) then (D, 5) else if 40000 < (D.nodes[k]).1.length + data.length ∨ 200000 < sumN D.nodes + data.length then (D, 6) else (putD D (k : Int) ((D.nodes[k]).1 ++ data, (D.nodes[k]).2), 0)) from by unfold addR; rw [hnda])
  clear hd hW hin hrow hnda
  generalize hus : usedOf D.nodes D.names = us at hub HR0 USE
  have hwq : IntKind.i64.wrap (D.quota - (us : Int)) = D.quota - (us : Int) := by have h := wrap_i64_ediv (D.quota - (us : Int)) 1 (by omega) (by omega) (by omega); simpa using h
  clear hus
  by_cases hsp : D.quota < (us : Int) + (data.length : Int)
  · have HR := hide (HR0.out.trans (if_pos hsp))
    have hspd : decide (D.quota - (us : Int) < (data.length : Int)) = true := decide_eq_true (by omega)
    go_enter Tryz.func72, Tryz.ntmps72
    go_upto_region 1 with fail
    go_cut [17] (fun s wx => s = .bool true ∧ Below w.heap.size w wx)
    case first =>
      go_region_law (first
        | (refine step_call_one 86 run_enterUs (.tmp 14) #[59] (by rfl) (by rfl) (.pointer (some ⟨o, 0, none⟩)) (by simp [go_sem]) ?_; refine (USE.out _ (by rfl) (by rfl) (by rfl) (by rfl)).mono ?_; rintro e w6 ⟨rfl, hb6⟩; have HB6 := hide hb6; have u5 : w6.cell? ⟨o, 5, none⟩ = some (.int .i64 D.quota) := (HD.out.below hb6).box.cell 5; clear hb6; refine ⟨_, rfl, ?_⟩)
        | fail)
      all_goals
        go_wp2_with fail
        go_meet
        case rel => exact ⟨by first | rfl | simp [*], HB6.out⟩
    case rest =>
      obtain ⟨rfl, hbc⟩ := hcut
      have HBC := hide hbc
      clear hbc
      go_wp2
      go_ret
      exact (dr_same HR.out rfl HD.out HBC.out hbase).some
  have HR1 := hide (HR0.out.trans (if_neg hsp))
  have hspd : decide (D.quota - (us : Int) < (data.length : Int)) = false := decide_eq_false (by omega)
  go_enter Tryz.func72, Tryz.ntmps72
  go_upto_region 1 with fail
  go_cut [17] (fun s wx => s = .bool false ∧ Below w.heap.size w wx)
  case first =>
    go_region_law (first
      | (refine step_call_one 86 run_enterUs (.tmp 14) #[59] (by rfl) (by rfl) (.pointer (some ⟨o, 0, none⟩)) (by simp [go_sem]) ?_; refine (USE.out _ (by rfl) (by rfl) (by rfl) (by rfl)).mono ?_; rintro e w6 ⟨rfl, hb6⟩; have HB6 := hide hb6; have u5 : w6.cell? ⟨o, 5, none⟩ = some (.int .i64 D.quota) := (HD.out.below hb6).box.cell 5; clear hb6; refine ⟨_, rfl, ?_⟩)
      | fail)
    all_goals
      go_wp2_with fail
      go_meet
      case rel => exact ⟨by first | rfl | simp [*], HB6.out⟩
  case rest =>
    obtain ⟨rfl, hbc⟩ := hcut
    have HBC := hide hbc
    have NODE := hide (node_any base o b1 b2 m _ v3 v4 vs D nm k g c1 wc hs1 hnn hk HIN.out rfl (HD.out.below hbc))
    clear hbc q5 USE hwq hspd hsp
    go_wp2_with fail
    refine NODE.out.mono ?_
    rintro e w2 ⟨rfl, hb2⟩
    have hbw2 := HBC.out.trans (hb2.mono HBC.out.size)
    have d2 := HD.out.below hbw2
    obtain ⟨g', eg, -, hfz, hcs⟩ := d2.n.cells (by omega)
    simp only [Option.some.injEq, Addr.mk.injEq, and_true] at eg
    subst eg
    obtain ⟨ai, ci, hvi, x2, -, hob⟩ := hcs k hk
    have p0 : w2.cell? ⟨o, 0, none⟩ = some (.slice (some ⟨g, 0, none⟩) D.nodes.length c1) := d2.box.cell 0
    have SUM := hide (bytesOf_any (some ⟨g, 0, none⟩) c1 D.nodes w2 (by omega) (by omega) d2.n.own.at)
    have HD2 := hide d2
    have HB2 := hide hbw2
    have HVI := hide hvi
    clear hb2 hbw2 d2 hfz hcs hvi hob NODE
    generalize hsn : sumN D.nodes = sm at hub hsm HR1 SUM
    generalize hdd : D.nodes[k].1 = dd at x2 hndl HVI HR1
    have HDD := hide hdd
    clear hsn hdd
    by_cases hf1 : 40000 < dd.length + data.length
    · have HR := hide (HR1.out.trans (if_pos (.inl hf1)))
      go_wp2
      go_ret
      exact (dr_same HR.out rfl HD.out HB2.out hbase).some
    go_wp2_with fail
    refine SUM.out.mono ?_
    rintro e w3 ⟨rfl, hb3⟩
    have HB3 := hide (HB2.out.trans (hb3.mono HB2.out.size))
    by_cases hf2 : 200000 < sm + data.length
    · have HR := hide (HR1.out.trans (if_pos (.inr hf2)))
      clear hb3
      go_wp2
      go_ret
      exact (dr_same HR.out rfl HD.out HB3.out hbase).some
    have HR := hide (HR1.out.trans (if_neg (fun h => h.elim hf1 hf2)))
    have d3 := HD2.out.below hb3
    have hbs : base ≤ w3.heap.size := Nat.le_trans hbase HB3.out.size
    obtain ⟨x0, hx0, hob0⟩ := d3.n.body k hk
    have hxe : x0 = .slice ai dd.length ci := by
      have h1 := HVI.out
      rw [hx0] at h1
      simpa using h1
    subst hxe
    have HX := hide hx0
    rw [HDD.out] at hob0
    have HOB := hide hob0
    have HRO := hide (HRW.out.below HB3.out)
    have y2 : w3.cell? ⟨g, k * 2, none⟩ = some (.slice ai dd.length ci) := (hb3.cell (p := ⟨g, k * 2, none⟩) (lt_of_cell0 x2)).trans x2
    have hsl : dd.length + data.length ≤ 1099511627776 := by omega
    have HD3 := hide d3
    have HK3 := hide (KepI.of_below HB3.out hbase)
    have FIN := hide (fun (v5 : Value) (w5 : World) (h5 : OwnB w5 base v5 (dd ++ data)) (hg : w3.grownBy w5 (Value.slice ai dd.length ci).ownBlock) (hat : v5.ownBlock = (Value.slice ai dd.length ci).ownBlock ∨ v5.ownBlock = some w3.heap.size) => add_fin HD3.out hk HX.out h5 hg (hat.elim .inl (fun e => .inr (.inl e))) hbs)
    clear hb3 d3 hx0 hob0 SUM
    go_wp2_with (at_builtin; (refine wpList_append_blk _ rfl (.tmp 47) (.tmp 48) rfl base (.slice ai dd.length ci) dd data rfl ?_ ad cd rfl ?_ hsl ?_ ?_; (exact HOB.out); (exact HRO.out); (exact hbs); intro v5 w5 h5 hg5 hat5; obtain ⟨a5, c5, rfl⟩ := OwnB.slice h5; have hfn := FIN.out _ w5 h5 hg5 hat5; rw [show (dd ++ data).length = dd.length + data.length from List.length_append] at hfn ⊢; have z2 := hfn.2.2.1; have zf := hfn.2.2.2; have HFN := hide hfn; clear hfn h5 hg5 hat5))
    go_ret
    rw [HR.out]
    exact ⟨b1, b2, m, _, v3, v4, _, rfl, HFN.out.1, HK3.out.trans HFN.out.2.1, by omega⟩
end Go.Proofs.YtpccongphchagaaGreatDoor
namespace Go.Proofs.YtpccongphchagaaGreatDoor
open Go.RowKit
set_option linter.unusedVariables false
/-- A node's Safe is put. -/
theorem drv_safe {base : Nat} {W : World} {o b1 b2 m g n cap i : Nat} {v3 v4 : Value} {z : Int} {vs : List (Value × Value)} {D : MDisk} (h : Drv base W o b1 b2 m (.slice (some ⟨g, 0, none⟩) n cap) v3 v4 vs D) (hi : i < D.nodes.length) (hb : base ≤ W.heap.size) :
    ∃ vs', Drv base (W.setCell ⟨g, i * 2 + 1, none⟩ (.int .i64 z)) o b1 b2 m (.slice (some ⟨g, 0, none⟩) n cap) v3 v4 vs' ⟨D.nodes.set i (D.nodes[i].1, z), D.names, D.kept, D.pend, D.quota⟩ ∧ KepI base W (W.setCell ⟨g, i * 2 + 1, none⟩ (.int .i64 z)) := by
  obtain ⟨vs', _, hn, hg⟩ := h.n.safe (z := z) hi
  have f : Fr (fun k => k = g) W (W.setCell ⟨g, i * 2 + 1, none⟩ (.int .i64 z)) := (Fr.refl _ _).set rfl
  have Kg : KindAt W g 49 := own_kind h.n.row rfl
  have nk : ∀ {k t : Nat}, KindAt W k t → t ≠ 49 → ¬ k = g := fun hk hN e => by subst e; exact hN (hk.ne Kg)
  have bx := (f.block _ h.box.lt (nk h.box.kind (by decide))).trans h.box
  have k5 : OwnE (W.setCell ⟨g, i * 2 + 1, none⟩ (.int .i64 z)) base v3 D.kept := owns_fr h.k f (fun k hk e => nk (own_kind h.k hk) (by decide) e)
  have p5 : OwnO (W.setCell ⟨g, i * 2 + 1, none⟩ (.int .i64 z)) base v4 D.pend := owns_fr h.p f (fun k hk e => nk (own_kind h.p hk) (by decide) e)
  have l5 : LstAt (W.setCell ⟨g, i * 2 + 1, none⟩ (.int .i64 z)) b1 b2 m D.names := by
    obtain ⟨D1, D2, hLL, hRR⟩ := h.l
    obtain ⟨es1, ck1, k1, k2⟩ := hLL.o1
    obtain ⟨es2, ck2, j1, j2⟩ := hLL.o2
    have nm : ∀ {b : Nat} {es : Array MapEntry} {ck : Nat}, W.heap[b]? = some (.map es ck) → ¬ b = g := fun hm e => by
      subst e
      obtain ⟨_, _, e2⟩ := Kg
      rw [hm] at e2; cases e2
    exact ⟨D1, D2, ⟨⟨es1, ck1, (f.block b1 hLL.o1.lt (nm k1)).trans k1, k2⟩, ⟨es2, ck2, (f.block b2 hLL.o2.lt (nm j1)).trans j1, j2⟩, hLL.ne⟩, hRR⟩
  refine ⟨vs', ⟨bx, hn, l5, k5, p5, h.lb, h.lo⟩, KepI.fr f (fun k e => ⟨?_, fun t ht => ?_⟩) hb⟩
  · subst e; exact (own_ge h.n.row rfl).1
  · subst e; exact .inl (ht.ne Kg)
end Go.Proofs.YtpccongphchagaaGreatDoor
namespace Go.Proofs.YtpccongphchagaaGreatDoor
open Go.RowKit
set_option linter.unusedVariables false
/-- An entry's number is put. -/
theorem OwnE.putNode {w : World} {base g n cap i : Nat} {z : Int} {es : List EN} (h : OwnE w base (.slice (some ⟨g, 0, none⟩) n cap) es) (hi : i < es.length) :
    OwnE (w.setCell ⟨g, i * 2 + 1, none⟩ (.int .i64 z)) base (.slice (some ⟨g, 0, none⟩) n cap) (es.set i (es[i].1, z)) ∧ w.grownBy (w.setCell ⟨g, i * 2 + 1, none⟩ (.int .i64 z)) (some g) := by
  have h0 : Own2 w base 37 (.slice (some ⟨g, 0, none⟩) n cap) (es.map entP) := h
  have hn := own_n h0
  subst hn
  have s1 := World.ownsRow.stored h0 (i * 2 + 1) (.int .i64 z)
  refine ⟨?_, s1.2⟩
  have hiv : i < (es.map entP).length := by simpa using hi
  unfold OwnE Own2
  have e : (es.set i (es[i].1, z)).map entP = (es.map entP).set i ((es.map entP)[i].1, .int .i64 z) := by
    rw [List.map_set]
    simp [entP]
  rw [e, List.length_set, ← two_put _ i _ hiv]
  exact s1.1
theorem OwnE.cells {w : World} {base : Nat} {a : Option Addr} {n cap : Nat} {es : List EN} (h : OwnE w base (.slice a n cap) es) (hp : 0 < es.length) :
    ∃ g, a = some ⟨g, 0, none⟩ ∧ base ≤ g ∧ (∀ o, w.frozen? ⟨g, o, none⟩ = false) ∧ KindAt w g 37 ∧ ∀ i (hi : i < es.length), w.cell? ⟨g, i * 2, none⟩ = some (.string es[i].1) ∧ w.cell? ⟨g, i * 2 + 1, none⟩ = some (.int .i64 es[i].2) := by
  have h0 : Own2 w base 37 (.slice a n cap) (es.map entP) := h
  rcases h0.2 with ⟨_, hn⟩ | ⟨g, c, cur, hv, hlo, hg, hcs⟩
  · rw [List.length_map] at hn; omega
  · obtain ⟨rfl, rfl, rfl⟩ : a = some ⟨g, 0, none⟩ ∧ n = (es.map entP).length ∧ cap = c := by simpa using hv
    refine ⟨g, rfl, hlo, fun o => Own2.frozen h0 o, ⟨_, _, hg⟩, fun i hi => ?_⟩
    obtain ⟨c0, c1⟩ := Own2.cells h0 i (by simpa using hi)
    simp [entP] at c0 c1
    exact ⟨c0, c1⟩
end Go.Proofs.YtpccongphchagaaGreatDoor
