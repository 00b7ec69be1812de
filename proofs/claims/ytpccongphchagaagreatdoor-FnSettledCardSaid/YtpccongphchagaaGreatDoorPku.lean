import Derived.Test.YtpccongphchagaaGreatDoorPkt
import Derived.Laws.ResultCell
namespace Go.Proofs.YtpccongphchagaaGreatDoor
open Go.RowKit
theorem bytes_w (a : Option Addr) (cap : Nat) (l : List Nat) (w : World) (hl : l.length ≤ 1048576) (hr : RowAt w a l) :
    Calls Tryz.prog 47 #[.slice a l.length cap] w fun e w' => ∃ v, e = .returned v ∧ OwnB w' w.heap.size v l ∧ Below w.heap.size w w' :=
  (l1Bytes_any a cap l w hl hr).mono fun _ _ ⟨h1, h2, h3⟩ => ⟨_, h1, h2, h3⟩
/-- What holds behind the copy of a row and the new node, in whatever order the statement was gone through. -/
structure NdOk (W0 Y : World) (lo g : Nat) (z : Int) (v1 u : Value) (vs : List (Value × Value)) (N : List NdM) (R : List Nat) : Prop where
  n : OwnNA Y lo v1 vs N
  c0 : Y.cell? ⟨g, 0, none⟩ = some u
  c1 : Y.cell? ⟨g, 1, none⟩ = some (.int .i64 z)
  ow : OwnB Y lo u R
  sz : lo ≤ Y.heap.size
  bel : Below W0.heap.size W0 Y
theorem like_below {W0 W : World} (e1 : W.heap = W0.heap) (e2 : W.os = W0.os) (e3 : W.tape = W0.tape) (e4 : W.output = W0.output) : Below W0.heap.size W0 W := ⟨e2, e3, e4, by rw [e1]; exact Nat.le_refl _, fun k _ => by rw [e1]⟩
theorem OwnNA.below {w w' : World} {base : Nat} {v : Value} {vs : List (Value × Value)} {ns : List NdM} (h : OwnNA w base v vs ns) (hb : Below w.heap.size w w') : OwnNA w' base v vs ns := h.fr (S := fun _ => False) (Fr.of_below hb) (fun _ _ => id)
/-- A copy of a row, and a new node of it. -/
theorem nd_call (f : FuncId) (hf : ∀ (a : Option Addr) (cap : Nat) (l : List Nat) (w : World), l.length ≤ 1048576 → RowAt w a l → Calls Tryz.prog f #[.slice a l.length cap] w fun e w' => ∃ v, e = .returned v ∧ OwnB w' w.heap.size v l ∧ Below w.heap.size w w')
    {W0 : World} {lo : Nat} {v1 : Value} {vs : List (Value × Value)} {N : List NdM} {R : List Nat} {a : Option Addr} (z : Int) (hN : OwnNA W0 lo v1 vs N) (hlo : lo ≤ W0.heap.size) (jr : RowAt W0 a R) (n cap : Nat) (hn : n = R.length) (hR : R.length ≤ 1048576) :
    ∀ W : World, W.heap = W0.heap → W.os = W0.os → W.tape = W0.tape → W.output = W0.output → Calls Tryz.prog f #[.slice a n cap] W fun e w2 => ∃ a2 c2, e = .returned (.slice a2 R.length c2) ∧ (∀ y ∈ vs.map (·.1), awayV y (.slice a2 R.length c2)) ∧
      (∀ Y : World, Y.heap = (w2.alloc (.cells #[.slice a2 R.length c2, .int .i64 z] 49)).heap → Y.os = w2.os → Y.tape = w2.tape → Y.output = w2.output → NdOk W0 Y lo w2.heap.size z v1 (.slice a2 R.length c2) vs N R) ∧ (∀ p : Addr, p.block < W0.heap.size → w2.cell? p = W0.cell? p) := by
  intro W e1 e2 e3 e4
  subst hn
  have h0 := like_below e1 e2 e3 e4
  have hz : W.heap.size = W0.heap.size := by rw [e1]
  refine (hf a cap R W hR (jr.below h0)).mono ?_
  rintro e w2 ⟨v2', rfl, ho2, hb2⟩
  obtain ⟨a2, c2, rfl⟩ := ho2.slice
  rw [hz] at ho2 hb2
  have hb : Below W0.heap.size W0 w2 := h0.trans hb2
  refine ⟨a2, c2, rfl, fun y hy => ?_, fun Y y1 y2 y3 y4 => ?_, fun p hp => hb.cell hp⟩
  · cases hby : y.ownBlock with
    | none => exact .inl hby
    | some g =>
      refine .inr fun e => ?_
      have h1 := (hN.lo (.inr ⟨y, hy, hby⟩)).2
      rw [hby] at e
      have h2 := (own_ge ho2 e.symm).1
      omega
  · have hal := (Below.refl w2.heap.size w2).alloc (Nat.le_refl _) (.cells #[.slice a2 R.length c2, .int .i64 z] 49)
    have hbw : Below w2.heap.size w2 Y := ⟨y2, y3, y4, by rw [y1]; exact hal.size, fun k hk => by rw [y1]; exact hal.block k hk⟩
    have hbY : Below W0.heap.size W0 Y := hb.trans (hbw.mono hb.size)
    have hL : Laid Y w2.heap.size #[.slice a2 R.length c2, .int .i64 z] 49 := by
      have h := Laid.new w2 #[.slice a2 R.length c2, .int .i64 z] 49
      unfold Laid at h ⊢
      rw [y1]; exact h
    exact ⟨hN.below hbY, hL.cell 0, hL.cell 1, OwnB.mono (OwnB.below ho2 hbw (Nat.le_refl _)) hlo, Nat.le_trans hlo hbY.size, hbY⟩
theorem nd_next {W0 w2 Y w3 : World} {lo o t : Nat} {z : Int} {v1 u v' x2 : Value} {vs : List (Value × Value)} {N : List NdM} {R : List Nat} {cs : Array Value} (h : ∀ Y : World, Y.heap = (w2.alloc (.cells #[u, .int .i64 z] 49)).heap → Y.os = w2.os → Y.tape = w2.tape → Y.output = w2.output → NdOk W0 Y lo w2.heap.size z v1 u vs N R) (hL : Laid W0 o cs t) (ht : t ≠ 49) (hx : cs[0]? = some x2)
    (ho : OwnNA w3 lo v' (vs ++ [(u, .int .i64 z)]) (N ++ [(R, z)])) (hg : Y.grownBy w3 v1.ownBlock) (y1 : Y.heap = (w2.alloc (.cells #[u, .int .i64 z] 49)).heap := by rfl) (y2 : Y.os = w2.os := by rfl) (y3 : Y.tape = w2.tape := by rfl) (y4 : Y.output = w2.output := by rfl) :
    Fr (fun g => v1.ownBlock = some g) W0 w3 ∧ Laid w3 o cs t ∧ w3.cell? ⟨o, 0, none⟩ = some x2 ∧ w3.frozen? ⟨o, 0, none⟩ = false ∧ OwnNA w3 lo v' (vs ++ [(u, .int .i64 z)]) (N ++ [(R, z)]) := by
  have k := h Y y1 y2 y3 y4
  have hLY := hL.below k.bel hL.lt
  have hne : some o ≠ v1.ownBlock := fun e => ht (hLY.kind.ne (own_kind k.n.row e.symm))
  have hL3 : Laid w3 o cs t := (hg.block o hLY.lt hne).trans hLY
  exact ⟨(Fr.of_below k.bel).trans (Fr.of_grown hg (fun k e => e)), hL3, (hL3.cell 0).trans hx, frozen_of_row w3 o 0 _ _ hL3, ho⟩
end Go.Proofs.YtpccongphchagaaGreatDoor
namespace Go.Proofs.YtpccongphchagaaGreatDoor
open Go.RowKit
/-- Behind the append to Pend. -/
theorem dir_next {w W w5 : World} {base : Nat} {a1 a2 a3 a4 a5 : Option Addr} {c1 c2 c3 c4 c5 : Nat} {v5 : Value} {A B C : Array Value} {D : MDisk} {l : List EN} {x : DO} {tB : TypeId} (HD : ∀ w', Below w.heap.size w w' → Dk w' base (.slice a1 D.nodes.length c1) (.slice a2 D.names.length c2) (.slice a3 D.kept.length c3) (.slice a4 D.pend.length c4) D)
    (hb : Below w.heap.size w (W.alloc (.cells B tB))) (L1 : Laid W w.heap.size A 27) (L3 : Laid W (w.heap.size + 1 + 1) C 27) (K5 : OwnE W base (.slice a5 l.length c5) l)
    (hp : ∀ g, (Value.slice a4 D.pend.length c4).ownBlock = some g → g < w.heap.size) (hlo : ∀ g, (Value.slice a4 D.pend.length c4).ownBlock = some g → base ≤ g) (hbase : base ≤ w.heap.size)
    (ho : OwnO w5 base v5 (D.pend ++ [x])) (hg : (W.alloc (.cells B tB)).grownBy w5 (Value.slice a4 D.pend.length c4).ownBlock) :
    Dk w5 base (.slice a1 D.nodes.length c1) (.slice a5 l.length c5) (.slice a3 D.kept.length c3) v5 ⟨D.nodes, l, D.kept, D.pend ++ [x], D.quota⟩ ∧ Kep base w w5 ∧ Laid w5 w.heap.size A 27 ∧ Laid w5 (w.heap.size + 1 + 1) C 27 := by
  have hal := (Below.refl W.heap.size W).alloc (Nat.le_refl _) (.cells B tB)
  have dk := HD _ hb
  have dk' : Dk (W.alloc (.cells B tB)) base (.slice a1 D.nodes.length c1) (.slice a5 l.length c5) (.slice a3 D.kept.length c3) (.slice a4 D.pend.length c4) ⟨D.nodes, l, D.kept, D.pend, D.quota⟩ := ⟨dk.n, K5.below hal, dk.k, dk.p⟩
  have k1 : Laid (W.alloc (.cells B tB)) w.heap.size A 27 := L1.below hal L1.lt
  have k3 : Laid (W.alloc (.cells B tB)) (w.heap.size + 1 + 1) C 27 := L3.below hal L3.lt
  exact ⟨dk'.pend ho hg, (Kep.of_below hb hbase).grown hg (Nat.le_trans hbase hb.size) (fun k e => ⟨hlo k e, own_kind dk.p e⟩) (.inr rfl), (hg.block _ k1.lt (fun e => by have := hp _ e.symm; omega)).trans k1, (hg.block _ k3.lt (fun e => by have := hp _ e.symm; omega)).trans k3⟩
set_option maxRecDepth 20000 in
set_option maxHeartbeats 1000000 in
theorem l1Dir_any (base : Nat) (v1 v2 v3 v4 : Value) (D : MDisk) (kd : Int) (nm tn : ByteArray) (nd : Int) (l : List EN) (w : World) (hbase : base ≤ w.heap.size) (hn : D.names.length ≤ 1048573) (hp : D.pend.length ≤ 1048575) (hs1 : nm.size ≤ 1048576) (hs2 : tn.size ≤ 1048576) (hr : repE (D.nodes.length : Int) D.names (kd, nm, tn, nd) = some l) (hd : Dk w base v1 v2 v3 v4 D) :
    Calls Tryz.prog 50 #[.agg #[v1, v2, v3, v4, .int .i64 D.quota], .agg #[.int .i64 kd, .string nm, .string tn, .int .i64 nd]] w fun e w' => ∃ v1' v2' v3' v4', e = .returned (.agg #[v1', v2', v3', v4', .int .i64 D.quota]) ∧ Dk w' base v1' v2' v3' v4' (dirD D (kd, nm, tn, nd)) ∧ Kep base w w' := by
  obtain ⟨a1, c1, rfl⟩ := hd.n.slice
  obtain ⟨a2, c2, rfl⟩ := hd.e.slice
  obtain ⟨a3, c3, rfl⟩ := hd.k.slice
  obtain ⟨a4, c4, rfl⟩ := hd.p.slice
  obtain ⟨L1, L2, L3, hA, hz⟩ := boxes3 w #[.slice a1 D.nodes.length c1, .slice a2 D.names.length c2, .slice a3 D.kept.length c3, .slice a4 D.pend.length c4, .int .i64 D.quota] #[.int .i64 kd, .string nm, .string tn, .int .i64 nd] #[.slice none 0 0, .slice none 0 0, .slice none 0 0, .slice none 0 0, .int .i64 0] 27 68 27
  have HD := hide (fun w' (hb : Below w.heap.size w w') => hd.below hb)
  have RE := hide (fun W (hb : Below w.heap.size w W) => l1Replay_any a2 c2 D.names kd nm tn nd (D.nodes.length : Int) W hn hs1 hs2 (hd.e.below hb).at)
  have HR := hide hr
  rw [hr] at RE
  clear hd hr
  go_enter Tryz.func50, Tryz.ntmps50
  go_wp2_with fail
  generalize ((w.alloc (.cells #[.slice a1 D.nodes.length c1, .slice a2 D.names.length c2, .slice a3 D.kept.length c3, .slice a4 D.pend.length c4, .int .i64 D.quota] 27)).alloc (.cells #[.int .i64 kd, .string nm, .string tn, .int .i64 nd] 68)).alloc (.cells #[.slice none 0 0, .slice none 0 0, .slice none 0 0, .slice none 0 0, .int .i64 0] 27) = W0 at L1 L2 L3 hA hz ⊢
  refine (RE.out W0 hA).mono ?_
  rintro e w1 ⟨a5, c5, rfl, ho5, hb5⟩
  have M1 := L1.below hb5 L1.lt
  have M2 := L2.below hb5 L2.lt
  have M3 := L3.below hb5 L3.lt
  have hA1 := hA.trans (hb5.mono hA.size)
  have hz1 : w.heap.size + 3 ≤ w1.heap.size := by have := hb5.size; omega
  have hp4 : ∀ g, (Value.slice a4 D.pend.length c4).ownBlock = some g → g < w.heap.size := fun g hg => (own_ge (HD.out w (Below.refl _ _)).p hg).2
  have b4 : ∀ g, (Value.slice a4 D.pend.length c4).ownBlock = some g → base ≤ g := fun g hg => (own_ge (HD.out w (Below.refl _ _)).p hg).1
  have e5 : OwnE w1 base (.slice a5 l.length c5) l := OwnE.mono ho5 (by omega)
  have hX1 : Below w.heap.size w (w1.setCell ⟨w.heap.size, 1, none⟩ (.slice a5 l.length c5)) := hA1.setCell (by simp) _
  have hX2 : Below w.heap.size w ((w1.setCell ⟨w.heap.size, 1, none⟩ (.slice a5 l.length c5)).alloc (.cells #[.int .i64 kd, .string nm, .string tn, .int .i64 nd] 68)) := hX1.alloc (by simp; omega) _
  have N1 := M1.set 1 (.slice a5 l.length c5)
  have N3 := M3.other (p := ⟨w.heap.size, 1, none⟩) (by simp; omega) (.slice a5 l.length c5)
  have k5 : OwnE (w1.setCell ⟨w.heap.size, 1, none⟩ (.slice a5 l.length c5)) base (.slice a5 l.length c5) l := own_frk e5 (S := fun g => g = w.heap.size) ((Fr.refl _ _).set rfl) (fun g hg => by obtain rfl : g = w.heap.size := hg; exact ⟨_, M1.kind, by decide⟩)
  have q0 : w1.cell? ⟨w.heap.size, 0, none⟩ = some (.slice a1 D.nodes.length c1) := M1.cell 0
  have q1 : w1.cell? ⟨w.heap.size, 1, none⟩ = some (.slice a2 D.names.length c2) := M1.cell 1
  have q2 : w1.cell? ⟨w.heap.size, 2, none⟩ = some (.slice a3 D.kept.length c3) := M1.cell 2
  have q3 : w1.cell? ⟨w.heap.size, 3, none⟩ = some (.slice a4 D.pend.length c4) := M1.cell 3
  have q4 : w1.cell? ⟨w.heap.size, 4, none⟩ = some (.int .i64 D.quota) := M1.cell 4
  have o0 : w1.cell? ⟨w.heap.size + 1, 0, none⟩ = some (.int .i64 kd) := M2.cell 0
  have o1 : w1.cell? ⟨w.heap.size + 1, 1, none⟩ = some (.string nm) := M2.cell 1
  have o2 : w1.cell? ⟨w.heap.size + 1, 2, none⟩ = some (.string tn) := M2.cell 2
  have o3 : w1.cell? ⟨w.heap.size + 1, 3, none⟩ = some (.int .i64 nd) := M2.cell 3
  have f1 := frozen_of_row w1 w.heap.size 1 _ _ M1
  have HX2 := hide hX2
  have HN1 := hide N1
  have HN3 := hide N3
  have HK5 := hide k5
  have HP4 := hide hp4
  have HB4 := hide b4
  clear hX1 hX2 N1 N3 k5 hp4 b4 e5 ho5 hb5 M1 M2 M3 L1 L2 L3 hA hA1 RE
  have hat : OpAt ((w1.setCell ⟨w.heap.size, 1, none⟩ (.slice a5 l.length c5)).alloc (.cells #[.int .i64 kd, .string nm, .string tn, .int .i64 nd] 68)) (some ⟨w1.heap.size, 0, none⟩) [(kd, nm, tn, nd)] := by
    have hL := Laid.new (w1.setCell ⟨w.heap.size, 1, none⟩ (.slice a5 l.length c5)) #[.int .i64 kd, .string nm, .string tn, .int .i64 nd] 68
    rw [World.size_setCell] at hL
    refine fun _ => ⟨w1.heap.size, 0, rfl, fun i hi => ?_⟩
    obtain rfl : i = 0 := by simpa using hi
    exact ⟨hL.cell 0, hL.cell 1, hL.cell 2, hL.cell 3⟩
  have HAT := hide hat
  have hsz : base ≤ ((w1.setCell ⟨w.heap.size, 1, none⟩ (.slice a5 l.length c5)).alloc (.cells #[.int .i64 kd, .string nm, .string tn, .int .i64 nd] 68)).heap.size := by simp; omega
  have HSZ := hide hsz
  clear hat hsz
  go_wp2_with (at_builtin; go_loud (refine wpList_append_dirs _ rfl (.tmp 20) (.tmp 22) rfl base (.slice a4 D.pend.length c4) D.pend [(kd, nm, tn, nd)] rfl ?_ (some ⟨w1.heap.size, 0, none⟩) 1 rfl ?_ ?_ ?_ ?_; (exact (HD.out _ HX2.out).p); (exact HAT.out); (simp; omega); (exact HSZ.out); intro v5 w5 ho5 hg5; obtain ⟨a6, c6, rfl⟩ := ho5.slice; have hdk := dir_next HD.out HX2.out HN1.out HN3.out HK5.out HP4.out HB4.out hbase ho5 hg5; have HDK := hide hdk.1; rw [show (D.pend ++ [(kd, nm, tn, nd)]).length = D.pend.length + 1 from by simp] at HDK; have HBW := hide hdk.2.1; have T1 := hdk.2.2.1; have T3 := hdk.2.2.2; have HT1 := hide T1; have HT3 := hide T3; have t0 : w5.cell? ⟨w.heap.size, 0, none⟩ = some (.slice a1 D.nodes.length c1) := T1.cell 0; have t1 : w5.cell? ⟨w.heap.size, 1, none⟩ = some (.slice a5 l.length c5) := T1.cell 1; have t2 : w5.cell? ⟨w.heap.size, 2, none⟩ = some (.slice a3 D.kept.length c3) := T1.cell 2; have t3 : w5.cell? ⟨w.heap.size, 3, none⟩ = some (.slice a4 D.pend.length c4) := T1.cell 3; have t4 : w5.cell? ⟨w.heap.size, 4, none⟩ = some (.int .i64 D.quota) := T1.cell 4; have r0 : w5.cell? ⟨w.heap.size + 1 + 1, 0, none⟩ = some (.slice none 0 0) := T3.cell 0; have r1 : w5.cell? ⟨w.heap.size + 1 + 1, 1, none⟩ = some (.slice none 0 0) := T3.cell 1; have r2 : w5.cell? ⟨w.heap.size + 1 + 1, 2, none⟩ = some (.slice none 0 0) := T3.cell 2; have r3 : w5.cell? ⟨w.heap.size + 1 + 1, 3, none⟩ = some (.slice none 0 0) := T3.cell 3; have r4 : w5.cell? ⟨w.heap.size + 1 + 1, 4, none⟩ = some (.int .i64 0) := T3.cell 4; have g3 := frozen_of_row w5 w.heap.size 3 _ _ T1; have g0 := frozen_of_row w5 (w.heap.size + 1 + 1) 0 _ _ T3; have g1 := frozen_of_row w5 (w.heap.size + 1 + 1) 1 _ _ T3; have g2 := frozen_of_row w5 (w.heap.size + 1 + 1) 2 _ _ T3; have g3' := frozen_of_row w5 (w.heap.size + 1 + 1) 3 _ _ T3; have g4 := frozen_of_row w5 (w.heap.size + 1 + 1) 4 _ _ T3; clear hdk T1 T3 ho5 hg5 q0 q1 q2 q3 q4 o0 o1 o2 o3))
  have U3 := HT3.out.other (p := ⟨w.heap.size, 3, none⟩) (by simp; omega) (.slice a6 (D.pend.length + 1) c6)
  exact bodyPost_ret (ret_disk (w.heap.size + 1 + 1) _ _ _ _ _ _ rfl rfl (set_disk _ _ _ _ _ U3)) rfl ⟨_, _, _, _, rfl, by
    have h := (HDK.out.box HT1.out (by decide) 3 (.slice a6 (D.pend.length + 1) c6)).setD U3 (.slice a1 D.nodes.length c1) (.slice a5 l.length c5) (.slice a3 D.kept.length c3) (.slice a6 (D.pend.length + 1) c6) (.int .i64 D.quota)
    have e : dirD D (kd, nm, tn, nd) = ⟨D.nodes, l, D.kept, D.pend ++ [(kd, nm, tn, nd)], D.quota⟩ := by unfold dirD; rw [HR.out]; rfl
    rw [e]; exact h, (HBW.out.setNew (p := ⟨w.heap.size, 3, none⟩) (Nat.le_refl _) hbase _).setD (by omega) hbase _ _ _ _ _⟩
end Go.Proofs.YtpccongphchagaaGreatDoor
namespace Go.Proofs.YtpccongphchagaaGreatDoor
open Go.RowKit
/-- append of one node to nodes that may share. -/
theorem wpList_append_nodeN {ops : Array Oper} {rest : List Oper} {o : Oper} {act : Act} {Q : Exit → Act → World → Prop} (w : World) (hgd : o.guard = none) (s x : Operand)
    (ho : o.op = .call { callee := .builtin .append, args := #[s, x], argTypes := #[23, 23] })
    (lo : Nat) (v : Value) (ns : List NdM) (u : Value) (l : List Nat) (z : Int) (g1 c : Nat) (hs : act.eval s = v) (hx : act.eval x = .slice (some ⟨g1, 0, none⟩) 1 c) (hown : OwnN w lo v ns) (h0 : w.cell? ⟨g1, 0, none⟩ = some u) (h1 : w.cell? ⟨g1, 1, none⟩ = some (.int .i64 z)) (hox : OwnB w lo u l)
    (hlen : ns.length ≤ 1048576) (hbase : lo ≤ w.heap.size)
    (h : ∀ v' w', OwnN w' lo v' (ns ++ [(l, z)]) → w.grownBy w' v.ownBlock → wpList Tryz.prog ops Q rest (act.put o.dst v') w') : wpList Tryz.prog ops Q (o :: rest) act w := by
  obtain ⟨i0, hi, hz0, hz1, hz2⟩ := info_parts Tryz.infoNode
  obtain ⟨vs, hl, hrow, hb⟩ := hown
  refine wpList_append_own w hgd s x 23 ho lo 49 i0 (.agg #[.slice none 0 0, .int .i64 0]) 2 32 Tryz.underlying23 hi hz0 hz1 hz2 rfl (by decide) v vs.length (two vs) hs hrow ⟨g1, 0, none⟩ 1 c [u, .int .i64 z] hx (by simp) ?_ ?_ (by unfold maxLen; omega) (by omega) hbase ?_
  · intro j y hj
    rw [addr_add]
    match j with
    | 0 => simp only [List.getElem?_cons_zero, Option.some.injEq] at hj; rw [← hj]; exact h0
    | 1 => simp only [List.getElem?_cons_succ, List.getElem?_cons_zero, Option.some.injEq] at hj; rw [← hj]; exact h1
    | j + 2 => simp at hj
  · intro y hy
    simp only [List.mem_cons, List.not_mem_nil, or_false] at hy
    rcases hy with rfl | rfl
    · obtain ⟨a, c', rfl⟩ := hox.slice; rfl
    · rfl
  · intro v' w' hown' hg _
    refine h v' w' ⟨vs ++ [(u, .int .i64 z)], by simp [hl], ?_, fun i hi' => ?_⟩ hg
    · unfold Own2
      rw [two_append, List.length_append]
      exact hown'
    · have hk : ∀ {y : Value} {m : List Nat}, OwnB w lo y m → OwnB w' lo y m := fun {y m} hy => World.ownsRow.kept hy hg (owns_away hy hrow (by decide))
      by_cases hil : i < ns.length
      · obtain ⟨y, hy, oy⟩ := hb i hil
        refine ⟨y, ?_, ?_⟩
        · rw [List.getElem?_append_left (by omega), List.getElem_append_left hil]; exact hy
        · rw [List.getElem_append_left hil]; exact hk oy
      · have hie : i = ns.length := by simp at hi'; omega
        subst hie
        refine ⟨u, ?_, ?_⟩
        · rw [List.getElem?_append_right (by omega)]; simp [hl]
        · simp only [List.getElem_concat_length]; exact hk hox
/-- Nodes come anew. -/
theorem Dk.nodes {w w' : World} {base : Nat} {v1 v2 v3 v4 v' : Value} {D : MDisk} {l : List NdM} (h : Dk w base v1 v2 v3 v4 D) (ho : OwnN w' base v' l) (hg : w.grownBy w' v1.ownBlock) : Dk w' base v' v2 v3 v4 ⟨l, D.names, D.kept, D.pend, D.quota⟩ := by
  obtain ⟨vs, _, hrow, _⟩ := h.n
  have f : Fr (fun g => v1.ownBlock = some g) w w' := Fr.of_grown hg (fun k e => e)
  have hS : ∀ g, v1.ownBlock = some g → KindAt w g 49 := fun g hg => own_kind hrow hg
  exact ⟨ho, own_frk h.e f (fun g hg => ⟨_, hS g hg, by decide⟩), own_frk h.k f (fun g hg => ⟨_, hS g hg, by decide⟩), own_frk h.p f (fun g hg => ⟨_, hS g hg, by decide⟩)⟩
theorem ret_one {fn : Func} {tmps : Array Value} {p u : Tmp} (B : Nat) (W : World) (x1 x2 x3 x4 x5 y : Value) (hf : fn.results = #[.cell p 27, .tmp u]) (hp : tmps.getD p undef = .pointer (some ⟨B, 0, none⟩)) (hy : tmps.getD u undef = y) (hb : Laid W B #[x1, x2, x3, x4, x5] 27) :
    (results fn tmps).run Tryz.prog W = .ok (.tuple #[.agg #[x1, x2, x3, x4, x5], y]) W := by
  rw [results_cell_tmp hf, hp, hy]
  have h : (loadVar 27 ⟨B, 0, none⟩).run Tryz.prog W = .ok (.agg #[x1, x2, x3, x4, x5]) W := run_loadVar_row (P := Tryz.prog) W B _ _ _ _ _ hb Tryz.underlying27 rfl (by kernel_rfl)
  simp [asAddr, h]
/-- What one operation answers. -/
def OnPost (base : Nat) (w : World) (R : MDisk × Int) (e : Ending) (w' : World) : Prop := ∃ v1 v2 v3 v4, e = .returned (.tuple #[.agg #[v1, v2, v3, v4, .int .i64 R.1.quota], .int .i64 R.2]) ∧ Dk w' base v1 v2 v3 v4 R.1 ∧ Kep base w w' ∧ (R.2 ≠ 0 → Below w.heap.size w w')
theorem on_end {w W : World} {base B : Nat} {v1 v2 v3 v4 y1 y2 y3 y4 y5 : Value} {D' : MDisk} {R : MDisk × Int} {q code : Int} (hR : R = (D', code)) (hq : q = D'.quota) (hd : Dk W base v1 v2 v3 v4 D') (hL : Laid W B #[y1, y2, y3, y4, y5] 27) (hb : Kep base w W) (hB : w.heap.size ≤ B) (hw : base ≤ w.heap.size) (hx : code ≠ 0 → Below w.heap.size w W) :
    OnPost base w R (.returned (.tuple #[.agg #[v1, v2, v3, v4, .int .i64 q], .int .i64 code])) (setD W B v1 v2 v3 v4 (.int .i64 q)) := by
  subst hR
  subst hq
  exact ⟨v1, v2, v3, v4, rfl, hd.setD hL _ _ _ _ _, hb.setD hB hw _ _ _ _ _, fun hc => (hx hc).trans ((setD_fr _ _ _ _ _ _ _).below (fun g e => by omega) (hx hc).size)⟩
theorem one_kind {D : MDisk} {o : OpV} (h : o.1 < 1 ∨ 6 < o.1) : doOne D o = (D, 2) := by unfold doOne; rw [if_pos h]
theorem one_dir {D : MDisk} {o : OpV} (h : o.1 = 6) : doOne D o = (settleD D, 0) := by unfold doOne; rw [if_neg (by omega), if_pos h]
theorem one_name {D : MDisk} {o : OpV} (h1 : 1 ≤ o.1) (h5 : o.1 ≤ 5) (h : okName o.2.1 = false ∨ (o.1 = 4 ∧ okName o.2.2.1 = false)) : doOne D o = (D, 3) := by unfold doOne; rw [if_neg (by omega), if_neg (by omega), if_pos h]
/-- A name that will do. -/
def nmOk (o : OpV) : Prop := okName o.2.1 = true ∧ (o.1 = 4 → okName o.2.2.1 = true)
theorem nm_not {o : OpV} (h : nmOk o) : ¬ (okName o.2.1 = false ∨ (o.1 = 4 ∧ okName o.2.2.1 = false)) := by
  rintro (e | ⟨e1, e2⟩)
  · rw [h.1] at e; cases e
  · rw [h.2 e1] at e2; cases e2
theorem one_full {D : MDisk} {o : OpV} (h : o.1 = 1) (hn : nmOk o) (hf : 600 ≤ D.nodes.length ∨ 1000 ≤ D.pend.length ∨ (nodeIn D.names o.2.1 = none ∧ 300 ≤ D.names.length)) : doOne D o = (D, 6) := by unfold doOne; rw [if_neg (by omega), if_neg (by omega), if_neg (nm_not hn), if_pos h, if_pos hf]
theorem one_new {D : MDisk} {o : OpV} (h : o.1 = 1) (hn : nmOk o) (hf : ¬ (600 ≤ D.nodes.length ∨ 1000 ≤ D.pend.length ∨ (nodeIn D.names o.2.1 = none ∧ 300 ≤ D.names.length))) : doOne D o = (dirD (newD D) (1, o.2.1, noStr, (D.nodes.length : Int)), 0) := by unfold doOne; rw [if_neg (by omega), if_neg (by omega), if_neg (nm_not hn), if_pos h, if_neg hf]
theorem one_missing {D : MDisk} {o : OpV} (h1 : 2 ≤ o.1) (h5 : o.1 ≤ 5) (hn : nmOk o) (hm : nodeIn D.names o.2.1 = none) : doOne D o = (D, 4) := by unfold doOne; rw [if_neg (by omega), if_neg (by omega), if_neg (nm_not hn), if_neg (by omega), hm]
/-- What an operation on a name that is there does. -/
theorem one_there {D : MDisk} {o : OpV} {n : Int} (h1 : 2 ≤ o.1) (h5 : o.1 ≤ 5) (hn : nmOk o) (hm : nodeIn D.names o.2.1 = some n) : doOne D o =
      (if o.1 = 2 then
        if D.quota < (usedOf D.nodes D.names : Int) + (o.2.2.2.length : Int) then (D, 5)
        else if 40000 < (ndAt D n).1.length + o.2.2.2.length ∨ 200000 < sumN D.nodes + o.2.2.2.length then (D, 6)
        else (putD D n ((ndAt D n).1 ++ o.2.2.2, (ndAt D n).2), 0)
      else if o.1 = 3 then (putD D n ((ndAt D n).1, ((ndAt D n).1.length : Int)), 0)
      else if o.1 = 4 ∧ o.2.2.1 = o.2.1 then (D, 0)
      else if 1000 ≤ D.pend.length then (D, 6)
      else (dirD D (o.1, o.2.1, if o.1 = 4 then o.2.2.1 else noStr, 0), 0)) := by
  unfold doOne; rw [if_neg (by omega), if_neg (by omega), if_neg (nm_not hn), if_neg (by omega), hm]
end Go.Proofs.YtpccongphchagaaGreatDoor
namespace Go.Proofs.YtpccongphchagaaGreatDoor
open Go.RowKit
theorem OwnN.cells {w : World} {base : Nat} {a : Option Addr} {n cap : Nat} {ns : List NdM} (h : OwnN w base (.slice a n cap) ns) (hp : 0 < ns.length) :
    ∃ g, a = some ⟨g, 0, none⟩ ∧ base ≤ g ∧ (∀ o, w.frozen? ⟨g, o, none⟩ = false) ∧ KindAt w g 49 ∧ ∀ i (hi : i < ns.length), ∃ ai ci, w.cell? ⟨g, i * 2, none⟩ = some (.slice ai ns[i].1.length ci) ∧ w.cell? ⟨g, i * 2 + 1, none⟩ = some (.int .i64 ns[i].2) ∧ OwnB w base (.slice ai ns[i].1.length ci) ns[i].1 := by
  obtain ⟨vs, hl, h2, hb⟩ := h
  rcases h2.2 with ⟨_, h0⟩ | ⟨g, c, cur, hv, hlo, hg, hcs⟩
  · omega
  · obtain ⟨rfl, rfl, rfl⟩ : a = some ⟨g, 0, none⟩ ∧ n = vs.length ∧ cap = c := by simpa using hv
    refine ⟨g, rfl, hlo, fun o => Own2.frozen h2 o, ⟨_, _, hg⟩, fun i hi => ?_⟩
    obtain ⟨x, hx, p1⟩ := hb i hi
    obtain ⟨ai, ci, rfl⟩ := p1.slice
    obtain ⟨hl2, hx2⟩ := List.getElem?_eq_some_iff.1 hx
    obtain ⟨c0, c1⟩ := Own2.cells h2 i hl2
    rw [hx2] at c0 c1
    exact ⟨ai, ci, c0, c1, p1⟩
/-- Behind the new node. -/
theorem new_next {w W w5 : World} {base : Nat} {v1 v2 v3 v4 v5 : Value} {D : MDisk} {u : Obj} (hd : Dk W base v1 v2 v3 v4 D) (hK : Kep base w W) (hw : base ≤ w.heap.size) (ho : OwnN w5 base v5 (D.nodes ++ [([], 0)])) (hg : (W.alloc u).grownBy w5 v1.ownBlock) :
    Dk w5 base v5 v2 v3 v4 (newD D) ∧ Kep base w w5 ∧ (∀ g cs t, Laid W g cs t → t ≠ 49 → Laid w5 g cs t) := by
  have hal := (Below.refl W.heap.size W).alloc (Nat.le_refl _) u
  have hd2 := hd.below hal
  have hbw : base ≤ W.heap.size := Nat.le_trans hw hK.bel.size
  obtain ⟨vs, _, hrow, _⟩ := hd2.n
  have hr : ∀ k, v1.ownBlock = some k → base ≤ k ∧ KindAt (W.alloc u) k 49 := fun k e => ⟨(own_ge hrow e).1, own_kind hrow e⟩
  refine ⟨hd2.nodes ho hg, (hK.trans (Kep.of_below hal hbw)).grown hg (by simp; omega) hr (.inl rfl), fun g cs t hL ht => ?_⟩
  have hL2 := hL.below hal hL.lt
  exact (hg.block g hL2.lt (fun e => ht (hL2.kind.ne (hr g e.symm).2))).trans hL2
/-- A node is written in its place. -/
theorem put_next {w W : World} {base g j n cap : Nat} {v2 v3 v4 u : Value} {D : MDisk} {l : List NdM} (hd : Dk W base (.slice (some ⟨g, 0, none⟩) n cap) v2 v3 v4 D) (hK : Kep base w W) (hw : base ≤ w.heap.size) (ho : OwnN (W.setCell ⟨g, j, none⟩ u) base (.slice (some ⟨g, 0, none⟩) n cap) l) (hg : W.grownBy (W.setCell ⟨g, j, none⟩ u) (some g)) :
    Dk (W.setCell ⟨g, j, none⟩ u) base (.slice (some ⟨g, 0, none⟩) n cap) v2 v3 v4 ⟨l, D.names, D.kept, D.pend, D.quota⟩ ∧ Kep base w (W.setCell ⟨g, j, none⟩ u) ∧ (∀ b cs t, Laid W b cs t → t ≠ 49 → Laid (W.setCell ⟨g, j, none⟩ u) b cs t) := by
  have hbw : base ≤ W.heap.size := Nat.le_trans hw hK.bel.size
  obtain ⟨vs, _, hrow, _⟩ := hd.n
  have hr : ∀ k, (some g : Option Nat) = some k → base ≤ k ∧ KindAt W k 49 := fun k e => ⟨(own_ge hrow e).1, own_kind hrow e⟩
  refine ⟨hd.nodes ho hg, hK.grown hg hbw hr (.inl rfl), fun b cs t hL ht => ?_⟩
  exact (hg.block b hL.lt (fun e => ht (hL.kind.ne (hr b e.symm).2))).trans hL
end Go.Proofs.YtpccongphchagaaGreatDoor
namespace Go.Proofs.YtpccongphchagaaGreatDoor
open Go.RowKit
/-- Operations that lie in memory. -/
def OpsAt (w : World) (a : Option Addr) (os : List OpV) : Prop :=
  0 < os.length → ∃ b off, a = some ⟨b, off, none⟩ ∧ ∀ i (h : i < os.length), ∃ ai ci, w.cell? ⟨b, off + i * 4, none⟩ = some (.int .i64 os[i].1) ∧ w.cell? ⟨b, off + i * 4 + 1, none⟩ = some (.string os[i].2.1) ∧ w.cell? ⟨b, off + i * 4 + 2, none⟩ = some (.string os[i].2.2.1) ∧ w.cell? ⟨b, off + i * 4 + 3, none⟩ = some (.slice ai os[i].2.2.2.length ci) ∧ RowAt w ai os[i].2.2.2
theorem OpsAt.low {w w' : World} {a : Option Addr} {os : List OpV} {B : Nat} (h : OpsAt w a os) (hb : Below B w w') (hB : w.heap.size ≤ B) : OpsAt w' a os := fun hp => by
  obtain ⟨b, off, rfl, hc⟩ := h hp
  refine ⟨b, off, rfl, fun i hi => ?_⟩
  obtain ⟨ai, ci, h0, h1, h2, h3, h4⟩ := hc i hi
  have hk : ∀ (p : Addr) {v : Value}, w.cell? p = some v → w'.cell? p = some v := fun p v hv => by
    have hlt : p.block < w.heap.size := by
      rcases Nat.lt_or_ge p.block w.heap.size with h | h
      · exact h
      · simp [World.cell?, Array.getElem?_eq_none h] at hv
    rw [hb.cell (p := p) (by omega)]; exact hv
  refine ⟨ai, ci, hk _ h0, hk _ h1, hk _ h2, hk _ h3, fun hp2 => ?_⟩
  obtain ⟨b2, off2, e2, hc2⟩ := h4 hp2
  exact ⟨b2, off2, e2, fun j hj => hk _ (hc2 j hj)⟩
theorem OpsAt.below {w w' : World} {a : Option Addr} {os : List OpV} (h : OpsAt w a os) (hb : Below w.heap.size w w') : OpsAt w' a os := h.low hb (Nat.le_refl _)
/-- How far the operations have come. -/
def RunAt (D : MDisk) (ops : List OpV) (k : Nat) (C : MDisk) : Prop := doRun D ops = ((doRun C (ops.drop k)).1, k + (doRun C (ops.drop k)).2.1, (doRun C (ops.drop k)).2.2)
theorem run_start (D : MDisk) (ops : List OpV) : RunAt D ops 0 D := by unfold RunAt; simp
theorem run_next {D C : MDisk} {ops : List OpV} {k : Nat} (h : RunAt D ops k C) (hk : k < ops.length) (h0 : (doOne C ops[k]).2 = 0) : RunAt D ops (k + 1) (doOne C ops[k]).1 := by
  unfold RunAt at *
  rw [h, List.drop_eq_getElem_cons hk, doRun, if_pos h0]
  simp only [Prod.mk.injEq, true_and, and_true]
  omega
theorem run_stop {D C : MDisk} {ops : List OpV} {k : Nat} (h : RunAt D ops k C) (hk : k < ops.length) (h0 : (doOne C ops[k]).2 ≠ 0) : doRun D ops = (C, k, (doOne C ops[k]).2) := by
  unfold RunAt at h
  rw [h, List.drop_eq_getElem_cons hk, doRun, if_neg h0]
  simp
theorem run_all {D C : MDisk} {ops : List OpV} (h : RunAt D ops ops.length C) : doRun D ops = (C, ops.length, 0) := by
  unfold RunAt at h
  rw [h, List.drop_length, doRun]
  simp
theorem one_bad {C : MDisk} {o : OpV} (h : (doOne C o).2 ≠ 0) : (doOne C o).1 = C := by
  revert h
  unfold doOne
  split
  · intro _; rfl
  split
  · intro h; exact absurd rfl h
  split
  · intro _; rfl
  split
  · split
    · intro _; rfl
    · intro h; exact absurd rfl h
  split
  · intro _; rfl
  split
  · split
    · intro _; rfl
    split
    · intro _; rfl
    · intro h; exact absurd rfl h
  split
  · intro h; exact absurd rfl h
  split
  · intro _; rfl
  split
  · intro _; rfl
  · intro h; exact absurd rfl h
theorem one_quota (C : MDisk) (o : OpV) : (doOne C o).1.quota = C.quota := by
  unfold doOne
  split
  · rfl
  split
  · rfl
  split
  · rfl
  split
  · split <;> rfl
  split
  · rfl
  split
  · split
    · rfl
    split <;> rfl
  split
  · rfl
  split
  · rfl
  split <;> rfl
open Classical in
/-- What DiskDo answers: the disk, how many were done, the code. -/
noncomputable def doOf (D : MDisk) (ops : List OpV) : MDisk × Nat × Int := if ops.length ≤ 2000 ∧ ValidD D then doRun D ops else (noDisk, 0, 1)
theorem doOf_no {D : MDisk} {ops : List OpV} (h : ¬ (ops.length ≤ 2000 ∧ ValidD D)) : doOf D ops = (noDisk, 0, 1) := by unfold doOf; rw [if_neg h]
theorem doOf_yes {D : MDisk} {ops : List OpV} (h : ops.length ≤ 2000 ∧ ValidD D) : doOf D ops = doRun D ops := by unfold doOf; rw [if_pos h]
end Go.Proofs.YtpccongphchagaaGreatDoor
