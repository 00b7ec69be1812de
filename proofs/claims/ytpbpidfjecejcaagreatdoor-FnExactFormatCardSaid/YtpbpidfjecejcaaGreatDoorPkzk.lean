import Derived.Test.YtpbpidfjecejcaaGreatDoorPkp
import Derived.Test.YtpbpidfjecejcaaGreatDoorPkt
import Derived.Test.YtpbpidfjecejcaaGreatDoorPku
import Derived.Test.YtpbpidfjecejcaaGreatDoorPkzc
import Derived.Test.YtpbpidfjecejcaaGreatDoorPkzi
import Derived.Test.YtpbpidfjecejcaaGreatDoorPkzj
import Derived.Test.YtpbpidfjecejcaaGreatDoorPkz
import Derived.Deep.RegionWith
namespace Go.Proofs.YtpbpidfjecejcaaGreatDoor
open Go.RowKit
set_option linter.unusedVariables false
theorem do_small {D : MDisk} (ops : List OpV) (hM : Modest D) : Small (doOf D ops).1 := by
  by_cases h : ops.length ≤ 2000 ∧ ValidD D
  · rw [doOf_yes h]
    have hk := run_wkd ops D (wkd_of h.2 hM)
    have h1 := hk.nn
    have h2 := hk.fine.ln
    have h3 := hk.nk
    have h4 := hk.np
    exact small_of (by omega) (by omega) (by omega) (by omega) (fun e he => by have := hk.data e he; omega)
  · rw [doOf_no h]
    exact small_of (by simp [noDisk]) (by simp [noDisk]) (by simp [noDisk]) (by simp [noDisk]) (fun e he => by cases he)
/-- What the readers ask of operations that came in. -/
structure InOps (w : World) (a : Option Addr) (ops : List OpV) : Prop where
  at_ : OpsAt w a ops
  n : ops.length ≤ 9223372036854775807
  h : ∀ e ∈ ops, e.2.1.size ≤ 9223372036854775807 ∧ e.2.2.1.size ≤ 9223372036854775807 ∧ e.2.2.2.length ≤ 9223372036854775807
theorem mem_sumV : ∀ {es : List OpV} {e : OpV}, e ∈ es → e.2.1.size + e.2.2.1.size + e.2.2.2.length ≤ sumV es
  | x :: r, e, h => by
    rcases List.mem_cons.1 h with rfl | h
    · simp only [sumV]; omega
    · have := mem_sumV h; simp only [sumV]; omega
theorem OpsRaw.frO {w w' : World} {lo hi g n m : Nat} {vs : Nat → Value} (h : OpsRaw w lo hi g n m vs) (hE : ∀ x, lo ≤ x → x < hi → w'.heap[x]? = w.heap[x]?) : OpsRaw w' lo hi g n m vs :=
  ⟨h.raw.of_eq (hE g h.low h.high), h.room, h.low, h.high, fun j hj => (cell_of_block (hE g h.low h.high)).trans (h.sl j hj), fun j hj => by
    rcases h.el j hj with e | ⟨gj, nj, cj, mj, e, r, h1, h2, h3, h4⟩
    · exact .inl e
    · exact .inr ⟨gj, nj, cj, mj, e, r.of_eq (hE gj h2 h3), h1, h2, h3, h4⟩⟩
theorem OpRaw.frO {w w' : World} {lo hi : Nat} {v : Value} (h : OpRaw w lo hi v) (hE : ∀ x, lo ≤ x → x < hi → w'.heap[x]? = w.heap[x]?) : OpRaw w' lo hi v := by
  rcases h with rfl | ⟨g, n, cap, m, vs, e, r, rest⟩
  · exact .inl rfl
  · exact .inr ⟨g, n, cap, m, vs, e, r.frO hE, rest⟩
theorem OpRaw.lt {w : World} {lo hi g n cap : Nat} (h : OpRaw w lo hi (.slice (some ⟨g, 0, none⟩) n cap)) : g < w.heap.size := by
  rcases h with h | ⟨g', n', cap', m, vs, e, r, rest⟩
  · cases h
  · simp only [Value.slice.injEq, Option.some.injEq, Addr.mk.injEq, and_true] at e
    rw [e.1]
    exact r.raw.lt
/-- How the law stands between the second call and the marks. -/
structure DoS (w5 W : World) (n6 n7 n8 n9 : Nat) (x1 x2 x3 x4 : Value) (qx : Int) (D : MDisk) (ops : List OpV) (g1 g2 g3 g4 : Value) (vs : List (Value × Value)) (C : MDisk) (n c : Int) : Prop where
  bel : Below w5.heap.size w5 W
  xd : DiskAt W (.agg #[x1, x2, x3, x4, .int .i64 qx]) D
  xr : DiskRaw W w5.heap.size n6 (.agg #[x1, x2, x3, x4, .int .i64 qx])
  xb : Laid W n6 #[x1, x2, x3, x4, .int .i64 qx] 27
  y : OpsAt W (some ⟨n7, 0, none⟩) ops
  yr : OpRaw W n7 n8 (.slice (some ⟨n7, 0, none⟩) ops.length ops.length)
  g : OwnDA W n8 n9 g1 g2 g3 g4 vs C
  gb : Laid W n9 #[g1, g2, g3, g4, .int .i64 C.quota, .int .i64 n, .int .i64 c] 41
  o6 : w5.heap.size ≤ n6
  o7 : n6 < n7
  o8 : n7 < n8
  o9 : n8 ≤ n9
theorem DoS.below {w5 W W' : World} {n6 n7 n8 n9 : Nat} {x1 x2 x3 x4 : Value} {qx : Int} {D : MDisk} {ops : List OpV} {g1 g2 g3 g4 : Value} {vs : List (Value × Value)} {C : MDisk} {n c : Int} (h : DoS w5 W n6 n7 n8 n9 x1 x2 x3 x4 qx D ops g1 g2 g3 g4 vs C n c) (hb : Below W.heap.size W W') : DoS w5 W' n6 n7 n8 n9 x1 x2 x3 x4 qx D ops g1 g2 g3 g4 vs C n c :=
  ⟨h.bel.trans (hb.mono h.bel.size), h.xd.below hb, h.xr.below hb, h.xb.below hb h.xb.lt, h.y.below hb, h.yr.below hb, h.g.below hb, h.gb.below hb h.gb.lt, h.o6, h.o7, h.o8, h.o9⟩
/-- How it stands behind the marks of what was handed in. -/
structure DoT (w5 W : World) (n8 n9 : Nat) (g1 g2 g3 g4 : Value) (vs : List (Value × Value)) (q n c : Int) (C : MDisk) : Prop where
  bel : Below w5.heap.size w5 W
  g : OwnDA W n8 n9 g1 g2 g3 g4 vs C
  gb : Laid W n9 #[g1, g2, g3, g4, .int .i64 q, .int .i64 n, .int .i64 c] 41
  o8 : w5.heap.size ≤ n8
  o9 : n8 ≤ n9
theorem DoT.below {w5 W W' : World} {n8 n9 : Nat} {g1 g2 g3 g4 : Value} {vs : List (Value × Value)} {q n c : Int} {C : MDisk} (h : DoT w5 W n8 n9 g1 g2 g3 g4 vs q n c C) (hb : Below W.heap.size W W') : DoT w5 W' n8 n9 g1 g2 g3 g4 vs q n c C :=
  ⟨h.bel.trans (hb.mono h.bel.size), h.g.below hb, h.gb.below hb h.gb.lt, h.o8, h.o9⟩
theorem out_fr {lo hi : Nat} {W W1 : World} (ho : Out lo hi W W1) : Fr (fun g => lo ≤ g ∧ g < hi) W W1 := ⟨ho.os, ho.tape, ho.output, ho.size, fun g hg hn => ho.block g hg (by omega)⟩
/-- Behind both marks. -/
theorem DoS.marked {w5 W W1 W2 : World} {n6 n7 n8 n9 : Nat} {x1 x2 x3 x4 : Value} {qx : Int} {D : MDisk} {ops : List OpV} {g1 g2 g3 g4 : Value} {vs : List (Value × Value)} {C : MDisk} {n c : Int} (h : DoS w5 W n6 n7 n8 n9 x1 x2 x3 x4 qx D ops g1 g2 g3 g4 vs C n c) (ho : Out w5.heap.size n6 W W1) (ho2 : Out n7 n8 W1 W2) : DoT w5 W2 n8 n9 g1 g2 g3 g4 vs C.quota n c C := by
  have h6 := h.o6
  have h7 := h.o7
  have h8 := h.o8
  have h9 := h.o9
  have hs := h.bel.size
  have f1 := out_fr ho
  have f2 := out_fr ho2
  have hs1 := ho.size
  refine ⟨(h.bel.trans (f1.below (fun g hg => hg.1) hs)).trans (f2.below (fun g hg => by omega) (by omega)), (h.g.fr f1 (fun g a b c => by omega)).fr f2 (fun g a b c => by omega), ?_, by omega, h9⟩
  have hl := h.gb.lt
  exact (f2.block n9 (by omega) (by omega)).trans ((f1.block n9 hl (by omega)).trans h.gb)
/-- The first mark leaves the operations. -/
theorem DoS.ops {w5 W W1 : World} {n6 n7 n8 n9 : Nat} {x1 x2 x3 x4 : Value} {qx : Int} {D : MDisk} {ops : List OpV} {g1 g2 g3 g4 : Value} {vs : List (Value × Value)} {C : MDisk} {n c : Int} (h : DoS w5 W n6 n7 n8 n9 x1 x2 x3 x4 qx D ops g1 g2 g3 g4 vs C n c) (ho : Out w5.heap.size n6 W W1) : OpRaw W1 n7 n8 (.slice (some ⟨n7, 0, none⟩) ops.length ops.length) :=
  h.yr.frO (fun x h1 h2 => ho.block x (by have := h.gb.lt; have := h.o9; omega) (.inr (by have := h.o7; omega)))
/-- Behind the marks of the answer. -/
theorem DoT.marked {w5 W W' : World} {n8 n9 : Nat} {g1 g2 g3 g4 : Value} {vs vs' : List (Value × Value)} {q n c : Int} {C C' : MDisk} (h : DoT w5 W n8 n9 g1 g2 g3 g4 vs q n c C) (hg : OwnDA W' n8 n9 g1 g2 g3 g4 vs' C') (hf : Fr (fun g => n8 ≤ g ∧ g < n9) W W') : DoT w5 W' n8 n9 g1 g2 g3 g4 vs' q n c C' := by
  have h8 := h.o8
  refine ⟨h.bel.trans (hf.below (fun g e => by omega) h.bel.size), hg, (hf.block n9 h.gb.lt (by omega)).trans h.gb, h8, h.o9⟩
end Go.Proofs.YtpbpidfjecejcaaGreatDoor
namespace Go.Proofs.YtpbpidfjecejcaaGreatDoor
open Go.RowKit
set_option linter.unusedVariables false
theorem da_slices {w : World} {base hi : Nat} {v1 v2 v3 v4 : Value} {vs : List (Value × Value)} {C : MDisk} (h : OwnDA w base hi v1 v2 v3 v4 vs C) : ∃ a1 m1 c1 a2 m2 c2 a3 m3 c3 a4 m4 c4, v1 = .slice a1 m1 c1 ∧ v2 = .slice a2 m2 c2 ∧ v3 = .slice a3 m3 c3 ∧ v4 = .slice a4 m4 c4 := by
  obtain ⟨a1, c1, e1⟩ := h.nodes.slice
  obtain ⟨a2, c2, e2⟩ := h.names.slice
  obtain ⟨a3, c3, e3⟩ := h.kept.slice
  obtain ⟨a4, c4, e4⟩ := h.pend.slice
  exact ⟨a1, _, c1, a2, _, c2, a3, _, c3, a4, _, c4, e1, e2, e3, e4⟩
theorem dk_slices {w : World} {base : Nat} {v1 v2 v3 v4 : Value} {C : MDisk} (h : Dk w base v1 v2 v3 v4 C) : ∃ a1 m1 c1 a2 m2 c2 a3 m3 c3 a4 m4 c4, v1 = .slice a1 m1 c1 ∧ v2 = .slice a2 m2 c2 ∧ v3 = .slice a3 m3 c3 ∧ v4 = .slice a4 m4 c4 := by
  obtain ⟨a1, c1, e1⟩ := h.n.slice
  obtain ⟨a2, c2, e2⟩ := h.e.slice
  obtain ⟨a3, c3, e3⟩ := h.k.slice
  obtain ⟨a4, c4, e4⟩ := h.p.slice
  exact ⟨a1, _, c1, a2, _, c2, a3, _, c3, a4, _, c4, e1, e2, e3, e4⟩
theorem below_new (w : World) (o : Obj) : Below w.heap.size w (w.alloc o) := (Below.refl _ _).alloc (Nat.le_refl _) _
set_option maxRecDepth 20000 in
set_option maxHeartbeats 8000000 in
theorem do_law {w : World} {v : Value} {D : MDisk} (ao : Option Addr) (co : Nat) (ops : List OpV) (hg : ErrG w) (h : InDisk w v D) (hops : InOps w ao ops) :
    Calls Tryz.prog 4 #[v, .slice ao ops.length co] w fun e w' => e = .returned (.bool true) ∧ Below w.heap.size w w' := by
  have HSZ := hide (fun w' (hb : Below w.heap.size w w') => szDisk_v (h.below hb))
  have HAT := hide (fun w' (hb : Below w.heap.size w w') => h.at_.below hb)
  have HOA := hide (fun w' (hb : Below w.heap.size w w') => hops.at_.below hb)
  have HEG := hide (fun w' (hb : Below w.heap.size w w') => show ErrG w' from (hb.cell (p := ⟨0, 0, none⟩) (lt_cell hg)).trans hg)
  have HON := hide hops.n
  have HOH := hide hops.h
  have HWF := hide h.wf
  obtain ⟨a1, m1, c1, a2, m2, c2, a3, m3, c3, a4, m4, c4, q, hv⟩ := h.shape
  clear h hops hg
  subst hv
  have hA := (Below.refl w.heap.size w).alloc (Nat.le_refl _) (.cells #[.slice a1 m1 c1, .slice a2 m2 c2, .slice a3 m3 c3, .slice a4 m4 c4, .int .i64 q] 36)
  have L0 := Laid.new w #[.slice a1 m1 c1, .slice a2 m2 c2, .slice a3 m3 c3, .slice a4 m4 c4, .int .i64 q] 36
  go_enter Tryz.func4, Tryz.ntmps4
  go_wp2_with fail
  generalize w.alloc (.cells #[.slice a1 m1 c1, .slice a2 m2 c2, .slice a3 m3 c3, .slice a4 m4 c4, .int .i64 q] 36) = w0 at hA L0 ⊢
  refine (HSZ.out w0 hA).mono ?_
  rintro e wz ⟨rfl, hbz⟩
  have HBZ := hide (hA.trans (hbz.mono hA.size))
  have LZ := hide (L0.below hbz L0.lt)
  clear L0 hA hbz
  by_cases hbig : 1048576 < szOf D
  · rw [szRest_neg hbig]
    go_wp2
    go_ret
    exact ⟨rfl, HBZ.out⟩
  have hsm : szOf D ≤ 1048576 := by omega
  have HM := hide (modest_of hsm)
  have HNS := hide (nodes_small hsm)
  rw [szRest_pos hsm]
  obtain ⟨left, hleft⟩ : ∃ left : Nat, ((1048576 : Nat) : Int) - (szOf D : Int) = (left : Int) ∧ left ≤ 1048576 := ⟨1048576 - szOf D, by omega, by omega⟩
  rw [hleft.1]
  have hll := hleft.2
  have hpos : ¬ (left : Int) < 0 := by omega
  have HSO := hide (szOpS_any ao co ops left wz hll HON.out HOH.out (HOA.out wz HBZ.out))
  clear hleft
  go_wp2_with fail
  refine HSO.out.mono ?_
  rintro e w1 ⟨rfl, hb1⟩
  have HB1 := hide (HBZ.out.trans (hb1.mono HBZ.out.size))
  have L1 := LZ.out.below hb1 LZ.out.lt
  have t0 : w1.cell? ⟨w.heap.size, 0, none⟩ = some (.slice a1 m1 c1) := L1.cell 0
  have t1 : w1.cell? ⟨w.heap.size, 1, none⟩ = some (.slice a2 m2 c2) := L1.cell 1
  have t2 : w1.cell? ⟨w.heap.size, 2, none⟩ = some (.slice a3 m3 c3) := L1.cell 2
  have t3 : w1.cell? ⟨w.heap.size, 3, none⟩ = some (.slice a4 m4 c4) := L1.cell 3
  have t4 : w1.cell? ⟨w.heap.size, 4, none⟩ = some (.int .i64 q) := L1.cell 4
  clear hb1 HSO HBZ LZ
  by_cases hob : left < ops.length + sumV ops
  · rw [szRest_neg hob]
    go_wp2
    go_ret
    exact ⟨rfl, HB1.out⟩
  have hol : ops.length ≤ 1048576 := by omega
  have HOS := hide (show ∀ o ∈ ops, o.2.1.size ≤ 1048576 ∧ o.2.2.1.size ≤ 1048576 ∧ o.2.2.2.length ≤ 1048576 from fun o ho => by have := mem_sumV ho; omega)
  have HOD := hide (show ∀ o ∈ ops, o.2.2.2.length ≤ 1048576 from fun o ho => (HOS.out o ho).2.2)
  have hosm : ops.length + sumV ops ≤ left := by omega
  rw [szRest_pos hosm]
  have hpos2 : ¬ (left : Int) - ((ops.length + sumV ops : Nat) : Int) < 0 := by omega
  generalize (left : Int) - ((ops.length + sumV ops : Nat) : Int) = rest at hpos2 ⊢
  have HTO := hide (fun (X : World) (hX : Below w.heap.size w X) => toDisk_any _ D X HM.out.n1 HM.out.n2 HM.out.n3 HM.out.n4 HNS.out (HAT.out X hX))
  have HTI := hide (fun (X : World) (hX : Below w.heap.size w X) => toOpS_any ao co ops X hol HOD.out (HOA.out X hX))
  have HSR := hide (fun (x : Value) (X : World) (a : Option Addr) (c : Nat) (hx : DiskAt X x D) (hi : OpsAt X a ops) => specDo_any one_law l1Copy_any x D a c ops X HM.out hx hol HOS.out hi)
  have HIR := hide (fun (x : Value) (X : World) (a : Option Addr) (c : Nat) (hX : Below w.heap.size w X) (hx : DiskAt X x D) (hi : OpsAt X a ops) => implDo_any x D a c ops X (HEG.out X hX) HM.out HWF.out hx hol HOS.out hi)
  have HEX := hide (fun (x y : Value) (X : World) (hx : DiskAt X x D) (hy : DiskAt X y D) => eqDisk_same x y D X HM.out.n1 HM.out.n2 HM.out.n3 HM.out.n4 HNS.out hx hy)
  have HEO := hide (fun (a a' : Option Addr) (c c' : Nat) (X : World) (hx : OpsAt X a ops) (hy : OpsAt X a' ops) => eqOpS_same a a' c c' ops X (by omega) (fun e he => by have := HOD.out e he; omega) hx hy)
  have hsmC := do_small ops HM.out
  generalize doOf D ops = R at HSR HIR hsmC
  obtain ⟨C, nn, cc⟩ := R
  simp only at hsmC
  have HSC := hide hsmC
  unfold DnPost at HSR
  unfold DaPost at HIR
  simp only at HSR HIR
  clear hbig hsm HSZ HAT HWF HOA HEG hsmC hob hosm hpos HON HOH
  go_wp2_with fail
  refine (HTO.out w1 HB1.out).mono ?_
  rintro e w2 ⟨x, rfl, ho2, hb2⟩
  have L2 := L1.below hb2 L1.lt
  have HB2 := hide (HB1.out.trans (hb2.mono HB1.out.size))
  have HO2 := hide ho2
  clear ho2 hb2 t0 t1 t2 t3 t4 L1
  go_wp2_with fail
  refine (HTI.out w2 HB2.out).mono ?_
  rintro e w3 ⟨vs3, rfl, hi3, hb3⟩
  have L3 := L2.below hb3 L2.lt
  have HB3 := hide (HB2.out.trans (hb3.mono HB2.out.size))
  have HS3 := hide (HSR.out x w3 _ ops.length (HO2.out.at.below hb3) hi3.at)
  clear hb3 hi3 HO2 L2
  go_wp2_with fail
  refine HS3.out.mono ?_
  rintro e w4 ⟨s1, s2, s3, s4, rfl, hos, hb4⟩
  obtain ⟨q1, j1, r1, q2, j2, r2, q3, j3, r3, q4, j4, r4, rfl, rfl, rfl, rfl⟩ := dk_slices hos
  have L4 := L3.below hb4 L3.lt
  have HB4 := hide (HB3.out.trans (hb4.mono HB3.out.size))
  have SD4 := hos.own.at
  clear hb4 hos HS3 L3
  have n5 := below_new w4 (.cells #[.slice q1 j1 r1, .slice q2 j2 r2, .slice q3 j3 r3, .slice q4 j4 r4, .int .i64 C.quota, .int .i64 (nn : Int), .int .i64 cc] 41)
  have S5 := Laid.new w4 #[.slice q1 j1 r1, .slice q2 j2 r2, .slice q3 j3 r3, .slice q4 j4 r4, .int .i64 C.quota, .int .i64 (nn : Int), .int .i64 cc] 41
  have L5 := L4.below n5 L4.lt
  have SD5 := SD4.below n5
  have HB5 := hide (HB4.out.trans (n5.mono HB4.out.size))
  generalize hW5 : w4.alloc (.cells #[.slice q1 j1 r1, .slice q2 j2 r2, .slice q3 j3 r3, .slice q4 j4 r4, .int .i64 C.quota, .int .i64 (nn : Int), .int .i64 cc] 41) = w5 at n5 S5 L5 SD5 HB5
  have t0 : w5.cell? ⟨w.heap.size, 0, none⟩ = some (.slice a1 m1 c1) := L5.cell 0
  have t1 : w5.cell? ⟨w.heap.size, 1, none⟩ = some (.slice a2 m2 c2) := L5.cell 1
  have t2 : w5.cell? ⟨w.heap.size, 2, none⟩ = some (.slice a3 m3 c3) := L5.cell 2
  have t3 : w5.cell? ⟨w.heap.size, 3, none⟩ = some (.slice a4 m4 c4) := L5.cell 3
  have t4 : w5.cell? ⟨w.heap.size, 4, none⟩ = some (.int .i64 q) := L5.cell 4
  go_wp2_with fail
  have H5 := hide (fun (W : World) (hW : Below w5.heap.size w5 W) => And.intro (S5.below hW S5.lt) (And.intro (L5.below hW L5.lt) (SD5.below hW)))
  have HBB := hide (fun (W : World) (hW : Below w5.heap.size w5 W) => HB5.out.trans (hW.mono HB5.out.size))
  clear hW5 n5 S5 SD5 SD4 L4 HB4 HB3 HB2 HB1
  refine (HTO.out w5 HB5.out).mono ?_
  rintro e w6 ⟨x6, rfl, ho6, hb6⟩
  have XR6 := ownD_raw ho6 HM.out
  have XD6 := ho6.at
  have L6 := L5.below hb6 L5.lt
  have C6 := hide hb6
  obtain ⟨e1, k1, d1, e2, k2, d2, e3, k3, d3, e4, k4, d4, qx, hx6⟩ := ho6.at.shape
  subst hx6
  clear ho6 hb6 t0 t1 t2 t3 t4 L5
  have n7 := below_new w6 (.cells #[.slice e1 k1 d1, .slice e2 k2 d2, .slice e3 k3 d3, .slice e4 k4 d4, .int .i64 qx] 27)
  have XB7 := Laid.new w6 #[.slice e1 k1 d1, .slice e2 k2 d2, .slice e3 k3 d3, .slice e4 k4 d4, .int .i64 qx] 27
  have XD7 := XD6.below n7
  have XR7 := XR6.below n7
  have C7 := hide (C6.out.trans (n7.mono C6.out.size))
  have s67 := n7.size
  have s56 := C6.out.size
  have hz7 : (w6.alloc (.cells #[.slice e1 k1 d1, .slice e2 k2 d2, .slice e3 k3 d3, .slice e4 k4 d4, .int .i64 qx] 27)).heap.size = w6.heap.size + 1 := World.size_alloc ..
  generalize hW7 : w6.alloc (.cells #[.slice e1 k1 d1, .slice e2 k2 d2, .slice e3 k3 d3, .slice e4 k4 d4, .int .i64 qx] 27) = w7 at n7 XB7 XD7 XR7 C7 s67 hz7
  have h67 : w6.heap.size < w7.heap.size := by omega
  clear hz7
  go_wp2_with fail
  clear XD6 XR6 C6 L6 hW7 n7
  refine (HTI.out w7 (HBB.out w7 C7.out)).mono ?_
  rintro e w8 ⟨vs8, rfl, hi8, hb8⟩
  have XB8 := XB7.below hb8 XB7.lt
  have XD8 := XD7.below hb8
  have XR8 := XR7.below hb8
  have C8 := hide (C7.out.trans (hb8.mono C7.out.size))
  have z8 : w7.heap.size < w8.heap.size := (own_ge hi8.row rfl).2
  have HI8 := hide hi8.at
  have HY8 := hide (ownV_raw hi8 hol HOD.out)
  clear hb8 XB7 XD7 XR7 C7 hi8
  have b0 : w8.cell? ⟨w6.heap.size, 0, none⟩ = some (.slice e1 k1 d1) := XB8.cell 0
  have b1 : w8.cell? ⟨w6.heap.size, 1, none⟩ = some (.slice e2 k2 d2) := XB8.cell 1
  have b2 : w8.cell? ⟨w6.heap.size, 2, none⟩ = some (.slice e3 k3 d3) := XB8.cell 2
  have b3 : w8.cell? ⟨w6.heap.size, 3, none⟩ = some (.slice e4 k4 d4) := XB8.cell 3
  have b4 : w8.cell? ⟨w6.heap.size, 4, none⟩ = some (.int .i64 qx) := XB8.cell 4
  go_wp2_with fail
  refine (HIR.out _ w8 _ ops.length (HBB.out w8 C8.out) XD8 HI8.out).mono ?_
  rintro e w9 ⟨g1, g2, g3, g4, vs, rfl, hog, hb9⟩
  obtain ⟨f1, i1, l1, f2, i2, l2, f3, i3, l3, f4, i4, l4, rfl, rfl, rfl, rfl⟩ := da_slices hog
  clear b0 b1 b2 b3 b4
  have n10 := below_new w9 (.cells #[.slice f1 i1 l1, .slice f2 i2 l2, .slice f3 i3 l3, .slice f4 i4 l4, .int .i64 C.quota, .int .i64 (nn : Int), .int .i64 cc] 41)
  have hb10 := hb9.trans (n10.mono hb9.size)
  have GB10 := Laid.new w9 #[.slice f1 i1 l1, .slice f2 i2 l2, .slice f3 i3 l3, .slice f4 i4 l4, .int .i64 C.quota, .int .i64 (nn : Int), .int .i64 cc] 41
  have G10 := hog.below n10
  have s89 := hb9.size
  generalize hW10 : w9.alloc (.cells #[.slice f1 i1 l1, .slice f2 i2 l2, .slice f3 i3 l3, .slice f4 i4 l4, .int .i64 C.quota, .int .i64 (nn : Int), .int .i64 cc] 41) = w10 at n10 GB10 G10 hb10
  have hS : DoS w5 w10 w6.heap.size w7.heap.size w8.heap.size w9.heap.size (.slice e1 k1 d1) (.slice e2 k2 d2) (.slice e3 k3 d3) (.slice e4 k4 d4) qx D ops (.slice f1 i1 l1) (.slice f2 i2 l2) (.slice f3 i3 l3) (.slice f4 i4 l4) vs C (nn : Int) cc := ⟨C8.out.trans (hb10.mono C8.out.size), XD8.below hb10, XR8.below hb10, XB8.below hb10 XB8.lt, HI8.out.below hb10, HY8.out.below hb10, G10, GB10, by omega, by omega, z8, s89⟩
  have ST := hide hS
  obtain ⟨S10, L10, SD10⟩ := H5.out w10 hS.bel
  have u0 : w10.cell? ⟨w4.heap.size, 0, none⟩ = some (.slice q1 j1 r1) := S10.cell 0
  have u1 : w10.cell? ⟨w4.heap.size, 1, none⟩ = some (.slice q2 j2 r2) := S10.cell 1
  have u2 : w10.cell? ⟨w4.heap.size, 2, none⟩ = some (.slice q3 j3 r3) := S10.cell 2
  have u3 : w10.cell? ⟨w4.heap.size, 3, none⟩ = some (.slice q4 j4 r4) := S10.cell 3
  have u4 : w10.cell? ⟨w4.heap.size, 4, none⟩ = some (.int .i64 C.quota) := S10.cell 4
  have u5 : w10.cell? ⟨w4.heap.size, 5, none⟩ = some (.int .i64 (nn : Int)) := S10.cell 5
  have u6 : w10.cell? ⟨w4.heap.size, 6, none⟩ = some (.int .i64 cc) := S10.cell 6
  have v0 : w10.cell? ⟨w9.heap.size, 0, none⟩ = some (.slice f1 i1 l1) := GB10.cell 0
  have v1 : w10.cell? ⟨w9.heap.size, 1, none⟩ = some (.slice f2 i2 l2) := GB10.cell 1
  have v2 : w10.cell? ⟨w9.heap.size, 2, none⟩ = some (.slice f3 i3 l3) := GB10.cell 2
  have v3 : w10.cell? ⟨w9.heap.size, 3, none⟩ = some (.slice f4 i4 l4) := GB10.cell 3
  have v4 : w10.cell? ⟨w9.heap.size, 4, none⟩ = some (.int .i64 C.quota) := GB10.cell 4
  have v5 : w10.cell? ⟨w9.heap.size, 5, none⟩ = some (.int .i64 (nn : Int)) := GB10.cell 5
  have v6 : w10.cell? ⟨w9.heap.size, 6, none⟩ = some (.int .i64 cc) := GB10.cell 6
  have GD10 := G10.own.at
  clear hS n10 hb10 GB10 G10 XD8 XR8 XB8 HI8 HY8 C8 hb9 hog S10 L10
  have HEC := hide (fun (a1 a2 a3 a4 b1 b2 b3 b4 : Option Addr) (c1 c2 c3 c4 d1 d2 d3 d4 m1 m2 m3 m4 k1 k2 k3 k4 : Nat) (W : World) hr hr' => eqDone_same C C.quota (nn : Int) cc a1 a2 a3 a4 b1 b2 b3 b4 c1 c2 c3 c4 d1 d2 d3 d4 m1 m2 m3 m4 k1 k2 k3 k4 W HSC.out.n1 HSC.out.n2 HSC.out.n3 HSC.out.n4 HSC.out.ns hr hr')
  go_wp2_with fail
  refine (HEC.out _ _ _ _ _ _ _ _ _ _ _ _ _ _ _ _ _ _ _ _ _ _ _ _ w10 GD10 SD10).mono ?_
  rintro e w11 ⟨rfl, hb11⟩
  have ST11 := hide (ST.out.below hb11)
  clear hb11 ST u0 u1 u2 u3 u4 u5 u6 v0 v1 v2 v3 v4 v5 v6 GD10 SD10 hW10
  obtain ⟨-, L11, -⟩ := H5.out w11 ST11.out.bel
  have XB11 := ST11.out.xb
  have t0 : w11.cell? ⟨w.heap.size, 0, none⟩ = some (.slice a1 m1 c1) := L11.cell 0
  have t1 : w11.cell? ⟨w.heap.size, 1, none⟩ = some (.slice a2 m2 c2) := L11.cell 1
  have t2 : w11.cell? ⟨w.heap.size, 2, none⟩ = some (.slice a3 m3 c3) := L11.cell 2
  have t3 : w11.cell? ⟨w.heap.size, 3, none⟩ = some (.slice a4 m4 c4) := L11.cell 3
  have t4 : w11.cell? ⟨w.heap.size, 4, none⟩ = some (.int .i64 q) := L11.cell 4
  have b0 : w11.cell? ⟨w6.heap.size, 0, none⟩ = some (.slice e1 k1 d1) := XB11.cell 0
  have b1 : w11.cell? ⟨w6.heap.size, 1, none⟩ = some (.slice e2 k2 d2) := XB11.cell 1
  have b2 : w11.cell? ⟨w6.heap.size, 2, none⟩ = some (.slice e3 k3 d3) := XB11.cell 2
  have b3 : w11.cell? ⟨w6.heap.size, 3, none⟩ = some (.slice e4 k4 d4) := XB11.cell 3
  have b4 : w11.cell? ⟨w6.heap.size, 4, none⟩ = some (.int .i64 qx) := XB11.cell 4
  clear L11 XB11
  go_wp2
  have HTD := hide (fun (X : World) (hX : Below w11.heap.size w11 X) => HTO.out X ((HBB.out w11 ST11.out.bel).trans (hX.mono (HBB.out w11 ST11.out.bel).size)))
  have HX11 := hide ST11.out.xd
  go_cut [44] (fun s wx => s = .bool false ∧ Below w11.heap.size w11 wx)
  case first =>
    go_region_with (first
      | (go_at_call 13; refine (HTD.out _ (Below.refl _ _).drew).mono ?_; rintro e w12 ⟨x12, rfl, ho12, hb12⟩; have z0 : w12.cell? ⟨w6.heap.size, 0, none⟩ = some (.slice e1 k1 d1) := (hb12.cell (p := ⟨w6.heap.size, 0, none⟩) (lt_of_cell0 b0)).trans b0; have z1 : w12.cell? ⟨w6.heap.size, 1, none⟩ = some (.slice e2 k2 d2) := (hb12.cell (p := ⟨w6.heap.size, 1, none⟩) (lt_of_cell0 b1)).trans b1; have z2 : w12.cell? ⟨w6.heap.size, 2, none⟩ = some (.slice e3 k3 d3) := (hb12.cell (p := ⟨w6.heap.size, 2, none⟩) (lt_of_cell0 b2)).trans b2; have z3 : w12.cell? ⟨w6.heap.size, 3, none⟩ = some (.slice e4 k4 d4) := (hb12.cell (p := ⟨w6.heap.size, 3, none⟩) (lt_of_cell0 b3)).trans b3; have z4 : w12.cell? ⟨w6.heap.size, 4, none⟩ = some (.int .i64 qx) := (hb12.cell (p := ⟨w6.heap.size, 4, none⟩) (lt_of_cell0 b4)).trans b4; have HO12 := hide ho12.at; have HB12 := hide (show Below w11.heap.size w11 w12 from (Below.refl _ _).drew.trans hb12); clear ho12 hb12)
      | (go_at_call 7; refine (HEX.out _ _ w12 (HX11.out.below HB12.out) HO12.out).mono ?_; rintro e w13 ⟨rfl, hb13⟩; have HB13 := hide (HB12.out.trans (hb13.mono HB12.out.size)); clear hb13)
      | fail)
    all_goals
      go_wp2_with fail
      go_meet
      case rel => exact ⟨by first | rfl | simp [*], HB13.out⟩
  case rest =>
    obtain ⟨rfl, hbc⟩ := hcut
    obtain ⟨w13, ew⟩ : ∃ x, x = wc := ⟨wc, rfl⟩
    subst ew
    have ST13 := hide (ST11.out.below hbc)
    clear hbc t0 t1 t2 t3 t4 b0 b1 b2 b3 b4 HTD HX11 ST11 HEX
    go_wp2_with fail
    refine (HTI.out w13 (HBB.out w13 ST13.out.bel)).mono ?_
    rintro e w14 ⟨vs14, rfl, hi14, hb14⟩
    have ST14 := hide (ST13.out.below hb14)
    have HI14 := hide hi14.at
    clear hb14 hi14 ST13
    go_wp2_with fail
    refine (HEO.out _ _ _ _ w14 ST14.out.y HI14.out).mono ?_
    rintro e w15 ⟨rfl, hb15⟩
    have ST15 := hide (ST14.out.below hb15)
    clear hb15 ST14 HI14
    have XB15 := ST15.out.xb
    have b0 : w15.cell? ⟨w6.heap.size, 0, none⟩ = some (.slice e1 k1 d1) := XB15.cell 0
    have b1 : w15.cell? ⟨w6.heap.size, 1, none⟩ = some (.slice e2 k2 d2) := XB15.cell 1
    have b2 : w15.cell? ⟨w6.heap.size, 2, none⟩ = some (.slice e3 k3 d3) := XB15.cell 2
    have b3 : w15.cell? ⟨w6.heap.size, 3, none⟩ = some (.slice e4 k4 d4) := XB15.cell 3
    have b4 : w15.cell? ⟨w6.heap.size, 4, none⟩ = some (.int .i64 qx) := XB15.cell 4
    have hle15 : w6.heap.size ≤ w15.heap.size := Nat.le_of_lt XB15.lt
    clear XB15
    go_wp2_with fail
    refine (markDisk_rawK w5.heap.size w6.heap.size _ w15 hle15 ST15.out.xr).mono ?_
    rintro e w16 ⟨⟨kk, rfl, hkk⟩, ho16⟩
    have I16 := hide (ST15.out.ops ho16)
    have HO16 := hide ho16
    clear ho16 b0 b1 b2 b3 b4 hle15
    go_wp2_with fail
    refine (markV_el w7.heap.size w8.heap.size kk _ w16 hkk I16.out).mono ?_
    rintro e w17 ⟨⟨K17, rfl⟩, ho17⟩
    have T17 := hide (ST15.out.marked HO16.out ho17)
    clear ho17 HO16 I16 ST15
    have hK0 : ¬ ((K17 : Nat) : Int) < 0 := by omega
    obtain ⟨S17, -, SD17⟩ := H5.out w17 T17.out.bel
    have GB17 := T17.out.gb
    have GD17 := T17.out.g.own.at
    have u0 : w17.cell? ⟨w4.heap.size, 0, none⟩ = some (.slice q1 j1 r1) := S17.cell 0
    have u1 : w17.cell? ⟨w4.heap.size, 1, none⟩ = some (.slice q2 j2 r2) := S17.cell 1
    have u2 : w17.cell? ⟨w4.heap.size, 2, none⟩ = some (.slice q3 j3 r3) := S17.cell 2
    have u3 : w17.cell? ⟨w4.heap.size, 3, none⟩ = some (.slice q4 j4 r4) := S17.cell 3
    have u4 : w17.cell? ⟨w4.heap.size, 4, none⟩ = some (.int .i64 C.quota) := S17.cell 4
    have u5 : w17.cell? ⟨w4.heap.size, 5, none⟩ = some (.int .i64 (nn : Int)) := S17.cell 5
    have u6 : w17.cell? ⟨w4.heap.size, 6, none⟩ = some (.int .i64 cc) := S17.cell 6
    have v0 : w17.cell? ⟨w9.heap.size, 0, none⟩ = some (.slice f1 i1 l1) := GB17.cell 0
    have v1 : w17.cell? ⟨w9.heap.size, 1, none⟩ = some (.slice f2 i2 l2) := GB17.cell 1
    have v2 : w17.cell? ⟨w9.heap.size, 2, none⟩ = some (.slice f3 i3 l3) := GB17.cell 2
    have v3 : w17.cell? ⟨w9.heap.size, 3, none⟩ = some (.slice f4 i4 l4) := GB17.cell 3
    have v4 : w17.cell? ⟨w9.heap.size, 4, none⟩ = some (.int .i64 C.quota) := GB17.cell 4
    have v5 : w17.cell? ⟨w9.heap.size, 5, none⟩ = some (.int .i64 (nn : Int)) := GB17.cell 5
    have v6 : w17.cell? ⟨w9.heap.size, 6, none⟩ = some (.int .i64 cc) := GB17.cell 6
    clear S17 GB17
    go_wp2_with fail
    refine (HEC.out _ _ _ _ _ _ _ _ _ _ _ _ _ _ _ _ _ _ _ _ _ _ _ _ w17 GD17 SD17).mono ?_
    rintro e w18 ⟨rfl, hb18⟩
    have T18 := hide (T17.out.below hb18)
    clear hb18 T17 u0 u1 u2 u3 u4 u5 u6 v0 v1 v2 v3 v4 v5 v6 GD17 SD17 hK0
    have GB18 := T18.out.gb
    have hlt18 := GB18.lt
    have v0 : w18.cell? ⟨w9.heap.size, 0, none⟩ = some (.slice f1 i1 l1) := GB18.cell 0
    have v1 : w18.cell? ⟨w9.heap.size, 1, none⟩ = some (.slice f2 i2 l2) := GB18.cell 1
    have v2 : w18.cell? ⟨w9.heap.size, 2, none⟩ = some (.slice f3 i3 l3) := GB18.cell 2
    have v3 : w18.cell? ⟨w9.heap.size, 3, none⟩ = some (.slice f4 i4 l4) := GB18.cell 3
    have v4 : w18.cell? ⟨w9.heap.size, 4, none⟩ = some (.int .i64 C.quota) := GB18.cell 4
    have v5 : w18.cell? ⟨w9.heap.size, 5, none⟩ = some (.int .i64 (nn : Int)) := GB18.cell 5
    have v6 : w18.cell? ⟨w9.heap.size, 6, none⟩ = some (.int .i64 cc) := GB18.cell 6
    clear GB18
    go_wp2_with fail
    refine (markDone_own w8.heap.size w9.heap.size _ _ _ _ vs C (nn : Int) cc w18 (by omega) HSC.out.k (by have := HSC.out.n1; omega) T18.out.g).mono ?_
    rintro e w19 ⟨rfl, ⟨vs', hg19⟩, f19⟩
    have T19 := hide (T18.out.marked hg19 f19)
    clear hg19 f19 T18 v0 v1 v2 v3 v4 v5 v6 hlt18
    have HLD := hide (fun (W : World) (h : DiskAt W (.agg #[.slice f1 i1 l1, .slice f2 i2 l2, .slice f3 i3 l3, .slice f4 i4 l4, .int .i64 C.quota]) (mkD C)) => heldDone_any _ _ _ _ C C.quota (nn : Int) cc W HSC.out.k (by have := HSC.out.n1; omega) h)
    generalize kD4 C = KC at HLD
    have hKC : ¬ ((KC : Nat) : Int) < 0 := by omega
    have hKK : (((KC : Nat) : Int) != ((KC : Nat) : Int)) = false := by simp
    have GB19 := T19.out.gb
    have v0 : w19.cell? ⟨w9.heap.size, 0, none⟩ = some (.slice f1 i1 l1) := GB19.cell 0
    have v1 : w19.cell? ⟨w9.heap.size, 1, none⟩ = some (.slice f2 i2 l2) := GB19.cell 1
    have v2 : w19.cell? ⟨w9.heap.size, 2, none⟩ = some (.slice f3 i3 l3) := GB19.cell 2
    have v3 : w19.cell? ⟨w9.heap.size, 3, none⟩ = some (.slice f4 i4 l4) := GB19.cell 3
    have v4 : w19.cell? ⟨w9.heap.size, 4, none⟩ = some (.int .i64 C.quota) := GB19.cell 4
    have v5 : w19.cell? ⟨w9.heap.size, 5, none⟩ = some (.int .i64 (nn : Int)) := GB19.cell 5
    have v6 : w19.cell? ⟨w9.heap.size, 6, none⟩ = some (.int .i64 cc) := GB19.cell 6
    clear GB19
    go_wp2_with fail
    refine (HLD.out w19 T19.out.g.own.at).mono ?_
    rintro e w20 ⟨rfl, hb20⟩
    have T20 := hide (T19.out.below hb20)
    clear hb20 T19 v0 v1 v2 v3 v4 v5 v6
    obtain ⟨-, L20, -⟩ := H5.out w20 T20.out.bel
    have t0 : w20.cell? ⟨w.heap.size, 0, none⟩ = some (.slice a1 m1 c1) := L20.cell 0
    have t1 : w20.cell? ⟨w.heap.size, 1, none⟩ = some (.slice a2 m2 c2) := L20.cell 1
    have t2 : w20.cell? ⟨w.heap.size, 2, none⟩ = some (.slice a3 m3 c3) := L20.cell 2
    have t3 : w20.cell? ⟨w.heap.size, 3, none⟩ = some (.slice a4 m4 c4) := L20.cell 3
    have t4 : w20.cell? ⟨w.heap.size, 4, none⟩ = some (.int .i64 q) := L20.cell 4
    clear L20
    go_wp2_with fail
    refine (HTO.out w20 (HBB.out w20 T20.out.bel)).mono ?_
    rintro e w21 ⟨x21, rfl, ho21, hb21⟩
    have T21 := hide (T20.out.below hb21)
    have HO21 := hide ho21
    clear ho21 hb21 t0 t1 t2 t3 t4 T20
    go_wp2_with fail
    refine (HTI.out w21 (HBB.out w21 T21.out.bel)).mono ?_
    rintro e w22 ⟨vs22, rfl, hi22, hb22⟩
    have T22 := hide (T21.out.below hb22)
    have HI22 := hide (HIR.out x21 w22 _ ops.length (HBB.out w22 T22.out.bel) (HO21.out.at.below hb22) hi22.at)
    clear hb22 hi22 HO21 T21
    go_wp2_with fail
    refine HI22.out.mono ?_
    rintro e w23 ⟨y1, y2, y3, y4, yvs, rfl, hoy, hb23⟩
    obtain ⟨y1, o1, p1, y2, o2, p2, y3, o3, p3, y4, o4, p4, rfl, rfl, rfl, rfl⟩ := da_slices hoy
    have n24 := below_new w23 (.cells #[.slice y1 o1 p1, .slice y2 o2 p2, .slice y3 o3 p3, .slice y4 o4 p4, .int .i64 C.quota, .int .i64 (nn : Int), .int .i64 cc] 41)
    have Y24 := Laid.new w23 #[.slice y1 o1 p1, .slice y2 o2 p2, .slice y3 o3 p3, .slice y4 o4 p4, .int .i64 C.quota, .int .i64 (nn : Int), .int .i64 cc] 41
    have hb24 := hb23.trans (n24.mono hb23.size)
    have T24 := hide (T22.out.below hb24)
    have YD24 := hoy.own.at.below n24
    generalize hW24 : w23.alloc (.cells #[.slice y1 o1 p1, .slice y2 o2 p2, .slice y3 o3 p3, .slice y4 o4 p4, .int .i64 C.quota, .int .i64 (nn : Int), .int .i64 cc] 41) = w24 at n24 Y24 hb24 T24 YD24
    obtain ⟨S24, -, SD24⟩ := H5.out w24 T24.out.bel
    have u0 : w24.cell? ⟨w4.heap.size, 0, none⟩ = some (.slice q1 j1 r1) := S24.cell 0
    have u1 : w24.cell? ⟨w4.heap.size, 1, none⟩ = some (.slice q2 j2 r2) := S24.cell 1
    have u2 : w24.cell? ⟨w4.heap.size, 2, none⟩ = some (.slice q3 j3 r3) := S24.cell 2
    have u3 : w24.cell? ⟨w4.heap.size, 3, none⟩ = some (.slice q4 j4 r4) := S24.cell 3
    have u4 : w24.cell? ⟨w4.heap.size, 4, none⟩ = some (.int .i64 C.quota) := S24.cell 4
    have u5 : w24.cell? ⟨w4.heap.size, 5, none⟩ = some (.int .i64 (nn : Int)) := S24.cell 5
    have u6 : w24.cell? ⟨w4.heap.size, 6, none⟩ = some (.int .i64 cc) := S24.cell 6
    have v0 : w24.cell? ⟨w23.heap.size, 0, none⟩ = some (.slice y1 o1 p1) := Y24.cell 0
    have v1 : w24.cell? ⟨w23.heap.size, 1, none⟩ = some (.slice y2 o2 p2) := Y24.cell 1
    have v2 : w24.cell? ⟨w23.heap.size, 2, none⟩ = some (.slice y3 o3 p3) := Y24.cell 2
    have v3 : w24.cell? ⟨w23.heap.size, 3, none⟩ = some (.slice y4 o4 p4) := Y24.cell 3
    have v4 : w24.cell? ⟨w23.heap.size, 4, none⟩ = some (.int .i64 C.quota) := Y24.cell 4
    have v5 : w24.cell? ⟨w23.heap.size, 5, none⟩ = some (.int .i64 (nn : Int)) := Y24.cell 5
    have v6 : w24.cell? ⟨w23.heap.size, 6, none⟩ = some (.int .i64 cc) := Y24.cell 6
    clear n24 Y24 hb24 S24 hb23 hoy HI22 T22
    go_wp2_with fail
    refine (HEC.out _ _ _ _ _ _ _ _ _ _ _ _ _ _ _ _ _ _ _ _ _ _ _ _ w24 YD24 SD24).mono ?_
    rintro e w25 ⟨rfl, hb25⟩
    have T25 := hide (T24.out.below hb25)
    clear hb25 T24 u0 u1 u2 u3 u4 u5 u6 v0 v1 v2 v3 v4 v5 v6 YD24 SD24 hW24
    have GB25 := T25.out.gb
    have v0 : w25.cell? ⟨w9.heap.size, 0, none⟩ = some (.slice f1 i1 l1) := GB25.cell 0
    have v1 : w25.cell? ⟨w9.heap.size, 1, none⟩ = some (.slice f2 i2 l2) := GB25.cell 1
    have v2 : w25.cell? ⟨w9.heap.size, 2, none⟩ = some (.slice f3 i3 l3) := GB25.cell 2
    have v3 : w25.cell? ⟨w9.heap.size, 3, none⟩ = some (.slice f4 i4 l4) := GB25.cell 3
    have v4 : w25.cell? ⟨w9.heap.size, 4, none⟩ = some (.int .i64 C.quota) := GB25.cell 4
    have v5 : w25.cell? ⟨w9.heap.size, 5, none⟩ = some (.int .i64 (nn : Int)) := GB25.cell 5
    have v6 : w25.cell? ⟨w9.heap.size, 6, none⟩ = some (.int .i64 cc) := GB25.cell 6
    clear GB25
    go_wp2_with fail
    refine (HLD.out w25 T25.out.g.own.at).mono ?_
    rintro e w26 ⟨rfl, hb26⟩
    have HB26 := hide (HBB.out w26 (T25.out.below hb26).bel)
    clear hb26 T25 v0 v1 v2 v3 v4 v5 v6
    go_wp2
    go_ret
    exact ⟨rfl, HB26.out⟩
end Go.Proofs.YtpbpidfjecejcaaGreatDoor
namespace Go.Proofs.YtpbpidfjecejcaaGreatDoor
open Go.ChangeShapes Go.WideShapes Go.ChangeAt Go.RowKit Go.Deep
set_option linter.unusedVariables false
section
variable {H : Type} {enc : TypeId × Value → H} {W : World}
set_option maxRecDepth 20000 in
theorem opv_open {fuel : Nat} {v : Value} {x : DataW H × List MemPlace} (h : DataW.trod enc Tryz.prog W 0 (fun _ => true) true fuel 37 [v] = some x) :
    ∃ (a : Option Addr) (c : Nat) (es : List OpV), v = .slice a es.length c ∧ InOps W a es := by
  have ce : Tryz.prog.cellsOf 72 = 4 := by kernel_rfl
  have c3 : Tryz.prog.cellsOf 3 = 1 := by kernel_rfl
  have c9 : Tryz.prog.cellsOf 9 = 1 := by kernel_rfl
  have cb : Tryz.prog.cellsOf 52 = 1 := by kernel_rfl
  rcases open_slice Tryz.underlying37 h with ⟨hcs, _⟩ | ⟨x, l, c, m, fu, D, Pl, hcs, _, hl, hm, hmm, _, hx⟩
  · simp only [List.cons.injEq, and_true] at hcs
    exact ⟨none, 0, [], hcs, (fun h => absurd h (Nat.lt_irrefl _)), by simp, (fun e he => by cases he)⟩
  · simp only [List.cons.injEq, and_true] at hcs
    have hmm2 : m = c := by simpa using hmm
    have each : ∀ i, i < l → ∃ q : OpV, W.cell? (x.add (i * 4)) = some (.int .i64 q.1) ∧ W.cell? (x.add (i * 4 + 1)) = some (.string q.2.1) ∧ W.cell? (x.add (i * 4 + 2)) = some (.string q.2.2.1) ∧ (∃ ai ci, W.cell? (x.add (i * 4 + 3)) = some (.slice ai q.2.2.2.length ci) ∧ RowAt W ai q.2.2.2) ∧ q.2.1.size ≤ 9223372036854775807 ∧ q.2.2.1.size ≤ 9223372036854775807 ∧ q.2.2.2.length ≤ 9223372036854775807 := fun i hi => by
      obtain ⟨cs', h1, h2⟩ := hx i (by omega)
      rw [ce] at h1
      obtain ⟨_, hlen, hcell⟩ := World.cells?_some h1
      obtain ⟨xs, k, hk, hxy, _, hxl, hf⟩ := DataW.trod_struct Tryz.underlying72 h2
      match cs', hlen with
      | [v0, v1, v2, v3], _ =>
        have e0 := hcell 0 (by omega)
        have e1 := hcell 1 (by omega)
        have e2 := hcell 2 (by omega)
        have e3 := hcell 3 (by omega)
        rw [add_add] at e0 e1 e2 e3
        have hxl4 : xs.length = 4 := hxl
        match xs, hxl4 with
        | [y0, y1, y2, y3], _ =>
          have g0 : (DataW.trod enc Tryz.prog W 0 (fun _ => true) true k 3 (([v0, v1, v2, v3].drop 0).take (Tryz.prog.cellsOf 3)) = some y0) := hf 0 _ rfl
          rw [c3] at g0
          have g0 : DataW.trod enc Tryz.prog W 0 (fun _ => true) true k 3 [v0] = some y0 := g0
          have g1 : (DataW.trod enc Tryz.prog W 0 (fun _ => true) true k 9 (([v0, v1, v2, v3].drop 1).take (Tryz.prog.cellsOf 9)) = some y1) := hf 1 _ rfl
          rw [c9] at g1
          have g1 : DataW.trod enc Tryz.prog W 0 (fun _ => true) true k 9 [v1] = some y1 := g1
          have g2 : (DataW.trod enc Tryz.prog W 0 (fun _ => true) true k 9 (([v0, v1, v2, v3].drop 2).take (Tryz.prog.cellsOf 9)) = some y2) := hf 2 _ rfl
          rw [c9] at g2
          have g2 : DataW.trod enc Tryz.prog W 0 (fun _ => true) true k 9 [v2] = some y2 := g2
          have g3 : (DataW.trod enc Tryz.prog W 0 (fun _ => true) true k 52 (([v0, v1, v2, v3].drop 3).take (Tryz.prog.cellsOf 52)) = some y3) := hf 3 _ rfl
          rw [cb] at g3
          have g3 : DataW.trod enc Tryz.prog W 0 (fun _ => true) true k 52 [v3] = some y3 := g3
          obtain ⟨z0, r0, _⟩ := DataW.trod_int Tryz.underlying3 g0
          obtain ⟨s1, r1, _, hs1⟩ := DataW.trod_string Tryz.underlying9 g1
          obtain ⟨s2, r2, _, hs2⟩ := DataW.trod_string Tryz.underlying9 g2
          obtain ⟨ai, ci, bl, r3, hr3, hbl⟩ := bytes_open g3
          simp only [List.cons.injEq, and_true] at r0 r1 r2
          subst r0 r1 r2 r3
          exact ⟨(z0, s1, s2, bl), by simpa using e0, by simpa using e1, by simpa using e2, ⟨ai, ci, by simpa using e3, hr3⟩, by unfold maxLen at hs1; simp only; omega, by unfold maxLen at hs2; simp only; omega, hbl⟩
    obtain ⟨q, hq⟩ := choose_lt each
    have hlen : ((List.range l).map q).length = l := by simp
    refine ⟨some x, c, (List.range l).map q, by rw [hlen]; exact hcs, fun hp => ?_, by rw [hlen]; unfold maxLen at hm; omega, fun e he => ?_⟩
    · obtain ⟨b, off, spot⟩ := x
      have hspot : spot = none := by simpa [Addr.add] using World.cell?_spot (hq 0 (by omega)).1
      subst hspot
      refine ⟨b, off, rfl, fun i hi => ?_⟩
      obtain ⟨k0, k1, k2, ⟨ai, ci, k3, kr⟩, _⟩ := hq i (by omega)
      rw [addr_add] at k0 k1 k2 k3
      simp only [List.getElem_map, List.getElem_range]
      exact ⟨ai, ci, k0, k1, k2, k3, kr⟩
    · obtain ⟨i, hi, rfl⟩ := List.mem_map.1 he
      exact (hq i (List.mem_range.1 hi)).2.2.2.2
end
end Go.Proofs.YtpbpidfjecejcaaGreatDoor
