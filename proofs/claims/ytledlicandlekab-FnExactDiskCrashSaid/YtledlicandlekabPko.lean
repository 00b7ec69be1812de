import Derived.Test.YtledlicandlekabPka
import Derived.Test.YtledlicandlekabPkb
import Derived.Test.YtledlicandlekabPkc
import Derived.Test.YtledlicandlekabPkd
import Derived.Test.YtledlicandlekabPke
import Derived.Test.YtledlicandlekabPkf
import Derived.Test.YtledlicandlekabPkg
import Derived.Test.YtledlicandlekabShelfI
import Derived.Test.YtledlicandlekabPkh
import Derived.Test.YtledlicandlekabPki
import Derived.Test.YtledlicandlekabPkj
import Derived.Test.YtledlicandlekabPkk
import Derived.Test.YtledlicandlekabPkl
import Derived.Test.YtledlicandlekabPkm
import Derived.Test.YtledlicandlekabPkn
namespace Go.Proofs.Ytledlicandlekab
open Go.RowKit
theorem drewn_below {w w1 : World} {n : Nat} (h : w1 = w.drewN n) : Below w.heap.size w w1 := by rw [h]; exact below_drewN (Below.refl _ _) n
theorem below_new (w : World) (o : Obj) : Below w.heap.size w (w.alloc o) := (Below.refl _ _).alloc (Nat.le_refl _) _
theorem Laid.out {lo hi : Nat} {w w' : World} {g : Nat} {cs : Array Value} {t : TypeId} (h : Laid w g cs t) (ho : Out lo hi w w') (hg : g < lo ∨ hi ≤ g) : Laid w' g cs t := (ho.block g h.lt hg).trans h
set_option maxRecDepth 20000 in
set_option maxHeartbeats 1000000 in
theorem read_law {w : World} {v : Value} {D : MDisk} (nm : ByteArray) (h : InDisk w v D) :
    Calls Try.prog 3 #[v, .string nm] w fun e w' => e = .returned (.bool true) ∧ Below w.heap.size w w' := by
  have HSZ := hide (fun w' (hb : Below w.heap.size w w') => szDisk_v (h.below hb))
  have HAT := hide (fun w' (hb : Below w.heap.size w w') => h.at_.below hb)
  have HWF := hide h.wf
  obtain ⟨a1, m1, c1, a2, m2, c2, a3, m3, c3, a4, m4, c4, q, hv⟩ := h.shape
  clear h
  subst hv
  have hA := (Below.refl w.heap.size w).alloc (Nat.le_refl _) (.cells #[.slice a1 m1 c1, .slice a2 m2 c2, .slice a3 m3 c3, .slice a4 m4 c4, .int .i64 q] 26)
  have L0 := Laid.new w #[.slice a1 m1 c1, .slice a2 m2 c2, .slice a3 m3 c3, .slice a4 m4 c4, .int .i64 q] 26
  by_cases hnm : 1048576 < nm.size
  · have hnmi : (1048576 : Int) < (nm.size : Int) := by omega
    go_enter Try.func3, Try.ntmps3
    go_wp2
    go_ret
    exact ⟨rfl, hA⟩
  have hnmi : ¬ (1048576 : Int) < (nm.size : Int) := by omega
  go_enter Try.func3, Try.ntmps3
  go_wp2_with fail
  generalize w.alloc (.cells #[.slice a1 m1 c1, .slice a2 m2 c2, .slice a3 m3 c3, .slice a4 m4 c4, .int .i64 q] 26) = w0 at hA L0 ⊢
  refine (HSZ.out w0 hA).mono ?_
  rintro e w1 ⟨rfl, hb1⟩
  have HB1 := hide (hA.trans (hb1.mono hA.size))
  have L1 := L0.below hb1 L0.lt
  have t0 : w1.cell? ⟨w.heap.size, 0, none⟩ = some (.slice a1 m1 c1) := L1.cell 0
  have t1 : w1.cell? ⟨w.heap.size, 1, none⟩ = some (.slice a2 m2 c2) := L1.cell 1
  have t2 : w1.cell? ⟨w.heap.size, 2, none⟩ = some (.slice a3 m3 c3) := L1.cell 2
  have t3 : w1.cell? ⟨w.heap.size, 3, none⟩ = some (.slice a4 m4 c4) := L1.cell 3
  have t4 : w1.cell? ⟨w.heap.size, 4, none⟩ = some (.int .i64 q) := L1.cell 4
  clear L0 hA hb1
  by_cases hbig : 1048576 < szOf D
  · rw [szRest_neg hbig]
    go_wp2
    go_ret
    exact ⟨rfl, HB1.out⟩
  have hsm : szOf D ≤ 1048576 := by omega
  have HM := hide (modest_of hsm)
  have HNS := hide (nodes_small hsm)
  rw [szRest_pos hsm]
  have hpos : ¬ ((1048576 : Nat) : Int) - (szOf D : Int) < 0 := by omega
  generalize ((1048576 : Nat) : Int) - (szOf D : Int) = rest at hpos ⊢
  have HTO := hide (fun (X : World) (hX : Below w.heap.size w X) => toDisk_any _ D X HM.out.n1 HM.out.n2 HM.out.n3 HM.out.n4 HNS.out (HAT.out X hX))
  have HSR := hide (fun (x : Value) (X : World) (hx : DiskAt X x D) => specRead_any x D nm X HM.out hx)
  have HIR := hide (fun (x : Value) (X : World) (hx : DiskAt X x D) => implRead_any x D nm X HM.out HWF.out hx)
  have HEQ := hide (fun (x y : Value) (X : World) (hx : DiskAt X x D) (hy : DiskAt X y D) => eqDisk_same x y D X HM.out.n1 HM.out.n2 HM.out.n3 HM.out.n4 HNS.out hx hy)
  have hrl : (rdOf D nm).2.length ≤ 1048576 := by
    by_cases hvd : ValidD D
    · rw [rdOf_yes hvd]; exact readD_len HM.out
    · rw [rdOf_no hvd]; simp
  generalize rdOf D nm = R at HSR HIR hrl
  obtain ⟨f, l⟩ := R
  unfold ReadPost at HSR HIR
  simp only at HSR HIR hrl
  clear hbig hsm HSZ HAT HWF HNS
  go_wp2_with fail
  refine (HTO.out w1 HB1.out).mono ?_
  rintro e w2 ⟨x, rfl, ho2, hb2⟩
  have L2 := L1.below hb2 L1.lt
  have HB2 := hide (HB1.out.trans (hb2.mono HB1.out.size))
  have HD2 := hide ho2.at
  clear ho2 hb2 t0 t1 t2 t3 t4 L1
  go_wp2_with fail
  refine (HSR.out x w2 HD2.out).mono ?_
  rintro e w3 ⟨v3, rfl, ho3, hb3⟩
  obtain ⟨a5, c5, rfl⟩ := ho3.slice
  have L3 := L2.below hb3 L2.lt
  have HB3 := hide (HB2.out.trans (hb3.mono HB2.out.size))
  clear L2 hb3 HD2
  have n4 := below_new w3 (.cells #[.bool f, .slice a5 l.length c5] 30)
  have S4 := Laid.new w3 #[.bool f, .slice a5 l.length c5] 30
  have L4 := L3.below n4 L3.lt
  have o4 := ho3.below n4 (Nat.le_refl _)
  have HB4 := hide (HB3.out.trans (n4.mono HB3.out.size))
  have s4 := n4.size
  have hz4 : (w3.alloc (.cells #[.bool f, .slice a5 l.length c5] 30)).heap.size = w3.heap.size + 1 := World.size_alloc ..
  generalize hW4 : w3.alloc (.cells #[.bool f, .slice a5 l.length c5] 30) = w4 at n4 S4 L4 o4 HB4 s4 hz4
  have t0 : w4.cell? ⟨w.heap.size, 0, none⟩ = some (.slice a1 m1 c1) := L4.cell 0
  have t1 : w4.cell? ⟨w.heap.size, 1, none⟩ = some (.slice a2 m2 c2) := L4.cell 1
  have t2 : w4.cell? ⟨w.heap.size, 2, none⟩ = some (.slice a3 m3 c3) := L4.cell 2
  have t3 : w4.cell? ⟨w.heap.size, 3, none⟩ = some (.slice a4 m4 c4) := L4.cell 3
  have t4 : w4.cell? ⟨w.heap.size, 4, none⟩ = some (.int .i64 q) := L4.cell 4
  go_wp2_with fail
  have H4 := hide (fun (W : World) (hW : Below w4.heap.size w4 W) => And.intro (S4.below hW (by omega)) (And.intro (L4.below hW (by have := L4.lt; omega)) (o4.below hW (Nat.le_refl _))))
  refine (HTO.out w4 HB4.out).mono ?_
  rintro e w5 ⟨x5, rfl, ho5, hb5⟩
  have L5 := L4.below hb5 L4.lt
  have S5 := S4.below hb5 S4.lt
  have o5 := o4.below hb5 (Nat.le_refl _)
  have HB5 := hide (HB4.out.trans (hb5.mono HB4.out.size))
  have X5 := ho5.at
  have R5 := ownD_raw ho5 HM.out
  have s5 := hb5.size
  have C5 := hide hb5
  obtain ⟨e1, k1, d1, e2, k2, d2, e3, k3, d3, e4, k4, d4, q4, hx5⟩ := ho5.at.shape
  subst hx5
  clear ho5 hb5 t0 t1 t2 t3 t4 L4 S4 o4 n4 hW4
  have n6 := below_new w5 (.cells #[.slice e1 k1 d1, .slice e2 k2 d2, .slice e3 k3 d3, .slice e4 k4 d4, .int .i64 q4] 36)
  have B6 := Laid.new w5 #[.slice e1 k1 d1, .slice e2 k2 d2, .slice e3 k3 d3, .slice e4 k4 d4, .int .i64 q4] 36
  have L6 := L5.below n6 L5.lt
  have S6 := S5.below n6 S5.lt
  have o6 := o5.below n6 (Nat.le_refl _)
  have X6 := X5.below n6
  have R6 := R5.below n6
  have C6 := hide (C5.out.trans (n6.mono C5.out.size))
  have HB6 := hide (HB5.out.trans (n6.mono HB5.out.size))
  have hz6 : (w5.alloc (.cells #[.slice e1 k1 d1, .slice e2 k2 d2, .slice e3 k3 d3, .slice e4 k4 d4, .int .i64 q4] 36)).heap.size = w5.heap.size + 1 := World.size_alloc ..
  generalize hW6 : w5.alloc (.cells #[.slice e1 k1 d1, .slice e2 k2 d2, .slice e3 k3 d3, .slice e4 k4 d4, .int .i64 q4] 36) = w6 at n6 B6 L6 S6 o6 X6 R6 HB6 hz6 C6
  clear L5 S5 o5 X5 R5
  have b0 : w6.cell? ⟨w5.heap.size, 0, none⟩ = some (.slice e1 k1 d1) := B6.cell 0
  have b1 : w6.cell? ⟨w5.heap.size, 1, none⟩ = some (.slice e2 k2 d2) := B6.cell 1
  have b2 : w6.cell? ⟨w5.heap.size, 2, none⟩ = some (.slice e3 k3 d3) := B6.cell 2
  have b3 : w6.cell? ⟨w5.heap.size, 3, none⟩ = some (.slice e4 k4 d4) := B6.cell 3
  have b4 : w6.cell? ⟨w5.heap.size, 4, none⟩ = some (.int .i64 q4) := B6.cell 4
  go_wp2_with fail
  refine (HIR.out _ w6 X6).mono ?_
  rintro e w7 ⟨v7, rfl, ho7, hb7⟩
  obtain ⟨a7, c7, rfl⟩ := ho7.slice
  have L7 := L6.below hb7 L6.lt
  have S7 := S6.below hb7 S6.lt
  have o7 := o6.below hb7 (Nat.le_refl _)
  have X7 := X6.below hb7
  have R7 := R6.below hb7
  have B7 := B6.below hb7 B6.lt
  have HB7 := hide (HB6.out.trans (hb7.mono HB6.out.size))
  have s7 := hb7.size
  have C7 := hide (C6.out.trans (hb7.mono C6.out.size))
  have HIN := hide (fun j hj => (World.ownsRow.lt ho7 j hj).2)
  clear hb7 L6 S6 o6 X6 R6 B6 n6 hW6 b0 b1 b2 b3 b4
  have n8 := below_new w7 (.cells #[.bool f, .slice a7 l.length c7] 30)
  have G8 := Laid.new w7 #[.bool f, .slice a7 l.length c7] 30
  have L8 := L7.below n8 L7.lt
  have S8 := S7.below n8 S7.lt
  have o8 := o7.below n8 (Nat.le_refl _)
  have X8 := X7.below n8
  have R8 := R7.below n8
  have B8 := B7.below n8 B7.lt
  have g8 := ho7.below n8 (Nat.le_refl _)
  have C8 := hide (C7.out.trans (n8.mono C7.out.size))
  have HB8 := hide (HB7.out.trans (n8.mono HB7.out.size))
  have hz8 : (w7.alloc (.cells #[.bool f, .slice a7 l.length c7] 30)).heap.size = w7.heap.size + 1 := World.size_alloc ..
  generalize hW8 : w7.alloc (.cells #[.bool f, .slice a7 l.length c7] 30) = w8 at n8 G8 L8 S8 o8 X8 R8 B8 g8 HB8 hz8 C8
  clear L7 S7 o7 X7 R7 B7 ho7
  have u0 : w8.cell? ⟨w3.heap.size, 0, none⟩ = some (.bool f) := S8.cell 0
  have u1 : w8.cell? ⟨w3.heap.size, 1, none⟩ = some (.slice a5 l.length c5) := S8.cell 1
  have v0 : w8.cell? ⟨w7.heap.size, 0, none⟩ = some (.bool f) := G8.cell 0
  have v1 : w8.cell? ⟨w7.heap.size, 1, none⟩ = some (.slice a7 l.length c7) := G8.cell 1
  go_wp2_with fail
  refine (eqContent_any a7 a5 c7 c5 f l w8 (by omega) g8.row o8.row).mono ?_
  rintro e w9 ⟨rfl, hb9⟩
  have L9 := L8.below hb9 L8.lt
  have S9 := S8.below hb9 S8.lt
  have o9 := o8.below hb9 (Nat.le_refl _)
  have X9 := X8.below hb9
  have R9 := R8.below hb9
  have B9 := B8.below hb9 B8.lt
  have G9 := G8.below hb9 G8.lt
  have g9 := g8.below hb9 (Nat.le_refl _)
  have HB9 := hide (HB8.out.trans (hb9.mono HB8.out.size))
  have s9 := hb9.size
  have C9 := hide (C8.out.trans (hb9.mono C8.out.size))
  clear hb9 L8 S8 o8 X8 R8 B8 G8 g8 n8 hW8 u0 u1 v0 v1
  have t0 : w9.cell? ⟨w.heap.size, 0, none⟩ = some (.slice a1 m1 c1) := L9.cell 0
  have t1 : w9.cell? ⟨w.heap.size, 1, none⟩ = some (.slice a2 m2 c2) := L9.cell 1
  have t2 : w9.cell? ⟨w.heap.size, 2, none⟩ = some (.slice a3 m3 c3) := L9.cell 2
  have t3 : w9.cell? ⟨w.heap.size, 3, none⟩ = some (.slice a4 m4 c4) := L9.cell 3
  have t4 : w9.cell? ⟨w.heap.size, 4, none⟩ = some (.int .i64 q) := L9.cell 4
  have b0 : w9.cell? ⟨w5.heap.size, 0, none⟩ = some (.slice e1 k1 d1) := B9.cell 0
  have b1 : w9.cell? ⟨w5.heap.size, 1, none⟩ = some (.slice e2 k2 d2) := B9.cell 1
  have b2 : w9.cell? ⟨w5.heap.size, 2, none⟩ = some (.slice e3 k3 d3) := B9.cell 2
  have b3 : w9.cell? ⟨w5.heap.size, 3, none⟩ = some (.slice e4 k4 d4) := B9.cell 3
  have b4 : w9.cell? ⟨w5.heap.size, 4, none⟩ = some (.int .i64 q4) := B9.cell 4
  go_wp2
  have HTD := hide (fun (X : World) (hX : Below w9.heap.size w9 X) => HTO.out X (HB9.out.trans (hX.mono HB9.out.size)))
  have HX9 := hide X9
  have HKP := hide (And.intro R9 (And.intro B9 (And.intro G9 g9)))
  clear L9 S9 o9 X9 R9 B9 G9 g9
  go_region_with (first
    | (go_at_call 7; refine (HTD.out _ (Below.refl _ _).drew).mono ?_; rintro e w10 ⟨x10, rfl, ho10, hb10⟩; have z0 : w10.cell? ⟨w5.heap.size, 0, none⟩ = some (.slice e1 k1 d1) := (hb10.cell (p := ⟨w5.heap.size, 0, none⟩) (lt_of_cell0 b0)).trans b0; have z1 : w10.cell? ⟨w5.heap.size, 1, none⟩ = some (.slice e2 k2 d2) := (hb10.cell (p := ⟨w5.heap.size, 1, none⟩) (lt_of_cell0 b1)).trans b1; have z2 : w10.cell? ⟨w5.heap.size, 2, none⟩ = some (.slice e3 k3 d3) := (hb10.cell (p := ⟨w5.heap.size, 2, none⟩) (lt_of_cell0 b2)).trans b2; have z3 : w10.cell? ⟨w5.heap.size, 3, none⟩ = some (.slice e4 k4 d4) := (hb10.cell (p := ⟨w5.heap.size, 3, none⟩) (lt_of_cell0 b3)).trans b3; have z4 : w10.cell? ⟨w5.heap.size, 4, none⟩ = some (.int .i64 q4) := (hb10.cell (p := ⟨w5.heap.size, 4, none⟩) (lt_of_cell0 b4)).trans b4; have HB10 := hide (((Below.refl w9.heap.size w9).drew).trans hb10); have HO10 := hide ho10.at; clear ho10 hb10)
    | (go_at_call 10; refine (HEQ.out _ _ w10 (HX9.out.below HB10.out) HO10.out).mono ?_; rintro e w11 ⟨rfl, hb11⟩; have HB11 := hide hb11; clear hb11))
  all_goals
    have hb911 := HB10.out.trans (HB11.out.mono HB10.out.size)
    obtain ⟨R9, B9, G9, g9⟩ := HKP.out
    have R11 := R9.below hb911
    have B11 := B9.below hb911 B9.lt
    have G11 := G9.below hb911 G9.lt
    have g11 := g9.below hb911 (Nat.le_refl _)
    have C11 := hide (C9.out.trans (hb911.mono C9.out.size))
    have hsz11 := hb911.size
    clear R9 B9 G9 g9 HKP HTD HX9 HEQ HB10 HB11 HO10 t0 t1 t2 t3 t4 b0 b1 b2 b3 b4 z0 z1 z2 z3 z4 hb911
    have b0 : w11.cell? ⟨w5.heap.size, 0, none⟩ = some (.slice e1 k1 d1) := B11.cell 0
    have b1 : w11.cell? ⟨w5.heap.size, 1, none⟩ = some (.slice e2 k2 d2) := B11.cell 1
    have b2 : w11.cell? ⟨w5.heap.size, 2, none⟩ = some (.slice e3 k3 d3) := B11.cell 2
    have b3 : w11.cell? ⟨w5.heap.size, 3, none⟩ = some (.slice e4 k4 d4) := B11.cell 3
    have b4 : w11.cell? ⟨w5.heap.size, 4, none⟩ = some (.int .i64 q4) := B11.cell 4
    go_wp2_with fail
    refine (markDisk_raw w4.heap.size w5.heap.size _ w11 (by omega) R11).mono ?_
    rintro e w12 ⟨⟨kk, rfl⟩, ho12⟩
    have C12 := hide (C11.out.trans (ho12.below (Nat.le_refl _) C11.out.size))
    obtain ⟨S12, L12, o12⟩ := H4.out w12 C12.out
    have G12 := G11.out ho12 (.inr (by omega))
    have g12 := g11.out ho12 (by omega)
    have hkk : ¬ ((kk : Nat) : Int) < 0 := by omega
    have hsz12 := ho12.size
    clear R11 B11 G11 g11 ho12 C11 b0 b1 b2 b3 b4
    have u0 : w12.cell? ⟨w3.heap.size, 0, none⟩ = some (.bool f) := S12.cell 0
    have u1 : w12.cell? ⟨w3.heap.size, 1, none⟩ = some (.slice a5 l.length c5) := S12.cell 1
    have v0 : w12.cell? ⟨w7.heap.size, 0, none⟩ = some (.bool f) := G12.cell 0
    have v1 : w12.cell? ⟨w7.heap.size, 1, none⟩ = some (.slice a7 l.length c7) := G12.cell 1
    go_wp2_with fail
    refine (eqContent_any a7 a5 c7 c5 f l w12 (by omega) g12.row o12.row).mono ?_
    rintro e w13 ⟨rfl, hb13⟩
    have C13 := hide (C12.out.trans (hb13.mono C12.out.size))
    have G13 := G12.below hb13 G12.lt
    have g13 := g12.below hb13 (Nat.le_refl _)
    have hsz13 := hb13.size
    clear hb13 C12 S12 L12 o12 G12 g12 u0 u1 v0 v1
    have v0 : w13.cell? ⟨w7.heap.size, 0, none⟩ = some (.bool f) := G13.cell 0
    have v1 : w13.cell? ⟨w7.heap.size, 1, none⟩ = some (.slice a7 l.length c7) := G13.cell 1
    go_wp2_with fail
    refine (markContent_any w6.heap.size w7.heap.size 1 a7 c7 f l w13 (by omega) (by omega) g13 HIN.out).mono ?_
    rintro e w14 ⟨rfl, g14, ho14⟩
    have C14 := hide (C13.out.trans (ho14.below (by omega) (by omega)))
    have G14 := G13.out ho14 (.inr (Nat.le_refl _))
    have hsz14 := ho14.size
    clear ho14 C13 G13 g13 v0 v1
    have v0 : w14.cell? ⟨w7.heap.size, 0, none⟩ = some (.bool f) := G14.cell 0
    have v1 : w14.cell? ⟨w7.heap.size, 1, none⟩ = some (.slice a7 l.length c7) := G14.cell 1
    have gr14 : RowAt w14 a7 (marks 1 l.length) := g14.row
    generalize hML : ((1 + l.length : Nat) : Int) = ML
    have hMLp : ¬ ML < 0 := by omega
    have HML := hide hML
    clear hML g14
    go_wp2_with fail
    refine (heldContent_any a7 c7 1 l.length f w14 (by omega) (by omega) gr14).mono ?_
    rintro e w15 ⟨rfl, hb15⟩
    rw [HML.out]
    have C15 := hide (C14.out.trans (hb15.mono C14.out.size))
    have G15 := G14.below hb15 G14.lt
    have gr15 := gr14.below hb15
    have hsz15 := hb15.size
    have HBB := hide (fun (W : World) (hW : Below w4.heap.size w4 W) => HB4.out.trans (hW.mono HB4.out.size))
    clear hb15 C14 G14 gr14 v0 v1
    obtain ⟨S15, L15, o15⟩ := H4.out w15 C15.out
    have t0 : w15.cell? ⟨w.heap.size, 0, none⟩ = some (.slice a1 m1 c1) := L15.cell 0
    have t1 : w15.cell? ⟨w.heap.size, 1, none⟩ = some (.slice a2 m2 c2) := L15.cell 1
    have t2 : w15.cell? ⟨w.heap.size, 2, none⟩ = some (.slice a3 m3 c3) := L15.cell 2
    have t3 : w15.cell? ⟨w.heap.size, 3, none⟩ = some (.slice a4 m4 c4) := L15.cell 3
    have t4 : w15.cell? ⟨w.heap.size, 4, none⟩ = some (.int .i64 q) := L15.cell 4
    clear S15 L15 o15
    go_wp2_with fail
    refine (HTO.out w15 (HBB.out w15 C15.out)).mono ?_
    rintro e w16 ⟨x16, rfl, ho16, hb16⟩
    have C16 := hide (C15.out.trans (hb16.mono C15.out.size))
    have G16 := G15.below hb16 G15.lt
    have gr16 := gr15.below hb16
    have X16 := ho16.at
    have hsz16 := hb16.size
    clear hb16 C15 G15 gr15 ho16 t0 t1 t2 t3 t4
    go_wp2_with fail
    refine (HIR.out _ w16 X16).mono ?_
    rintro e w17 ⟨v17, rfl, ho17, hb17⟩
    obtain ⟨a17, c17, rfl⟩ := ho17.slice
    have C17 := hide (C16.out.trans (hb17.mono C16.out.size))
    have G17 := G16.below hb17 G16.lt
    have gr17 := gr16.below hb17
    have hsz17 := hb17.size
    clear hb17 C16 G16 gr16 X16
    have n18 := below_new w17 (.cells #[.bool f, .slice a17 l.length c17] 30)
    have K18 := Laid.new w17 #[.bool f, .slice a17 l.length c17] 30
    have C18 := hide (C17.out.trans (n18.mono C17.out.size))
    have G18 := G17.below n18 G17.lt
    have gr18 := gr17.below n18
    have h18 := ho17.below n18 (Nat.le_refl _)
    have hz18 : (w17.alloc (.cells #[.bool f, .slice a17 l.length c17] 30)).heap.size = w17.heap.size + 1 := World.size_alloc ..
    generalize hW18 : w17.alloc (.cells #[.bool f, .slice a17 l.length c17] 30) = w18 at n18 K18 C18 G18 gr18 h18 hz18
    clear C17 G17 gr17 ho17 n18
    obtain ⟨S18, L18, o18⟩ := H4.out w18 C18.out
    have u0 : w18.cell? ⟨w3.heap.size, 0, none⟩ = some (.bool f) := S18.cell 0
    have u1 : w18.cell? ⟨w3.heap.size, 1, none⟩ = some (.slice a5 l.length c5) := S18.cell 1
    have y0 : w18.cell? ⟨w17.heap.size, 0, none⟩ = some (.bool f) := K18.cell 0
    have y1 : w18.cell? ⟨w17.heap.size, 1, none⟩ = some (.slice a17 l.length c17) := K18.cell 1
    clear S18 L18 K18
    go_wp2_with fail
    refine (eqContent_any a17 a5 c17 c5 f l w18 (by omega) h18.row o18.row).mono ?_
    rintro e w19 ⟨rfl, hb19⟩
    have C19 := hide (C18.out.trans (hb19.mono C18.out.size))
    have G19 := G18.below hb19 G18.lt
    have gr19 := gr18.below hb19
    clear hb19 C18 G18 gr18 h18 o18 u0 u1 y0 y1 hW18
    have v0 : w19.cell? ⟨w7.heap.size, 0, none⟩ = some (.bool f) := G19.cell 0
    have v1 : w19.cell? ⟨w7.heap.size, 1, none⟩ = some (.slice a7 l.length c7) := G19.cell 1
    go_wp2_with fail
    refine (heldContent_any a7 c7 1 l.length f w19 (by omega) (by omega) gr19).mono ?_
    rintro e w20 ⟨rfl, hb20⟩
    rw [HML.out]
    have C20 := hide (C19.out.trans (hb20.mono C19.out.size))
    clear hb20 C19 G19 gr19 v0 v1
    go_wp2
    go_ret
    exact ⟨rfl, HBB.out w20 C20.out⟩
end Go.Proofs.Ytledlicandlekab
namespace Go.Proofs.Ytledlicandlekab
open Go.RowKit
def iz (z : Int) : Value := .int .i64 z
/-- A row of whole numbers of the call's own. -/
def OwnI (w : World) (base : Nat) (v : Value) (l : List Int) : Prop := w.ownsRow base 3 1 v l.length (l.map iz)
theorem OwnI.at {w : World} {base : Nat} {a : Option Addr} {n cap : Nat} {l : List Int} (h : OwnI w base (.slice a n cap) l) : IntAt w a l := fun hp => by
  rcases h.2 with ⟨_, hn⟩ | ⟨g, cap', cur, h', _, hg, hc, _, hs, htake⟩
  · omega
  · simp only [Value.slice.injEq] at h'
    obtain ⟨rfl, _, _⟩ := h'
    refine ⟨g, 0, rfl, fun i hi => ?_⟩
    rw [Nat.zero_add, cell_of_row w g i cur 3 (0, 0) hg]
    have e : cur.toList[i]? = (l.map iz)[i]? := by rw [← htake, List.getElem?_take, if_pos (by omega)]
    rw [← Array.getElem?_toList, e]
    simp [hi, iz]
theorem OwnI.below {w w' : World} {base : Nat} {v : Value} {l : List Int} (h : OwnI w base v l) (hb : Below w.heap.size w w') : OwnI w' base v l := owns_fr h (S := fun _ => False) (Fr.of_below hb) (fun _ _ => id)
theorem Try.infoInt : (Try.prog.info? 3).map (fun i => (i.zero, i.size, i.bytes)) = some (some (.int .i64 0), 1, 8) := by kernel_rfl
theorem wpList_make_ints {ops : Array Oper} {rest : List Oper} {o : Oper} {act : Act} {Q : Exit → Act → World → Prop} (w : World) (hgd : o.guard = none) (s x : Operand)
    (ho : o.op = Op.makeSlice 43 s x) (n : Nat) (hs : act.eval s = .int .i64 (n : Int)) (hx : act.eval x = .int .i64 (n : Int)) (hlen : n ≤ 1048576)
    (h : ∀ w', OwnI w' w.heap.size (.slice (some ⟨w.heap.size, 0, none⟩) n n) (List.replicate n 0) → Below w.heap.size w w' → wpList Try.prog ops Q rest (act.put o.dst (.slice (some ⟨w.heap.size, 0, none⟩) n n)) w') : wpList Try.prog ops Q (o :: rest) act w := by
  obtain ⟨i0, hi, hz0, hz1, hz2⟩ := info_parts Try.infoInt
  refine wpList_make_full w hgd s x 43 ho w.heap.size 3 i0 (.int .i64 0) 1 Try.underlying43 hi hz0 hz1 .i64 .i64 _ _ n hs hx rfl rfl (by rw [hz2]; omega) (by unfold maxLen; omega) (Nat.le_refl _) ?_
  intro w1 hown hgrow
  refine h w1 ?_ ((Below.refl _ _).grown hgrow (Nat.le_refl _) (fun k h => by cases h))
  unfold OwnI
  rw [List.length_replicate, List.map_replicate]
  have e : (madeCells (Value.int .i64 0).cells (n * 1)).toList = List.replicate n (iz 0) := by rw [Nat.mul_one]; exact toList_madeCells_one _ _
  rw [e] at hown; exact hown
theorem OwnI.store {w : World} {base g n cap : Nat} {l : List Int} (h : OwnI w base (.slice (some ⟨g, 0, none⟩) n cap) l) (k : Nat) (z : Int) : OwnI (w.setCell ⟨g, k, none⟩ (iz z)) base (.slice (some ⟨g, 0, none⟩) n cap) (l.set k z) := by
  have hn : n = l.length := by
    rcases h.2 with ⟨e, _⟩ | ⟨g', c', cur, e, _⟩ <;> simp only [Value.slice.injEq] at e
    · cases e.1
    · exact e.2.1
  subst hn
  have h1 := (World.ownsRow.stored h k (iz z)).1
  unfold OwnI
  rw [List.length_set, List.map_set]
  exact h1
theorem OwnI.cellAt {w : World} {base g n cap : Nat} {l : List Int} (h : OwnI w base (.slice (some ⟨g, 0, none⟩) n cap) l) (k : Nat) (hk : k < l.length) : w.cell? ⟨g, k, none⟩ = some (.int .i64 l[k]) ∧ w.frozen? ⟨g, k, none⟩ = false := by
  have hn : n = l.length := by
    rcases h.2 with ⟨e, _⟩ | ⟨g', c', cur, e, _⟩ <;> simp only [Value.slice.injEq] at e
    · cases e.1
    · exact e.2.1
  subst hn
  have h0 := World.ownsRow.cells h (g := g) rfl k (iz l[k]) (by simp [hk])
  rw [addr_add, Nat.zero_add] at h0
  exact ⟨h0, World.ownsRow.frozenAt h k⟩
set_option maxHeartbeats 1000000 in
theorem toIntS_any (a : Option Addr) (cap : Nat) (l : List Int) (w : World) (hl : l.length ≤ 1048576) (hr : IntAt w a l) :
    Calls Try.prog 15 #[.slice a l.length cap] w fun e w' => e = .returned (.slice (some ⟨w.heap.size, 0, none⟩) l.length l.length) ∧ OwnI w' w.heap.size (.slice (some ⟨w.heap.size, 0, none⟩) l.length l.length) l ∧ Below w.heap.size w w' := by
  go_enter Try.func15, Try.ntmps15
  go_wp2_with (at_make; refine wpList_make_ints _ rfl _ _ rfl l.length rfl rfl (by omega) ?_; intro w1 hown hbel)
  have hown' : OwnI w1 w.heap.size (.slice (some ⟨w.heap.size, 0, none⟩) l.length l.length) (halfA 0 l 0) := by rw [halfA_zero]; exact hown
  clear hown
  go_loopw [4] (fun i wr => ∃ k : Nat, k ≤ l.length ∧ i = .int .i64 k ∧ OwnI wr w.heap.size (.slice (some ⟨w.heap.size, 0, none⟩) l.length l.length) (halfA 0 l k) ∧ Below w.heap.size w wr) (fun i _ => l.length - (intOf i).toNat)
  case atStart => exact ⟨0, Nat.zero_le _, rfl, hown', hbel⟩
  case round =>
    obtain ⟨k, hk, rfl, hown, hnx⟩ := hrel
    clear hown' hbel
    by_cases hlt : k < l.length
    · obtain ⟨b, off, rfl, hc⟩ := (hr.below hnx) (by omega)
      have hck := hc k hlt
      obtain ⟨hcell, hfz⟩ := hown.cellAt k (by rw [halfA_length 0 l k hk]; exact hlt)
      have hst := hown.store k l[k]
      rw [halfA_set 0 l k hlt] at hst
      have HX : Hid (OwnI (wr.setCell ⟨w.heap.size, k, none⟩ (iz l[k])) w.heap.size (.slice (some ⟨w.heap.size, 0, none⟩) l.length l.length) (halfA 0 l (k + 1)) ∧ Below w.heap.size w (wr.setCell ⟨w.heap.size, k, none⟩ (iz l[k]))) := ⟨hst, hnx.setCell (Nat.le_refl _) _⟩
      generalize (halfA 0 l k)[k]'(by rw [halfA_length 0 l k hk]; exact hlt) = y at hcell
      unfold iz at HX
      clear hst hown hnx hc hr
      go_wp2
      go_roundw
      case rel => exact ⟨k + 1, by omega, by go_num, HX.out.1, HX.out.2⟩
      case measure => simp [intOf]; omega
    · obtain rfl : k = l.length := by omega
      rw [halfA_len] at hown
      go_wp2
      go_ret
      exact ⟨rfl, hown, hnx⟩
set_option maxHeartbeats 1000000 in
theorem eqIntS_same (a a' : Option Addr) (cap cap' : Nat) (l : List Int) (w : World) (hl : l.length ≤ 1048576) (hr : IntAt w a l) (hr' : IntAt w a' l) :
    Calls Try.prog 17 #[.slice a l.length cap, .slice a' l.length cap'] w fun e w' => e = .returned (.bool true) ∧ ∃ n, w' = w.drewN n := by
  go_enter Try.func17, Try.ntmps17
  go_wp2
  go_loopw [5] (fun i wr => ∃ k : Nat, k ≤ l.length ∧ i = .int .i64 k ∧ ∃ n, wr = w.drewN n) (fun i _ => l.length - (intOf i).toNat)
  case atStart => exact ⟨0, Nat.zero_le _, rfl, 0, rfl⟩
  case round =>
    obtain ⟨k, hk, rfl, n, rfl⟩ := hrel
    by_cases hlt : k < l.length
    · obtain ⟨b, off, rfl, hc⟩ := hr (by omega)
      obtain ⟨b', off', rfl, hc'⟩ := hr' (by omega)
      have hck := hc k hlt
      have hck' := hc' k hlt
      clear hc hc' hr hr'
      have hxe : (l[k] != l[k]) = false := by simp
      generalize l[k] = y at hck hck' hxe
      go_wp2
      go_quiet (fail)
      go_wp2
      go_roundw
      case rel => exact ⟨k + 1, by omega, by go_num, _, rfl⟩
      case measure => simp [intOf]; omega
    · go_wp2
      go_ret
      exact ⟨rfl, n, rfl⟩
set_option maxHeartbeats 1000000 in
theorem markIntS_any (base : Nat) (a : Option Addr) (cap k : Nat) (l : List Int) (w : World) (hk : k ≤ 4503599627370000) (hl : l.length ≤ 1048576) (hown : OwnI w base (.slice a l.length cap) l) :
    Calls Try.prog 18 #[.slice a l.length cap, .int .i64 (k : Int)] w fun e w' => e = .returned (.int .i64 ((k + l.length : Nat) : Int)) ∧ Fr (fun g => (Value.slice a l.length cap).ownBlock = some g) w w' := by
  go_enter Try.func18, Try.ntmps18
  go_wp2
  go_loopw [1, 5] (fun s i wr => ∃ (j : Nat) (m : List Int), m.length = l.length ∧ j ≤ l.length ∧ i = .int .i64 j ∧ s = .int .i64 ((k + j : Nat) : Int) ∧ OwnI wr base (.slice a l.length cap) m ∧ Fr (fun g => (Value.slice a l.length cap).ownBlock = some g) w wr) (fun _ i _ => l.length - (intOf i).toNat)
  case atStart => exact ⟨0, l, rfl, Nat.zero_le _, rfl, rfl, hown, Fr.refl _ _⟩
  case round =>
    obtain ⟨j, m, hm, hj, rfl, rfl, hown', hf⟩ := hrel
    clear hown
    by_cases hlt : j < l.length
    · obtain ⟨g, rfl⟩ : ∃ g, a = some ⟨g, 0, none⟩ := by
        rcases hown'.2 with ⟨_, hn⟩ | ⟨g, c, cur, e, _⟩
        · omega
        · simp only [Value.slice.injEq] at e; exact ⟨g, e.1⟩
      obtain ⟨hc, hz⟩ := hown'.cellAt j (by omega)
      have hst := hown'.store j ((k + j : Nat) : Int)
      have hfr := hf.set (g := g) (j := j) (u := iz ((k + j : Nat) : Int)) rfl
      unfold iz at hst hfr
      rw [show ((k + j : Nat) : Int) = (k : Int) + (j : Int) from by omega] at hst hfr
      have HX := hide (And.intro hst hfr)
      have HM := hide hm
      generalize m[j]'(by omega) = y at hc
      clear hst hfr hown' hf hm
      go_wp2
      go_roundw
      case rel => exact ⟨j + 1, _, by rw [List.length_set]; exact HM.out, by omega, by go_num, val_int (by omega), HX.out.1, HX.out.2⟩
      case measure => simp [intOf]; omega
    · obtain rfl : j = l.length := by omega
      have HF := hide hf
      clear hf hown' hm
      go_wp2
      go_ret
      exact ⟨rfl, HF.out⟩
end Go.Proofs.Ytledlicandlekab
namespace Go.Proofs.Ytledlicandlekab
open Go.RowKit
set_option maxRecDepth 20000 in
set_option maxHeartbeats 1000000 in
theorem markDisk_rawK (lo hi : Nat) (v : Value) (w : World) (hhi : hi ≤ w.heap.size) (h : DiskRaw w lo hi v) :
    Calls Try.prog 11 #[v, .int .i64 1] w fun e w' => (∃ k' : Nat, e = .returned (.int .i64 (k' : Int)) ∧ k' ≤ 1125899906842624) ∧ Out lo hi w w' := by
  obtain ⟨a1, m1, c1, a2, m2, c2, a3, m3, c3, a4, m4, c4, q, rfl, r1, r2, r3, r4⟩ := h.ex
  have hA := (Below.refl w.heap.size w).alloc (Nat.le_refl _) (.cells #[.slice a1 m1 c1, .slice a2 m2 c2, .slice a3 m3 c3, .slice a4 m4 c4, .int .i64 q] 36)
  have L0 := Laid.new w #[.slice a1 m1 c1, .slice a2 m2 c2, .slice a3 m3 c3, .slice a4 m4 c4, .int .i64 q] 36
  have HN := hide (markN_el lo hi 1 _ _ (by omega) (r1.below hA))
  have HO0 := hide (show Out lo hi w _ from Out.of_below hA)
  have HE2 := hide (r2.below hA)
  have HE3 := hide (r3.below hA)
  have HE4 := hide (r4.below hA)
  clear h r1 r2 r3 r4
  go_enter Try.func11, Try.ntmps11
  go_wp2_with fail
  generalize w.alloc (.cells #[.slice a1 m1 c1, .slice a2 m2 c2, .slice a3 m3 c3, .slice a4 m4 c4, .int .i64 q] 36) = w0 at hA L0 HN HO0 HE2 HE3 HE4 ⊢
  refine HN.out.mono ?_
  rintro e w1 ⟨⟨k1, rfl, hk1⟩, hkp1, ho1⟩
  have L1 : Laid w1 w.heap.size #[.slice a1 m1 c1, .slice a2 m2 c2, .slice a3 m3 c3, .slice a4 m4 c4, .int .i64 q] 36 := (ho1.block w.heap.size L0.lt (.inr hhi)).trans L0
  have t1 : w1.cell? ⟨w.heap.size, 1, none⟩ = some (.slice a2 m2 c2) := L1.cell 1
  have HM := hide (markE_el lo hi k1 _ w1 (by omega) (HE2.out.turn hkp1))
  replace HE3 := hide (HE3.out.turn hkp1)
  replace HE4 := hide (HE4.out.turn hkp1)
  replace HO0 := hide (HO0.out.trans ho1)
  clear HN HE2 hkp1 ho1 L0 hA
  go_wp2_with fail
  refine HM.out.mono ?_
  rintro e w2 ⟨⟨k2, rfl, hk2⟩, hkp2, ho2⟩
  have L2 : Laid w2 w.heap.size #[.slice a1 m1 c1, .slice a2 m2 c2, .slice a3 m3 c3, .slice a4 m4 c4, .int .i64 q] 36 := (ho2.block w.heap.size L1.lt (.inr hhi)).trans L1
  have t2 : w2.cell? ⟨w.heap.size, 2, none⟩ = some (.slice a3 m3 c3) := L2.cell 2
  replace HM := hide (markE_el lo hi k2 _ w2 (by omega) (HE3.out.turn hkp2))
  replace HE4 := hide (HE4.out.turn hkp2)
  replace HO0 := hide (HO0.out.trans ho2)
  clear HE3 hkp2 ho2 L1 t1
  go_wp2_with fail
  refine HM.out.mono ?_
  rintro e w3 ⟨⟨k3, rfl, hk3⟩, hkp3, ho3⟩
  have L3 : Laid w3 w.heap.size #[.slice a1 m1 c1, .slice a2 m2 c2, .slice a3 m3 c3, .slice a4 m4 c4, .int .i64 q] 36 := (ho3.block w.heap.size L2.lt (.inr hhi)).trans L2
  have t3 : w3.cell? ⟨w.heap.size, 3, none⟩ = some (.slice a4 m4 c4) := L3.cell 3
  replace HM := hide (markO_el lo hi k3 _ w3 (by omega) (HE4.out.turn hkp3))
  replace HO0 := hide (HO0.out.trans ho3)
  clear HE4 hkp3 ho3 L2 t2 L3
  go_wp2_with fail
  refine HM.out.mono ?_
  rintro e w4 ⟨⟨k4, rfl, hk4⟩, hkp4, ho4⟩
  replace HO0 := hide (HO0.out.trans ho4)
  clear hkp4 ho4 t3 HM
  go_wp2
  go_ret
  exact ⟨⟨k4, rfl, by omega⟩, HO0.out⟩
theorem kNd_bound (M : Nat) : ∀ (k : Nat) (us : List NdM), (∀ e ∈ us, e.1.length ≤ M) → kNd k us us.length ≤ k + us.length * (M + 1)
  | k, [], _ => by simp [kNd]
  | k, u :: r, h => by
    have h1 := kNd_bound M (k + u.1.length + 1) r (fun e he => h e (List.mem_cons_of_mem _ he))
    have h2 := h u (List.mem_cons_self ..)
    show kNd (k + u.1.length + 1) r r.length ≤ k + (r.length + 1) * (M + 1)
    rw [Nat.add_mul, Nat.one_mul]
    omega
/-- The bounds of a disk that is handed back. -/
structure Small (C : MDisk) : Prop where
  n1 : C.nodes.length ≤ 1048576
  n2 : C.names.length ≤ 1048576
  n3 : C.kept.length ≤ 1048576
  n4 : C.pend.length ≤ 1048576
  ns : ∀ e ∈ C.nodes, e.1.length ≤ 1048576
  k : kD4 C ≤ 4503599627370000
theorem small_of {C : MDisk} (h1 : C.nodes.length ≤ 1048576) (h2 : C.names.length ≤ 1048576) (h3 : C.kept.length ≤ 1048576) (h4 : C.pend.length ≤ 1048576) (hs : ∀ e ∈ C.nodes, e.1.length ≤ 1048576) : Small C := by
  refine ⟨h1, h2, h3, h4, hs, ?_⟩
  have hb := kNd_bound 1048576 1 C.nodes hs
  have hm : C.nodes.length * (1048576 + 1) ≤ 1048576 * (1048576 + 1) := Nat.mul_le_mul_right _ h1
  unfold kD4 kD3 kD2 kD1
  omega
theorem cr_small {D : MDisk} (dirs : Int) (picks : List Int) (hM : Modest D) (hN : ∀ e ∈ D.nodes, e.1.length ≤ 1048576) : Small (crOf D dirs picks) := by
  by_cases hV : ValidD D
  · rw [crOf_yes hV]
    have hl := (fine_pre hV hM dirs.toNat).ln
    refine small_of ?_ ?_ ?_ (by simp [crashD]) (outN_small _ _ _ _ hN)
    · show (outN _ _ _ _).length ≤ _
      rw [outN_length]; unfold crE; omega
    · show (outE _ _).length ≤ _
      rw [outE_length]; unfold crE; omega
    · show (outE _ _).length ≤ _
      rw [outE_length]; unfold crE; omega
  · rw [crOf_no hV]
    exact small_of (by simp [noDisk]) (by simp [noDisk]) (by simp [noDisk]) (by simp [noDisk]) (fun e he => by cases he)
/-- How the law stands between the second call and the marks. -/
structure CrS (w5 W : World) (n6 n7 n8 n9 : Nat) (x1 x2 x3 x4 : Value) (qx : Int) (D : MDisk) (picks : List Int) (g1 g2 g3 g4 : Value) (vs : List (Value × Value)) (C : MDisk) : Prop where
  bel : Below w5.heap.size w5 W
  xd : DiskAt W (.agg #[x1, x2, x3, x4, .int .i64 qx]) D
  xr : DiskRaw W w5.heap.size n6 (.agg #[x1, x2, x3, x4, .int .i64 qx])
  xb : Laid W n6 #[x1, x2, x3, x4, .int .i64 qx] 36
  y : OwnI W n7 (.slice (some ⟨n7, 0, none⟩) picks.length picks.length) picks
  g : OwnDA W n8 n9 g1 g2 g3 g4 vs C
  gb : Laid W n9 #[g1, g2, g3, g4, .int .i64 C.quota] 36
  o6 : w5.heap.size ≤ n6
  o7 : n6 < n7
  o8 : n7 < n8
  o9 : n8 ≤ n9
theorem CrS.below {w5 W W' : World} {n6 n7 n8 n9 : Nat} {x1 x2 x3 x4 : Value} {qx : Int} {D : MDisk} {picks : List Int} {g1 g2 g3 g4 : Value} {vs : List (Value × Value)} {C : MDisk} (h : CrS w5 W n6 n7 n8 n9 x1 x2 x3 x4 qx D picks g1 g2 g3 g4 vs C) (hb : Below W.heap.size W W') : CrS w5 W' n6 n7 n8 n9 x1 x2 x3 x4 qx D picks g1 g2 g3 g4 vs C :=
  ⟨h.bel.trans (hb.mono h.bel.size), h.xd.below hb, h.xr.below hb, h.xb.below hb h.xb.lt, h.y.below hb, h.g.below hb, h.gb.below hb h.gb.lt, h.o6, h.o7, h.o8, h.o9⟩
/-- How it stands behind the marks of what was handed in. -/
structure CrT (w5 W : World) (n8 n9 : Nat) (g1 g2 g3 g4 : Value) (vs : List (Value × Value)) (q : Int) (C : MDisk) : Prop where
  bel : Below w5.heap.size w5 W
  g : OwnDA W n8 n9 g1 g2 g3 g4 vs C
  gb : Laid W n9 #[g1, g2, g3, g4, .int .i64 q] 36
  o8 : w5.heap.size ≤ n8
  o9 : n8 ≤ n9
theorem CrT.below {w5 W W' : World} {n8 n9 : Nat} {g1 g2 g3 g4 : Value} {vs : List (Value × Value)} {q : Int} {C : MDisk} (h : CrT w5 W n8 n9 g1 g2 g3 g4 vs q C) (hb : Below W.heap.size W W') : CrT w5 W' n8 n9 g1 g2 g3 g4 vs q C :=
  ⟨h.bel.trans (hb.mono h.bel.size), h.g.below hb, h.gb.below hb h.gb.lt, h.o8, h.o9⟩
/-- Behind both marks. -/
theorem CrS.marked {w5 W W1 W2 : World} {n6 n7 n8 n9 : Nat} {x1 x2 x3 x4 : Value} {qx : Int} {D : MDisk} {picks : List Int} {g1 g2 g3 g4 : Value} {vs : List (Value × Value)} {C : MDisk} (h : CrS w5 W n6 n7 n8 n9 x1 x2 x3 x4 qx D picks g1 g2 g3 g4 vs C) (ho : Out w5.heap.size n6 W W1) (hf : Fr (fun g => (Value.slice (some ⟨n7, 0, none⟩) picks.length picks.length).ownBlock = some g) W1 W2) : CrT w5 W2 n8 n9 g1 g2 g3 g4 vs C.quota C := by
  have h6 := h.o6
  have h7 := h.o7
  have h8 := h.o8
  have h9 := h.o9
  have hs := h.bel.size
  have f1 : Fr (fun g => w5.heap.size ≤ g ∧ g < n6) W W1 := ⟨ho.os, ho.tape, ho.output, ho.size, fun g hg hn => ho.block g hg (by omega)⟩
  have f2 : Fr (fun g => g = n7) W1 W2 := hf.mono (fun g e => by simpa [Value.ownBlock] using e.symm)
  have hs1 := ho.size
  refine ⟨(h.bel.trans (f1.below (fun g hg => hg.1) hs)).trans (f2.below (fun g hg => by omega) (by omega)), (h.g.fr f1 (fun g a b c => by omega)).fr f2 (fun g a b c => by omega), ?_, by omega, h9⟩
  have hl := h.gb.lt
  exact (f2.block n9 (by omega) (by omega)).trans ((f1.block n9 hl (by omega)).trans h.gb)
/-- The first mark leaves the numbers. -/
theorem CrS.ints {w5 W W1 : World} {n6 n7 n8 n9 : Nat} {x1 x2 x3 x4 : Value} {qx : Int} {D : MDisk} {picks : List Int} {g1 g2 g3 g4 : Value} {vs : List (Value × Value)} {C : MDisk} (h : CrS w5 W n6 n7 n8 n9 x1 x2 x3 x4 qx D picks g1 g2 g3 g4 vs C) (ho : Out w5.heap.size n6 W W1) : OwnI W1 n7 (.slice (some ⟨n7, 0, none⟩) picks.length picks.length) picks := by
  have f1 : Fr (fun g => w5.heap.size ≤ g ∧ g < n6) W W1 := ⟨ho.os, ho.tape, ho.output, ho.size, fun g hg hn => ho.block g hg (by omega)⟩
  exact owns_fr h.y f1 (fun g hg c => by have := (own_ge h.y hg).1; have := h.o7; omega)
/-- Behind the marks of the answer. -/
theorem CrT.marked {w5 W W' : World} {n8 n9 : Nat} {g1 g2 g3 g4 : Value} {vs vs' : List (Value × Value)} {q : Int} {C C' : MDisk} (h : CrT w5 W n8 n9 g1 g2 g3 g4 vs q C) (hg : OwnDA W' n8 n9 g1 g2 g3 g4 vs' C') (hf : Fr (fun g => n8 ≤ g ∧ g < n9) W W') : CrT w5 W' n8 n9 g1 g2 g3 g4 vs' q C' := by
  have h8 := h.o8
  refine ⟨h.bel.trans (hf.below (fun g e => by omega) h.bel.size), hg, (hf.block n9 h.gb.lt (by omega)).trans h.gb, h8, h.o9⟩
end Go.Proofs.Ytledlicandlekab
namespace Go.Proofs.Ytledlicandlekab
open Go.RowKit
/-- What is handed back, in slices. -/
theorem da_slices {w : World} {base hi : Nat} {v1 v2 v3 v4 : Value} {vs : List (Value × Value)} {C : MDisk} (h : OwnDA w base hi v1 v2 v3 v4 vs C) : ∃ a1 m1 c1 a2 m2 c2 a3 m3 c3 a4 m4 c4, v1 = .slice a1 m1 c1 ∧ v2 = .slice a2 m2 c2 ∧ v3 = .slice a3 m3 c3 ∧ v4 = .slice a4 m4 c4 := by
  obtain ⟨a1, c1, e1⟩ := h.nodes.slice
  obtain ⟨a2, c2, e2⟩ := h.names.slice
  obtain ⟨a3, c3, e3⟩ := h.kept.slice
  obtain ⟨a4, c4, e4⟩ := h.pend.slice
  exact ⟨a1, _, c1, a2, _, c2, a3, _, c3, a4, _, c4, e1, e2, e3, e4⟩
set_option maxRecDepth 20000 in
set_option maxHeartbeats 8000000 in
theorem crash_law {w : World} {v : Value} {D : MDisk} (dirs : Int) (ap : Option Addr) (cp : Nat) (picks : List Int) (h : InDisk w v D) (hpk : IntAt w ap picks) :
    Calls Try.prog 4 #[v, .int .i64 dirs, .slice ap picks.length cp] w fun e w' => e = .returned (.bool true) ∧ Below w.heap.size w w' := by
  have HSZ := hide (fun w' (hb : Below w.heap.size w w') => szDisk_v (h.below hb))
  have HAT := hide (fun w' (hb : Below w.heap.size w w') => h.at_.below hb)
  have HPK := hide (fun w' (hb : Below w.heap.size w w') => hpk.below hb)
  have HWF := hide h.wf
  obtain ⟨a1, m1, c1, a2, m2, c2, a3, m3, c3, a4, m4, c4, q, hv⟩ := h.shape
  clear h hpk
  subst hv
  have hA := (Below.refl w.heap.size w).alloc (Nat.le_refl _) (.cells #[.slice a1 m1 c1, .slice a2 m2 c2, .slice a3 m3 c3, .slice a4 m4 c4, .int .i64 q] 26)
  have L0 := Laid.new w #[.slice a1 m1 c1, .slice a2 m2 c2, .slice a3 m3 c3, .slice a4 m4 c4, .int .i64 q] 26
  by_cases hnm : 1048576 < picks.length
  · have hnmi : (1048576 : Int) < (picks.length : Int) := by omega
    go_enter Try.func4, Try.ntmps4
    go_wp2
    go_ret
    exact ⟨rfl, hA⟩
  have hnmi : ¬ (1048576 : Int) < (picks.length : Int) := by omega
  have hpl : picks.length ≤ 1048576 := by omega
  go_enter Try.func4, Try.ntmps4
  go_wp2_with fail
  generalize w.alloc (.cells #[.slice a1 m1 c1, .slice a2 m2 c2, .slice a3 m3 c3, .slice a4 m4 c4, .int .i64 q] 26) = w0 at hA L0 ⊢
  refine (HSZ.out w0 hA).mono ?_
  rintro e w1 ⟨rfl, hb1⟩
  have HB1 := hide (hA.trans (hb1.mono hA.size))
  have L1 := L0.below hb1 L0.lt
  have t0 : w1.cell? ⟨w.heap.size, 0, none⟩ = some (.slice a1 m1 c1) := L1.cell 0
  have t1 : w1.cell? ⟨w.heap.size, 1, none⟩ = some (.slice a2 m2 c2) := L1.cell 1
  have t2 : w1.cell? ⟨w.heap.size, 2, none⟩ = some (.slice a3 m3 c3) := L1.cell 2
  have t3 : w1.cell? ⟨w.heap.size, 3, none⟩ = some (.slice a4 m4 c4) := L1.cell 3
  have t4 : w1.cell? ⟨w.heap.size, 4, none⟩ = some (.int .i64 q) := L1.cell 4
  clear L0 hA hb1
  by_cases hbig : 1048576 < szOf D
  · rw [szRest_neg hbig]
    go_wp2
    go_ret
    exact ⟨rfl, HB1.out⟩
  have hsm : szOf D ≤ 1048576 := by omega
  have HM := hide (modest_of hsm)
  have HNS := hide (nodes_small hsm)
  rw [szRest_pos hsm]
  have hpos : ¬ ((1048576 : Nat) : Int) - (szOf D : Int) < 0 := by omega
  generalize ((1048576 : Nat) : Int) - (szOf D : Int) = rest at hpos ⊢
  have HTO := hide (fun (X : World) (hX : Below w.heap.size w X) => toDisk_any _ D X HM.out.n1 HM.out.n2 HM.out.n3 HM.out.n4 HNS.out (HAT.out X hX))
  have HTI := hide (fun (X : World) (hX : Below w.heap.size w X) => toIntS_any ap cp picks X hpl (HPK.out X hX))
  have HSR := hide (fun (x : Value) (X : World) (a : Option Addr) (c : Nat) (hx : DiskAt X x D) (hc : DiskCap X x D) (hi : IntAt X a picks) => specCrash_any x D dirs a c picks X HM.out hx hc hpl hi)
  have HIR := hide (fun (x : Value) (X : World) (a : Option Addr) (c : Nat) (hx : DiskAt X x D) (hc : DiskCap X x D) (hi : IntAt X a picks) => implCrash_any x D dirs a c picks X HM.out HWF.out hx hc hpl hi)
  have HEX := hide (fun (x y : Value) (X : World) (hx : DiskAt X x D) (hy : DiskAt X y D) => eqDisk_same x y D X HM.out.n1 HM.out.n2 HM.out.n3 HM.out.n4 HNS.out hx hy)
  have hsmC := cr_small dirs picks HM.out HNS.out
  generalize crOf D dirs picks = C at HSR HIR hsmC
  have HEC := hide (fun (x y : Value) (X : World) (hx : DiskAt X x C) (hy : DiskAt X y C) => eqDisk_same x y C X hsmC.n1 hsmC.n2 hsmC.n3 hsmC.n4 hsmC.ns hx hy)
  have HSC := hide hsmC
  unfold DiskPost at HSR HIR
  clear hbig hsm HSZ HAT HWF HPK hsmC hnm
  go_wp2_with fail
  refine (HTO.out w1 HB1.out).mono ?_
  rintro e w2 ⟨x, rfl, ho2, hb2⟩
  have L2 := L1.below hb2 L1.lt
  have HB2 := hide (HB1.out.trans (hb2.mono HB1.out.size))
  have HO2 := hide ho2
  clear ho2 hb2 t0 t1 t2 t3 t4 L1
  go_wp2_with fail
  refine (HTI.out w2 HB2.out).mono ?_
  rintro e w3 ⟨rfl, hi3, hb3⟩
  have L3 := L2.below hb3 L2.lt
  have HB3 := hide (HB2.out.trans (hb3.mono HB2.out.size))
  have HS3 := hide (HSR.out x w3 _ picks.length (HO2.out.at.below hb3) (HO2.out.cap.below hb3) hi3.at)
  clear hb3 hi3 HO2 L2
  go_wp2_with fail
  refine HS3.out.mono ?_
  rintro e w4 ⟨s1, s2, s3, s4, svs, rfl, hos, hb4⟩
  obtain ⟨q1, j1, r1, q2, j2, r2, q3, j3, r3, q4, j4, r4, rfl, rfl, rfl, rfl⟩ := da_slices hos
  have L4 := L3.below hb4 L3.lt
  have HB4 := hide (HB3.out.trans (hb4.mono HB3.out.size))
  have SD4 := hos.own.at
  clear hb4 hos HS3 L3
  have n5 := below_new w4 (.cells #[.slice q1 j1 r1, .slice q2 j2 r2, .slice q3 j3 r3, .slice q4 j4 r4, .int .i64 C.quota] 36)
  have S5 := Laid.new w4 #[.slice q1 j1 r1, .slice q2 j2 r2, .slice q3 j3 r3, .slice q4 j4 r4, .int .i64 C.quota] 36
  have L5 := L4.below n5 L4.lt
  have SD5 := SD4.below n5
  have HB5 := hide (HB4.out.trans (n5.mono HB4.out.size))
  generalize hW5 : w4.alloc (.cells #[.slice q1 j1 r1, .slice q2 j2 r2, .slice q3 j3 r3, .slice q4 j4 r4, .int .i64 C.quota] 36) = w5 at n5 S5 L5 SD5 HB5
  have t0 : w5.cell? ⟨w.heap.size, 0, none⟩ = some (.slice a1 m1 c1) := L5.cell 0
  have t1 : w5.cell? ⟨w.heap.size, 1, none⟩ = some (.slice a2 m2 c2) := L5.cell 1
  have t2 : w5.cell? ⟨w.heap.size, 2, none⟩ = some (.slice a3 m3 c3) := L5.cell 2
  have t3 : w5.cell? ⟨w.heap.size, 3, none⟩ = some (.slice a4 m4 c4) := L5.cell 3
  have t4 : w5.cell? ⟨w.heap.size, 4, none⟩ = some (.int .i64 q) := L5.cell 4
  go_wp2_with fail
  have H5 := hide (fun (W : World) (hW : Below w5.heap.size w5 W) => And.intro (S5.below hW S5.lt) (And.intro (L5.below hW L5.lt) (SD5.below hW)))
  have HBB := hide (fun (W : World) (hW : Below w5.heap.size w5 W) => HB5.out.trans (hW.mono HB5.out.size))
  clear hW5 n5 S5 SD5 SD4 L4 HB4 HB3 HB2 HB1
  refine (HTO.out w5 HB5.out).mono ?_
  rintro e w6 ⟨x6, rfl, ho6, hb6⟩
  have XR6 := ownD_raw ho6 HM.out
  have XD6 := ho6.at
  have XC6 := ho6.cap
  have L6 := L5.below hb6 L5.lt
  have C6 := hide hb6
  obtain ⟨e1, k1, d1, e2, k2, d2, e3, k3, d3, e4, k4, d4, qx, hx6⟩ := ho6.at.shape
  subst hx6
  clear ho6 hb6 t0 t1 t2 t3 t4 L5
  have n7 := below_new w6 (.cells #[.slice e1 k1 d1, .slice e2 k2 d2, .slice e3 k3 d3, .slice e4 k4 d4, .int .i64 qx] 36)
  have XB7 := Laid.new w6 #[.slice e1 k1 d1, .slice e2 k2 d2, .slice e3 k3 d3, .slice e4 k4 d4, .int .i64 qx] 36
  have XD7 := XD6.below n7
  have XR7 := XR6.below n7
  have XC7 := XC6.below n7
  have C7 := hide (C6.out.trans (n7.mono C6.out.size))
  have s67 := n7.size
  have s56 := C6.out.size
  have hz7 : (w6.alloc (.cells #[.slice e1 k1 d1, .slice e2 k2 d2, .slice e3 k3 d3, .slice e4 k4 d4, .int .i64 qx] 36)).heap.size = w6.heap.size + 1 := World.size_alloc ..
  generalize hW7 : w6.alloc (.cells #[.slice e1 k1 d1, .slice e2 k2 d2, .slice e3 k3 d3, .slice e4 k4 d4, .int .i64 qx] 36) = w7 at n7 XB7 XD7 XR7 XC7 C7 s67 hz7
  have h67 : w6.heap.size < w7.heap.size := by omega
  clear hz7
  go_wp2_with fail
  clear XD6 XR6 XC6 C6 L6 hW7 n7
  refine (HTI.out w7 (HBB.out w7 C7.out)).mono ?_
  rintro e w8 ⟨rfl, hi8, hb8⟩
  have XB8 := XB7.below hb8 XB7.lt
  have XD8 := XD7.below hb8
  have XR8 := XR7.below hb8
  have XC8 := XC7.below hb8
  have C8 := hide (C7.out.trans (hb8.mono C7.out.size))
  have z8 : w7.heap.size < w8.heap.size := (own_ge hi8 rfl).2
  have HI8 := hide hi8
  clear hb8 XB7 XD7 XR7 XC7 C7 hi8
  have b0 : w8.cell? ⟨w6.heap.size, 0, none⟩ = some (.slice e1 k1 d1) := XB8.cell 0
  have b1 : w8.cell? ⟨w6.heap.size, 1, none⟩ = some (.slice e2 k2 d2) := XB8.cell 1
  have b2 : w8.cell? ⟨w6.heap.size, 2, none⟩ = some (.slice e3 k3 d3) := XB8.cell 2
  have b3 : w8.cell? ⟨w6.heap.size, 3, none⟩ = some (.slice e4 k4 d4) := XB8.cell 3
  have b4 : w8.cell? ⟨w6.heap.size, 4, none⟩ = some (.int .i64 qx) := XB8.cell 4
  go_wp2_with fail
  refine (HIR.out _ w8 _ picks.length XD8 XC8 HI8.out.at).mono ?_
  rintro e w9 ⟨g1, g2, g3, g4, vs, rfl, hog, hb9⟩
  obtain ⟨f1, i1, l1, f2, i2, l2, f3, i3, l3, f4, i4, l4, rfl, rfl, rfl, rfl⟩ := da_slices hog
  clear b0 b1 b2 b3 b4 XC8
  have n10 := below_new w9 (.cells #[.slice f1 i1 l1, .slice f2 i2 l2, .slice f3 i3 l3, .slice f4 i4 l4, .int .i64 C.quota] 36)
  have hb10 := hb9.trans (n10.mono hb9.size)
  have GB10 := Laid.new w9 #[.slice f1 i1 l1, .slice f2 i2 l2, .slice f3 i3 l3, .slice f4 i4 l4, .int .i64 C.quota] 36
  have G10 := hog.below n10
  have s89 := hb9.size
  generalize hW10 : w9.alloc (.cells #[.slice f1 i1 l1, .slice f2 i2 l2, .slice f3 i3 l3, .slice f4 i4 l4, .int .i64 C.quota] 36) = w10 at n10 GB10 G10 hb10
  have hS : CrS w5 w10 w6.heap.size w7.heap.size w8.heap.size w9.heap.size (.slice e1 k1 d1) (.slice e2 k2 d2) (.slice e3 k3 d3) (.slice e4 k4 d4) qx D picks (.slice f1 i1 l1) (.slice f2 i2 l2) (.slice f3 i3 l3) (.slice f4 i4 l4) vs C := ⟨C8.out.trans (hb10.mono C8.out.size), XD8.below hb10, XR8.below hb10, XB8.below hb10 XB8.lt, HI8.out.below hb10, G10, GB10, by omega, by omega, z8, s89⟩
  have ST := hide hS
  obtain ⟨S10, L10, SD10⟩ := H5.out w10 hS.bel
  have u0 : w10.cell? ⟨w4.heap.size, 0, none⟩ = some (.slice q1 j1 r1) := S10.cell 0
  have u1 : w10.cell? ⟨w4.heap.size, 1, none⟩ = some (.slice q2 j2 r2) := S10.cell 1
  have u2 : w10.cell? ⟨w4.heap.size, 2, none⟩ = some (.slice q3 j3 r3) := S10.cell 2
  have u3 : w10.cell? ⟨w4.heap.size, 3, none⟩ = some (.slice q4 j4 r4) := S10.cell 3
  have u4 : w10.cell? ⟨w4.heap.size, 4, none⟩ = some (.int .i64 C.quota) := S10.cell 4
  have v0 : w10.cell? ⟨w9.heap.size, 0, none⟩ = some (.slice f1 i1 l1) := GB10.cell 0
  have v1 : w10.cell? ⟨w9.heap.size, 1, none⟩ = some (.slice f2 i2 l2) := GB10.cell 1
  have v2 : w10.cell? ⟨w9.heap.size, 2, none⟩ = some (.slice f3 i3 l3) := GB10.cell 2
  have v3 : w10.cell? ⟨w9.heap.size, 3, none⟩ = some (.slice f4 i4 l4) := GB10.cell 3
  have v4 : w10.cell? ⟨w9.heap.size, 4, none⟩ = some (.int .i64 C.quota) := GB10.cell 4
  have GD10 := G10.own.at
  clear hS n10 hb10 GB10 G10 XD8 XR8 XB8 HI8 C8 hb9 hog S10 L10
  go_wp2_with fail
  refine (HEC.out _ _ w10 GD10 SD10).mono ?_
  rintro e w11 ⟨rfl, hb11⟩
  have ST11 := hide (ST.out.below hb11)
  clear hb11 ST u0 u1 u2 u3 u4 v0 v1 v2 v3 v4 GD10 SD10 hW10
  obtain ⟨-, L11, -⟩ := H5.out w11 ST11.out.bel
  have XB11 := ST11.out.xb
  have t0 : w11.cell? ⟨w.heap.size, 0, none⟩ = some (.slice a1 m1 c1) := L11.cell 0
  have t1 : w11.cell? ⟨w.heap.size, 1, none⟩ = some (.slice a2 m2 c2) := L11.cell 1
  have t2 : w11.cell? ⟨w.heap.size, 2, none⟩ = some (.slice a3 m3 c3) := L11.cell 2
  have t3 : w11.cell? ⟨w.heap.size, 3, none⟩ = some (.slice a4 m4 c4) := L11.cell 3
  have t4 : w11.cell? ⟨w.heap.size, 4, none⟩ = some (.int .i64 q) := L11.cell 4
  have b0 : w11.cell? ⟨w6.heap.size, 0, none⟩ = some (.slice e1 k1 d1) := XB11.cell 0
  have b1 : w11.cell? ⟨w6.heap.size, 1, none⟩ = some (.slice e2 k2 d2) := XB11.cell 1
  have b2 : w11.cell? ⟨w6.heap.size, 2, none⟩ = some (.slice e3 k3 d3) := XB11.cell 2
  have b3 : w11.cell? ⟨w6.heap.size, 3, none⟩ = some (.slice e4 k4 d4) := XB11.cell 3
  have b4 : w11.cell? ⟨w6.heap.size, 4, none⟩ = some (.int .i64 qx) := XB11.cell 4
  clear L11 XB11
  go_wp2
  have HTD := hide (fun (X : World) (hX : Below w11.heap.size w11 X) => HTO.out X ((HBB.out w11 ST11.out.bel).trans (hX.mono (HBB.out w11 ST11.out.bel).size)))
  have HX11 := hide ST11.out.xd
  go_region_with (first
    | (go_at_call 7; refine (HTD.out _ (Below.refl _ _).drew).mono ?_; rintro e w12 ⟨x12, rfl, ho12, hb12⟩; have z0 : w12.cell? ⟨w6.heap.size, 0, none⟩ = some (.slice e1 k1 d1) := (hb12.cell (p := ⟨w6.heap.size, 0, none⟩) (lt_of_cell0 b0)).trans b0; have z1 : w12.cell? ⟨w6.heap.size, 1, none⟩ = some (.slice e2 k2 d2) := (hb12.cell (p := ⟨w6.heap.size, 1, none⟩) (lt_of_cell0 b1)).trans b1; have z2 : w12.cell? ⟨w6.heap.size, 2, none⟩ = some (.slice e3 k3 d3) := (hb12.cell (p := ⟨w6.heap.size, 2, none⟩) (lt_of_cell0 b2)).trans b2; have z3 : w12.cell? ⟨w6.heap.size, 3, none⟩ = some (.slice e4 k4 d4) := (hb12.cell (p := ⟨w6.heap.size, 3, none⟩) (lt_of_cell0 b3)).trans b3; have z4 : w12.cell? ⟨w6.heap.size, 4, none⟩ = some (.int .i64 qx) := (hb12.cell (p := ⟨w6.heap.size, 4, none⟩) (lt_of_cell0 b4)).trans b4; have HO12 := hide ho12.at; have HB12 := hide (show Below w11.heap.size w11 w12 from (Below.refl _ _).drew.trans hb12); clear ho12 hb12)
    | (go_at_call 10; refine (HEX.out _ _ w12 (HX11.out.below HB12.out) HO12.out).mono ?_; rintro e w13 ⟨rfl, hb13⟩; have HB13 := hide hb13; clear hb13))
  all_goals
    have ST13 := hide ((ST11.out.below HB12.out).below HB13.out)
    clear t0 t1 t2 t3 t4 b0 b1 b2 b3 b4 z0 z1 z2 z3 z4 HTD HX11 HB12 HB13 HO12 ST11 HEX
    go_wp2_with fail
    refine (HTI.out w13 (HBB.out w13 ST13.out.bel)).mono ?_
    rintro e w14 ⟨rfl, hi14, hb14⟩
    have ST14 := hide (ST13.out.below hb14)
    have HI14 := hide hi14.at
    clear hb14 hi14 ST13
    go_wp2_with fail
    refine (eqIntS_same _ _ _ _ picks w14 hpl ST14.out.y.at HI14.out).mono ?_
    rintro e w15 ⟨rfl, n15, e15⟩
    have hb15 := drewN_below e15
    have ST15 := hide (ST14.out.below hb15)
    clear hb15 e15 ST14 HI14
    have XB15 := ST15.out.xb
    have b0 : w15.cell? ⟨w6.heap.size, 0, none⟩ = some (.slice e1 k1 d1) := XB15.cell 0
    have b1 : w15.cell? ⟨w6.heap.size, 1, none⟩ = some (.slice e2 k2 d2) := XB15.cell 1
    have b2 : w15.cell? ⟨w6.heap.size, 2, none⟩ = some (.slice e3 k3 d3) := XB15.cell 2
    have b3 : w15.cell? ⟨w6.heap.size, 3, none⟩ = some (.slice e4 k4 d4) := XB15.cell 3
    have b4 : w15.cell? ⟨w6.heap.size, 4, none⟩ = some (.int .i64 qx) := XB15.cell 4
    have hle15 : w6.heap.size ≤ w15.heap.size := Nat.le_of_lt XB15.lt
    clear XB15
    go_wp2_with fail
    refine (markDisk_rawK w5.heap.size w6.heap.size _ w15 hle15 ST15.out.xr).mono ?_
    rintro e w16 ⟨⟨kk, rfl, hkk⟩, ho16⟩
    have I16 := hide (ST15.out.ints ho16)
    have HO16 := hide ho16
    clear ho16 b0 b1 b2 b3 b4 hle15
    go_wp2_with fail
    refine (markIntS_any w7.heap.size _ _ kk picks w16 (by omega) hpl I16.out).mono ?_
    rintro e w17 ⟨rfl, f17⟩
    have T17 := hide (ST15.out.marked HO16.out f17)
    clear f17 HO16 I16 ST15
    obtain ⟨K17, hK17⟩ : ∃ K17 : Nat, K17 = kk + picks.length := ⟨_, rfl⟩
    rw [← hK17]
    clear hK17
    have hK0 : ¬ ((K17 : Nat) : Int) < 0 := by omega
    obtain ⟨S17, -, SD17⟩ := H5.out w17 T17.out.bel
    have GB17 := T17.out.gb
    have GD17 := T17.out.g.own.at
    have u0 : w17.cell? ⟨w4.heap.size, 0, none⟩ = some (.slice q1 j1 r1) := S17.cell 0
    have u1 : w17.cell? ⟨w4.heap.size, 1, none⟩ = some (.slice q2 j2 r2) := S17.cell 1
    have u2 : w17.cell? ⟨w4.heap.size, 2, none⟩ = some (.slice q3 j3 r3) := S17.cell 2
    have u3 : w17.cell? ⟨w4.heap.size, 3, none⟩ = some (.slice q4 j4 r4) := S17.cell 3
    have u4 : w17.cell? ⟨w4.heap.size, 4, none⟩ = some (.int .i64 C.quota) := S17.cell 4
    have v0 : w17.cell? ⟨w9.heap.size, 0, none⟩ = some (.slice f1 i1 l1) := GB17.cell 0
    have v1 : w17.cell? ⟨w9.heap.size, 1, none⟩ = some (.slice f2 i2 l2) := GB17.cell 1
    have v2 : w17.cell? ⟨w9.heap.size, 2, none⟩ = some (.slice f3 i3 l3) := GB17.cell 2
    have v3 : w17.cell? ⟨w9.heap.size, 3, none⟩ = some (.slice f4 i4 l4) := GB17.cell 3
    have v4 : w17.cell? ⟨w9.heap.size, 4, none⟩ = some (.int .i64 C.quota) := GB17.cell 4
    clear S17 GB17
    go_wp2_with fail
    refine (HEC.out _ _ w17 GD17 SD17).mono ?_
    rintro e w18 ⟨rfl, hb18⟩
    have T18 := hide (T17.out.below hb18)
    clear hb18 T17 u0 u1 u2 u3 u4 v0 v1 v2 v3 v4 GD17 SD17 hK0
    have GB18 := T18.out.gb
    have hlt18 := GB18.lt
    have v0 : w18.cell? ⟨w9.heap.size, 0, none⟩ = some (.slice f1 i1 l1) := GB18.cell 0
    have v1 : w18.cell? ⟨w9.heap.size, 1, none⟩ = some (.slice f2 i2 l2) := GB18.cell 1
    have v2 : w18.cell? ⟨w9.heap.size, 2, none⟩ = some (.slice f3 i3 l3) := GB18.cell 2
    have v3 : w18.cell? ⟨w9.heap.size, 3, none⟩ = some (.slice f4 i4 l4) := GB18.cell 3
    have v4 : w18.cell? ⟨w9.heap.size, 4, none⟩ = some (.int .i64 C.quota) := GB18.cell 4
    clear GB18
    go_wp2_with fail
    refine (markDisk_own w8.heap.size w9.heap.size _ _ _ _ vs C w18 (by omega) HSC.out.k (by have := HSC.out.n1; omega) T18.out.g).mono ?_
    rintro e w19 ⟨rfl, ⟨vs', hg19⟩, f19⟩
    have T19 := hide (T18.out.marked hg19 f19)
    clear hg19 f19 T18 v0 v1 v2 v3 v4 hlt18
    have HLD := hide (fun (W : World) (h : DiskAt W (.agg #[.slice f1 i1 l1, .slice f2 i2 l2, .slice f3 i3 l3, .slice f4 i4 l4, .int .i64 C.quota]) (mkD C)) => heldDisk_any _ C W HSC.out.k (by have := HSC.out.n1; omega) h)
    generalize kD4 C = KC at HLD
    have hKC : ¬ ((KC : Nat) : Int) < 0 := by omega
    have hKK : (((KC : Nat) : Int) != ((KC : Nat) : Int)) = false := by simp
    have GB19 := T19.out.gb
    have v0 : w19.cell? ⟨w9.heap.size, 0, none⟩ = some (.slice f1 i1 l1) := GB19.cell 0
    have v1 : w19.cell? ⟨w9.heap.size, 1, none⟩ = some (.slice f2 i2 l2) := GB19.cell 1
    have v2 : w19.cell? ⟨w9.heap.size, 2, none⟩ = some (.slice f3 i3 l3) := GB19.cell 2
    have v3 : w19.cell? ⟨w9.heap.size, 3, none⟩ = some (.slice f4 i4 l4) := GB19.cell 3
    have v4 : w19.cell? ⟨w9.heap.size, 4, none⟩ = some (.int .i64 C.quota) := GB19.cell 4
    clear GB19
    go_wp2_with fail
    refine (HLD.out w19 T19.out.g.own.at).mono ?_
    rintro e w20 ⟨rfl, hb20⟩
    have T20 := hide (T19.out.below hb20)
    clear hb20 T19 v0 v1 v2 v3 v4
    obtain ⟨-, L20, -⟩ := H5.out w20 T20.out.bel
    have t0 : w20.cell? ⟨w.heap.size, 0, none⟩ = some (.slice a1 m1 c1) := L20.cell 0
    have t1 : w20.cell? ⟨w.heap.size, 1, none⟩ = some (.slice a2 m2 c2) := L20.cell 1
    have t2 : w20.cell? ⟨w.heap.size, 2, none⟩ = some (.slice a3 m3 c3) := L20.cell 2
    have t3 : w20.cell? ⟨w.heap.size, 3, none⟩ = some (.slice a4 m4 c4) := L20.cell 3
    have t4 : w20.cell? ⟨w.heap.size, 4, none⟩ = some (.int .i64 q) := L20.cell 4
    clear L20
    go_wp2_with fail
    refine (HTO.out w20 (HBB.out w20 T20.out.bel)).mono ?_
    rintro e w21 ⟨x21, rfl, ho21, hb21⟩
    have T21 := hide (T20.out.below hb21)
    have HO21 := hide ho21
    clear ho21 hb21 t0 t1 t2 t3 t4 T20
    go_wp2_with fail
    refine (HTI.out w21 (HBB.out w21 T21.out.bel)).mono ?_
    rintro e w22 ⟨rfl, hi22, hb22⟩
    have T22 := hide (T21.out.below hb22)
    have HI22 := hide (HIR.out x21 w22 _ picks.length (HO21.out.at.below hb22) (HO21.out.cap.below hb22) hi22.at)
    clear hb22 hi22 HO21 T21
    go_wp2_with fail
    refine HI22.out.mono ?_
    rintro e w23 ⟨y1, y2, y3, y4, yvs, rfl, hoy, hb23⟩
    obtain ⟨y1, o1, p1, y2, o2, p2, y3, o3, p3, y4, o4, p4, rfl, rfl, rfl, rfl⟩ := da_slices hoy
    have n24 := below_new w23 (.cells #[.slice y1 o1 p1, .slice y2 o2 p2, .slice y3 o3 p3, .slice y4 o4 p4, .int .i64 C.quota] 36)
    have Y24 := Laid.new w23 #[.slice y1 o1 p1, .slice y2 o2 p2, .slice y3 o3 p3, .slice y4 o4 p4, .int .i64 C.quota] 36
    have hb24 := hb23.trans (n24.mono hb23.size)
    have T24 := hide (T22.out.below hb24)
    have YD24 := hoy.own.at.below n24
    generalize hW24 : w23.alloc (.cells #[.slice y1 o1 p1, .slice y2 o2 p2, .slice y3 o3 p3, .slice y4 o4 p4, .int .i64 C.quota] 36) = w24 at n24 Y24 hb24 T24 YD24
    obtain ⟨S24, -, SD24⟩ := H5.out w24 T24.out.bel
    have u0 : w24.cell? ⟨w4.heap.size, 0, none⟩ = some (.slice q1 j1 r1) := S24.cell 0
    have u1 : w24.cell? ⟨w4.heap.size, 1, none⟩ = some (.slice q2 j2 r2) := S24.cell 1
    have u2 : w24.cell? ⟨w4.heap.size, 2, none⟩ = some (.slice q3 j3 r3) := S24.cell 2
    have u3 : w24.cell? ⟨w4.heap.size, 3, none⟩ = some (.slice q4 j4 r4) := S24.cell 3
    have u4 : w24.cell? ⟨w4.heap.size, 4, none⟩ = some (.int .i64 C.quota) := S24.cell 4
    have v0 : w24.cell? ⟨w23.heap.size, 0, none⟩ = some (.slice y1 o1 p1) := Y24.cell 0
    have v1 : w24.cell? ⟨w23.heap.size, 1, none⟩ = some (.slice y2 o2 p2) := Y24.cell 1
    have v2 : w24.cell? ⟨w23.heap.size, 2, none⟩ = some (.slice y3 o3 p3) := Y24.cell 2
    have v3 : w24.cell? ⟨w23.heap.size, 3, none⟩ = some (.slice y4 o4 p4) := Y24.cell 3
    have v4 : w24.cell? ⟨w23.heap.size, 4, none⟩ = some (.int .i64 C.quota) := Y24.cell 4
    clear n24 Y24 hb24 S24 hb23 hoy HI22 T22
    go_wp2_with fail
    refine (HEC.out _ _ w24 YD24 SD24).mono ?_
    rintro e w25 ⟨rfl, hb25⟩
    have T25 := hide (T24.out.below hb25)
    clear hb25 T24 u0 u1 u2 u3 u4 v0 v1 v2 v3 v4 YD24 SD24 hW24
    have GB25 := T25.out.gb
    have v0 : w25.cell? ⟨w9.heap.size, 0, none⟩ = some (.slice f1 i1 l1) := GB25.cell 0
    have v1 : w25.cell? ⟨w9.heap.size, 1, none⟩ = some (.slice f2 i2 l2) := GB25.cell 1
    have v2 : w25.cell? ⟨w9.heap.size, 2, none⟩ = some (.slice f3 i3 l3) := GB25.cell 2
    have v3 : w25.cell? ⟨w9.heap.size, 3, none⟩ = some (.slice f4 i4 l4) := GB25.cell 3
    have v4 : w25.cell? ⟨w9.heap.size, 4, none⟩ = some (.int .i64 C.quota) := GB25.cell 4
    clear GB25
    go_wp2_with fail
    refine (HLD.out w25 T25.out.g.own.at).mono ?_
    rintro e w26 ⟨rfl, hb26⟩
    have HB26 := hide (HBB.out w26 (T25.out.below hb26).bel)
    clear hb26 T25 v0 v1 v2 v3 v4
    go_wp2
    go_ret
    exact ⟨rfl, HB26.out⟩
end Go.Proofs.Ytledlicandlekab
namespace Go.Proofs.Ytledlicandlekab.CrRow
open Go.ChangeShapes Go.WideShapes Go.ChangeAt Go.RowKit
set_option linter.unusedVariables false
theorem own : ownKnob Try.prog.godebug = none := by kernel_rfl
theorem laidOut : laidOutB Try.prog = true := by kernel_rfl
theorem ints_of_open {w : World} {x : Addr} {len : Nat} {zs : List Int} (hl : len ≤ zs.length) (hcell : ∀ i, i < zs.length → w.cell? (x.add i) = some (.int .i64 (zs.getD i 0))) : (zs.take len).length = len ∧ IntAt w (some x) (zs.take len) := by
  have hlen : (zs.take len).length = len := by simp; omega
  refine ⟨hlen, fun hp => ?_⟩
  obtain ⟨b, off, spot⟩ := x
  have hc := hcell 0 (by omega)
  have hspot : spot = none := by simpa [Addr.add] using World.cell?_spot hc
  subst hspot
  refine ⟨b, off, rfl, fun i hi => ?_⟩
  have hi' : i < zs.length := by omega
  have h1 := hcell i hi'
  rw [addr_add] at h1
  rw [h1]
  simp only [List.getElem_take, List.getD_eq_getElem?_getD, List.getElem?_eq_getElem hi', Option.getD_some]
set_option maxRecDepth 100000 in
theorem lifted (os : Os) (started : os.Started) (H : Type) (enc : TypeId × Value → H) :
    ReturnsInHanded {} Try.checked os 4 .any (Rows.fnExactDiskCrashSpec.pre6 enc Try.prog Try.f4 Rows.fnExactDiskCrashRow.domain false) (Rows.fnExactDiskCrashSpec.post enc Try.prog Try.f4 false true false false) := by
  refine returnsInHanded_of_change (C := Try.checked) own started (by kernel_rfl) Try.func4
    (ChangeSpec.witness6 (enc := enc) (C := Try.checked) false ⟨#[], #[.agg #[.slice none 0 0, .slice none 0 0, .slice none 0 0, .slice none 0 0, .int .i64 0], .int .i64 0, .slice none 0 0], []⟩ 8 (by kernel_rfl) (by kernel_rfl) (by kernel_rfl) (by kernel_rfl)) ?_
  intro W base args ds gs before hval0 hW hcnd _
  have hval : ∀ (j : Nat) t v, Try.f4.params[j]? = some t → args[j]? = some v → Value.okWide Try.prog W .any base t v := hval0
  have hW' := hW
  obtain ⟨p, q, hA0, hV, rfl, hfz, hnd⟩ := hW
  have hA : DataW.TrodAll enc Try.prog W 0 (fun _ => true) true Try.f4.params.toList args.toList ds p := hA0
  rw [Try.params4] at hA hval
  obtain ⟨v0, vs0, d0, ds0, p0, q0, hargs, rfl, rfl, h0, r0⟩ := trodAll_cons hA
  obtain ⟨v1, vs1, d1, ds1, p1, q1, hargs1, rfl, rfl, h1, r1⟩ := trodAll_cons r0
  obtain ⟨v2, vs2, d2, ds2, p2, q2, hargs2, rfl, rfl, h2, r2⟩ := trodAll_cons r1
  obtain ⟨rfl, rfl, rfl⟩ := trodAll_nil r2
  obtain rfl : args = #[v0, v1, v2] := by cases args; simp_all
  obtain ⟨rfl, rfl⟩ := trodVars_none hV
  have k0 := h0
  have k2 := h2
  have lt2 : ∀ x ∈ p2, x.block < W.heap.size := by obtain ⟨m, hm⟩ := k2; exact DataW.trod_lt m _ _ _ hm
  obtain ⟨dirs, rfl, rfl, rfl, wn⟩ := open_int Try.underlying3 (hval 1 3 v1 rfl rfl) h1
  obtain ⟨ap, len0, cp, rfl⟩ := okWide_slice Try.underlying43 (hval 2 43 v2 rfl rfl)
  obtain ⟨picks, hpl, hpk⟩ : ∃ picks : List Int, picks.length = len0 ∧ IntAt W ap picks := by
    obtain ⟨fuel, hf⟩ := h2
    rcases open_ints Try.underlying43 Try.underlying3 (by kernel_rfl) hf with ⟨hcs, _⟩ | ⟨x, l, c, zs, hcs, _, hl, hm, hz, _, hcell, hwz⟩
    · simp [Value.cells] at hcs
      obtain ⟨rfl, rfl, rfl⟩ := hcs
      exact ⟨[], rfl, fun h => absurd h (Nat.lt_irrefl _)⟩
    · simp [Value.cells] at hcs
      obtain ⟨rfl, rfl, rfl⟩ := hcs
      have hz2 : zs.length = cp := by simpa using hz
      exact ⟨_, ints_of_open (by omega) hcell⟩
  have lt0 : ∀ x ∈ p0, x.block < W.heap.size := by obtain ⟨m, hm⟩ := k0; exact DataW.trod_lt m _ _ _ hm
  obtain ⟨D, hD⟩ := disk_open (hval 0 26 v0 rfl rfl) h0
  clear hA0 hval0
  subst hpl
  simp only [List.append_nil, List.nil_append] at hW'
  refine (crash_law dirs ap cp picks hD hpk).mono fun e W' ⟨he, bel⟩ => ?_
  subst he
  exact ⟨_, rfl, _, _, _, [], _, [], hW', trodAll_mk1 (shut_bool Try.underlying4 _), (trodAll_cons_mk (Below.trod laidOut (by kernel_rfl) (of_decide_eq_true (by kernel_rfl)) k0 bel lt0) (trodAll_cons_mk (shut_int Try.underlying3 wn) (trodAll_cons_mk (Below.trod laidOut (by kernel_rfl) (of_decide_eq_true (by kernel_rfl)) k2 bel lt2) trodAll_mk0))), rfl, bel.frame _, fun h => by cases h⟩
theorem over : Rows.fnExactDiskCrashRow.holds Try.pinned (OpenSpec.ofChange Rows.fnExactDiskCrashSpec) :=
  OpenClaim.holds_of_wide 4 Try.f4 rfl rfl rfl rfl rfl rfl rfl ⟨rfl, rfl, rfl, rfl, rfl⟩ rfl rfl rfl rfl rfl (by kernel_rfl) Try.func4 (by kernel_rfl)
    (of_decide_eq_true (by kernel_rfl)) (by unfold Func.isWrapper; first | (rw [if_pos (by decide +kernel)]; kernel_rfl) | (rw [if_neg (by decide +kernel)]; exact ⟨rfl, rfl⟩))
    (fun os started H enc _ => lifted os started H enc)
end Go.Proofs.Ytledlicandlekab.CrRow
namespace Go.Proofs.Ytledlicandlekab
theorem fnExactDiskCrash_holds : Rows.FnExactDiskCrashSaid := CrRow.over
end Go.Proofs.Ytledlicandlekab
