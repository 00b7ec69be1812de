import Derived.Test.YtpedmebigcchnaaGreatDoorPkv
import Derived.Test.YtpedmebigcchnaaGreatDoorPkz
import Derived.Test.YtpedmebigcchnaaGreatDoorPkzd
import Derived.Deep.DeepCutAuto
namespace Go.Proofs.YtpedmebigcchnaaGreatDoor
open Go.RowKit
set_option linter.unusedVariables false
/-- How the law stands behind the first call of the program. -/
structure LwS (w4 w6 X : World) (h1 h2 gX gG : Nat) (l b : List Nat) (x y : Bool) (K : Int) (tag : ByteArray) (ud : Bool) (a2 : Option Addr) (n c2 : Nat) (it md fl : Int) (p2 : Option Addr) (m q2 : Nat) (es : List (Int × Int)) (bl : List Nat) : Prop where
  bel : Below w4.heap.size w4 X
  un : UnO X w4.heap.size h1 h2 l b
  ub : Blk X gX (unO h1 h2 l b x y) 31
  gp : OwnP X w6.heap.size (.slice a2 n c2) es
  gb : OwnB X w6.heap.size (.slice p2 m q2) bl
  gc : CmI X gG K tag ud (.slice a2 n c2) it md fl (.slice p2 m q2)
theorem LwS.below {w4 w6 X X' : World} {h1 h2 gX gG : Nat} {l b : List Nat} {x y : Bool} {K : Int} {tag : ByteArray} {ud : Bool} {a2 : Option Addr} {n c2 : Nat} {it md fl : Int} {p2 : Option Addr} {m q2 : Nat} {es : List (Int × Int)} {bl : List Nat}
    (h : LwS w4 w6 X h1 h2 gX gG l b x y K tag ud a2 n c2 it md fl p2 m q2 es bl) (hb : Below X.heap.size X X') : LwS w4 w6 X' h1 h2 gX gG l b x y K tag ud a2 n c2 it md fl p2 m q2 es bl :=
  ⟨bel_on h.bel hb, h.un.below hb, h.ub.below hb h.ub.lt, h.gp.below hb (Nat.le_refl _), h.gb.below hb (Nat.le_refl _), Blk.below h.gc hb h.gc.lt⟩
/-- The same without the unit. -/
structure LwT (w4 w6 X : World) (gG : Nat) (K : Int) (tag : ByteArray) (ud : Bool) (a2 : Option Addr) (n c2 : Nat) (it md fl : Int) (p2 : Option Addr) (m q2 : Nat) (es : List (Int × Int)) (bl : List Nat) : Prop where
  bel : Below w4.heap.size w4 X
  gp : OwnP X w6.heap.size (.slice a2 n c2) es
  gb : OwnB X w6.heap.size (.slice p2 m q2) bl
  gc : CmI X gG K tag ud (.slice a2 n c2) it md fl (.slice p2 m q2)
theorem LwT.below {w4 w6 X X' : World} {gG : Nat} {K : Int} {tag : ByteArray} {ud : Bool} {a2 : Option Addr} {n c2 : Nat} {it md fl : Int} {p2 : Option Addr} {m q2 : Nat} {es : List (Int × Int)} {bl : List Nat}
    (h : LwT w4 w6 X gG K tag ud a2 n c2 it md fl p2 m q2 es bl) (hb : Below X.heap.size X X') : LwT w4 w6 X' gG K tag ud a2 n c2 it md fl p2 m q2 es bl :=
  ⟨bel_on h.bel hb, h.gp.below hb (Nat.le_refl _), h.gb.below hb (Nat.le_refl _), Blk.below h.gc hb h.gc.lt⟩
theorem LwS.marked {w4 w6 X X' : World} {h1 h2 gX gG : Nat} {l b : List Nat} {x y : Bool} {K : Int} {tag : ByteArray} {ud : Bool} {a2 : Option Addr} {n c2 : Nat} {it md fl : Int} {p2 : Option Addr} {m q2 : Nat} {es : List (Int × Int)} {bl : List Nat}
    (h : LwS w4 w6 X h1 h2 gX gG l b x y K tag ud a2 n c2 it md fl p2 m q2 es bl) (t : Two h1 h2 X X') (k1 : h2 < w6.heap.size) (k2 : w6.heap.size ≤ gG) : LwT w4 w6 X' gG K tag ud a2 n c2 it md fl p2 m q2 es bl := by
  have u1 := h.un.lo1
  have u2 := h.un.lt
  have z := h.bel.size
  exact ⟨h.bel.trans (t.below (by omega) (by omega) z), h.gp.two t (by omega) k1, h.gb.two t (by omega) k1, Blk.two h.gc t (by omega) (by omega)⟩
theorem LwT.marks {w4 w6 X X' : World} {gG : Nat} {K : Int} {tag : ByteArray} {ud : Bool} {a2 : Option Addr} {n c2 : Nat} {it md fl : Int} {p2 : Option Addr} {m q2 : Nat} {es es' : List (Int × Int)} {bl bl' : List Nat} {row : Option Nat}
    (h : LwT w4 w6 X gG K tag ud a2 n c2 it md fl p2 m q2 es bl) (g : X.grownBy X' row) (hrow : row = (Value.slice a2 n c2).ownBlock ∨ row = (Value.slice p2 m q2).ownBlock) (k1 : ∀ k, (Value.slice a2 n c2).ownBlock = some k → k < gG) (k2 : ∀ k, (Value.slice p2 m q2).ownBlock = some k → k < gG) (k4 : w4.heap.size ≤ w6.heap.size)
    (gp : OwnP X' w6.heap.size (.slice a2 n c2) es') (gb : OwnB X' w6.heap.size (.slice p2 m q2) bl') : LwT w4 w6 X' gG K tag ud a2 n c2 it md fl p2 m q2 es' bl' := by
  have hne : ∀ k, row = some k → w6.heap.size ≤ k ∧ k < gG := by
    intro k hk
    rcases hrow with e | e
    · rw [e] at hk
      exact ⟨(World.ownsRow.lt h.gp k hk).1, k1 k hk⟩
    · rw [e] at hk
      exact ⟨(World.ownsRow.lt h.gb k hk).1, k2 k hk⟩
  refine ⟨h.bel.grown g h.bel.size (fun k hk => by have := (hne k hk).1; omega), gp, gb, ?_⟩
  exact (g.block gG h.gc.lt (fun e => by have := (hne gG e.symm).2; omega)).trans h.gc
set_option maxRecDepth 20000 in
set_option maxHeartbeats 4000000 in
theorem im_law (a0 p0 : Option Addr) (cap0 q0 : Nat) (l b : List Nat) (x y : Bool) (w : World) (hl9 : l.length ≤ 9223372036854775807) (hb9 : b.length ≤ 9223372036854775807) (hr : RowAt w a0 l) (hrb : RowAt w p0 b) (hE : Env w) (hM : MaxL w) :
    Calls Tryz.prog 3 #[.agg (unA a0 l.length cap0 p0 b.length q0 x y)] w fun e w' => e = .returned (.bool true) ∧ Below w.heap.size w w' := by
  have hA := bel_alloc w (.cells #[.slice a0 l.length cap0, .slice p0 b.length q0, .bool x, .bool y] 24)
  have L0 := blk_new w #[.slice a0 l.length cap0, .slice p0 b.length q0, .bool x, .bool y] 24
  have H0 := hide (fun (X : World) (h : Below w.heap.size w X) => And.intro (hr.below h) (And.intro (hrb.below h) (And.intro (hE.below h) (hM.below h))))
  clear hr hrb hE hM
  unfold unA
  go_enter Tryz.func3, Tryz.ntmps3
  go_wp2_with fail
  generalize w.alloc (.cells #[.slice a0 l.length cap0, .slice p0 b.length q0, .bool x, .bool y] 24) = W0 at hA L0 ⊢
  refine (szUnit_any a0 p0 l.length cap0 b.length q0 x y W0 hl9 hb9).mono ?_
  rintro e w1 ⟨⟨r, rfl, hr⟩, hb1⟩
  have HU := hide (fun (X : World) (h : Below W0.heap.size W0 X) => And.intro (bel_on hA h) (L0.below h L0.lt))
  have HB1 := hide hb1
  clear hb1 hA L0
  by_cases hbig : 1048576 < l.length + b.length
  · have hr0 : r < 0 := hr.2 hbig
    clear hr
    go_wp2
    go_ret
    exact ⟨rfl, (HU.out w1 HB1.out).1⟩
  have hr0 : ¬ r < 0 := fun h => hbig (hr.1 h)
  have hl : l.length ≤ 1048576 := by omega
  have hlb : b.length ≤ 1048576 := by omega
  have SP := hide (fun (a p : Option Addr) (c q : Nat) (W : World) (k1 : RowAt W a l) (k2 : RowAt W p b) => specImap_any a p c q l b x y W hl hlb k1 k2)
  have IP := hide (fun (a p : Option Addr) (c q : Nat) (W : World) (k1 : RowAt W a l) (k2 : RowAt W p b) (k3 : Env W) (k4 : MaxL W) => implImap_any a p c q l b x y W hl hlb k1 k2 k3 k4)
  have hsm := imA_small y x b (strB l).data.toList
  unfold ImPost CmPost at SP IP
  generalize imA y x b (strB l).data.toList = R at SP IP hsm
  generalize (⟨R.1.toArray⟩ : ByteArray) = tag at SP IP
  generalize R.2.kind = K at SP IP
  generalize R.2.uid = ud at SP IP
  generalize (R.2.items : Int) = it at SP IP
  generalize (R.2.mode : Int) = md at SP IP
  generalize (R.2.flags : Int) = fl at SP IP
  have hes : (R.2.set.map prI).length ≤ 50 := by rw [List.length_map]; exact hsm.1
  have hbl := hsm.2
  generalize R.2.set.map prI = es at SP IP hes
  generalize R.2.body = bl at SP IP hbl
  obtain ⟨n, hn⟩ : ∃ n, es.length = n := ⟨_, rfl⟩
  obtain ⟨m, hm⟩ : ∃ m, bl.length = m := ⟨_, rfl⟩
  have hn50 : n ≤ 1048576 := by omega
  have hm50 : m ≤ 1048576 := by omega
  have HN := hide hn
  have HM := hide hm
  have HEQ := hide (fun (a a' : Option Addr) (cap cap' : Nat) (p p' : Option Addr) (q q' : Nat) (W : World) hr hr' hs hs' => eqCmd_own K tag ud a a' n cap cap' it md fl p p' m q q' es bl W hn hm hn50 hm50 hr hr' hs hs')
  have TU := hide (fun (X : World) (h : Below W0.heap.size W0 X) => toUnit_any a0 p0 cap0 q0 l b x y X hl hlb (H0.out X (HU.out X h).1).1 (H0.out X (HU.out X h).1).2.1)
  clear hn hm hes hbl hsm hbig hr
  unfold cmI at SP IP
  unfold unO unA at TU
  -- the specification's call
  have t0 : w1.cell? ⟨w.heap.size, 0, none⟩ = some (.slice a0 l.length cap0) := (HU.out w1 HB1.out).2.cell 0
  have t1 : w1.cell? ⟨w.heap.size, 1, none⟩ = some (.slice p0 b.length q0) := (HU.out w1 HB1.out).2.cell 1
  have t2 : w1.cell? ⟨w.heap.size, 2, none⟩ = some (.bool x) := (HU.out w1 HB1.out).2.cell 2
  have t3 : w1.cell? ⟨w.heap.size, 3, none⟩ = some (.bool y) := (HU.out w1 HB1.out).2.cell 3
  go_wp2_with fail
  refine (TU.out w1 HB1.out).mono ?_
  rintro e w2 ⟨g1, g2, rfl, hu2, hb2⟩
  have HB2 := hide (bel_on HB1.out hb2)
  have RL2 := hide hu2.ln.row
  have RB2 := hide hu2.bd.row
  clear hu2 hb2 HB1 t0 t1 t2 t3
  go_wp2_with fail
  refine (SP.out _ _ _ _ w2 RL2.out RB2.out).mono ?_
  rintro e w3 ⟨st, bd, rfl, hP3, hB3, -, hb3⟩
  obtain ⟨a1, c1, rfl⟩ := hP3.slice
  obtain ⟨p1, q1, rfl⟩ := hB3.slice
  rw [HN.out] at hP3 ⊢
  rw [HM.out] at hB3 ⊢
  have hal3 := bel_alloc w3 (.cells #[.int .i64 K, .string tag, .int .u32 0, .bool ud, .slice a1 n c1, .int .i64 it, .int .i64 md, .int .u32 fl, .slice p1 m q1] 29)
  have S4 := show CmI (w3.alloc (.cells #[.int .i64 K, .string tag, .int .u32 0, .bool ud, .slice a1 n c1, .int .i64 it, .int .i64 md, .int .u32 fl, .slice p1 m q1] 29)) w3.heap.size K tag ud (.slice a1 n c1) it md fl (.slice p1 m q1) from blk_new w3 _ _
  have P4 := (hP3.below hal3 (Nat.le_refl _)).at
  have B4 := (hB3.below hal3 (Nat.le_refl _)).row
  have K4 := bel_on (bel_on HB2.out hb3) hal3
  clear hP3 hB3 hb3 hal3 HB2 RL2 RB2
  go_upto_region 6 with fail
  generalize w3.alloc (.cells #[.int .i64 K, .string tag, .int .u32 0, .bool ud, .slice a1 n c1, .int .i64 it, .int .i64 md, .int .u32 fl, .slice p1 m q1] 29) = w4 at S4 P4 B4 K4 ⊢
  generalize w3.heap.size = gS at S4 ⊢
  have H4 := hide (fun (X : World) (h : Below w4.heap.size w4 X) => And.intro (show CmI X gS K tag ud (.slice a1 n c1) it md fl (.slice p1 m q1) from Blk.below S4 h S4.lt) (And.intro (P4.below h) (And.intro (B4.below h) (bel_on K4 h))))
  have HB4 := hide K4
  clear S4 P4 B4 K4
  have t0 : w4.cell? ⟨w.heap.size, 0, none⟩ = some (.slice a0 l.length cap0) := (HU.out w4 HB4.out).2.cell 0
  have t1 : w4.cell? ⟨w.heap.size, 1, none⟩ = some (.slice p0 b.length q0) := (HU.out w4 HB4.out).2.cell 1
  have t2 : w4.cell? ⟨w.heap.size, 2, none⟩ = some (.bool x) := (HU.out w4 HB4.out).2.cell 2
  have t3 : w4.cell? ⟨w.heap.size, 3, none⟩ = some (.bool y) := (HU.out w4 HB4.out).2.cell 3
  go_wp2_with fail
  refine (TU.out w4 HB4.out).mono ?_
  rintro e w5 ⟨h1, h2, rfl, hu5, hb5⟩
  clear HB4 t0 t1 t2 t3
  have hal5 := bel_alloc w5 (.cells #[.slice (some ⟨h1, 0, none⟩) l.length l.length, .slice (some ⟨h2, 0, none⟩) b.length b.length, .bool x, .bool y] 31)
  have X6 := blk_new w5 #[.slice (some ⟨h1, 0, none⟩) l.length l.length, .slice (some ⟨h2, 0, none⟩) b.length b.length, .bool x, .bool y] 31
  have U6 := hu5.below hal5
  have K6 := bel_on hb5 hal5
  have hz5 := hu5.hi
  clear hu5 hb5
  go_upto_region 7 with fail
  generalize w5.alloc (.cells #[.slice (some ⟨h1, 0, none⟩) l.length l.length, .slice (some ⟨h2, 0, none⟩) b.length b.length, .bool x, .bool y] 31) = w6 at hal5 X6 U6 K6 ⊢
  have z6 := hal5.size
  generalize w5.heap.size = gX at X6 hz5 z6 ⊢
  have k6 : h2 < w6.heap.size := U6.hi
  have k46 : w4.heap.size ≤ w6.heap.size := K6.size
  have HX6 := hide X6
  have HU6 := hide U6
  have HK6 := hide K6
  have s0 : w6.cell? ⟨gX, 0, none⟩ = some (.slice (some ⟨h1, 0, none⟩) l.length l.length) := X6.cell 0
  have s1 : w6.cell? ⟨gX, 1, none⟩ = some (.slice (some ⟨h2, 0, none⟩) b.length b.length) := X6.cell 1
  have s2 : w6.cell? ⟨gX, 2, none⟩ = some (.bool x) := X6.cell 2
  have s3 : w6.cell? ⟨gX, 3, none⟩ = some (.bool y) := X6.cell 3
  clear X6 U6 K6 hal5 z6 hz5
  have hb06 := hide (H4.out w6 HK6.out).2.2.2
  go_wp2_with fail
  refine (IP.out _ _ _ _ w6 HU6.out.ln.row HU6.out.bd.row (H0.out w6 (HU.out w6 hb06.out).1).2.2.1 (H0.out w6 (HU.out w6 hb06.out).1).2.2.2).mono ?_
  rintro e w7 ⟨st, bd, rfl, hP7, hB7, hnil, hb7⟩
  obtain ⟨a2, c2, rfl⟩ := hP7.slice
  obtain ⟨p2, q2, rfl⟩ := hB7.slice
  rw [HN.out] at hP7 hnil ⊢
  rw [HM.out] at hB7 hnil ⊢
  have HNIL := hide hnil
  have HL1 := hide (fun k h => (World.ownsRow.lt hP7 k h).2)
  have HL2 := hide (fun k h => (World.ownsRow.lt hB7 k h).2)
  have hal7 := bel_alloc w7 (.cells #[.int .i64 K, .string tag, .int .u32 0, .bool ud, .slice a2 n c2, .int .i64 it, .int .i64 md, .int .u32 fl, .slice p2 m q2] 29)
  have G8 := show CmI (w7.alloc (.cells #[.int .i64 K, .string tag, .int .u32 0, .bool ud, .slice a2 n c2, .int .i64 it, .int .i64 md, .int .u32 fl, .slice p2 m q2] 29)) w7.heap.size K tag ud (.slice a2 n c2) it md fl (.slice p2 m q2) from blk_new w7 _ _
  have hb8 := bel_on hb7 hal7
  have ST := hide (show LwS w4 w6 (w7.alloc (.cells #[.int .i64 K, .string tag, .int .u32 0, .bool ud, .slice a2 n c2, .int .i64 it, .int .i64 md, .int .u32 fl, .slice p2 m q2] 29)) h1 h2 gX w7.heap.size l b x y K tag ud a2 n c2 it md fl p2 m q2 es bl from
    ⟨bel_on HK6.out hb8, HU6.out.below hb8, Blk.below HX6.out hb8 HX6.out.lt, hP7.below hal7 (Nat.le_refl _), hB7.below hal7 (Nat.le_refl _), G8⟩)
  have kG : w6.heap.size ≤ w7.heap.size := hb7.size
  clear hP7 hB7 hnil hb7 hal7 G8 hb8 HX6 HU6 HK6 s0 s1 s2 s3 hb06
  go_upto_region 8 with fail
  generalize w7.alloc (.cells #[.int .i64 K, .string tag, .int .u32 0, .bool ud, .slice a2 n c2, .int .i64 it, .int .i64 md, .int .u32 fl, .slice p2 m q2] 29) = w8 at ST ⊢
  generalize w7.heap.size = gG at ST kG HL1 HL2 ⊢
  -- the two answers are equal
  obtain ⟨r0, r1, r2, r3, r4, r5, r6, r7, r8⟩ := cmI_cells ST.out.gc
  obtain ⟨v0, v1, v2, v3, v4, v5, v6, v7, v8⟩ := cmI_cells (H4.out w8 ST.out.bel).1
  go_wp2_with fail
  refine (HEQ.out _ _ _ _ _ _ _ _ w8 ST.out.gp.at (H4.out w8 ST.out.bel).2.1 ST.out.gb.row (H4.out w8 ST.out.bel).2.2.1).mono ?_
  rintro e w9 ⟨rfl, hb9'⟩
  have ST9 := hide (ST.out.below hb9')
  clear hb9' ST r0 r1 r2 r3 r4 r5 r6 r7 r8 v0 v1 v2 v3 v4 v5 v6 v7 v8
  go_upto_region 10 with fail
  -- the unit is as it was
  have s0 : w9.cell? ⟨gX, 0, none⟩ = some (.slice (some ⟨h1, 0, none⟩) l.length l.length) := ST9.out.ub.cell 0
  have s1 : w9.cell? ⟨gX, 1, none⟩ = some (.slice (some ⟨h2, 0, none⟩) b.length b.length) := ST9.out.ub.cell 1
  have s2 : w9.cell? ⟨gX, 2, none⟩ = some (.bool x) := ST9.out.ub.cell 2
  have s3 : w9.cell? ⟨gX, 3, none⟩ = some (.bool y) := ST9.out.ub.cell 3
  have t0 : w9.cell? ⟨w.heap.size, 0, none⟩ = some (.slice a0 l.length cap0) := (HU.out w9 (H4.out w9 ST9.out.bel).2.2.2).2.cell 0
  have t1 : w9.cell? ⟨w.heap.size, 1, none⟩ = some (.slice p0 b.length q0) := (HU.out w9 (H4.out w9 ST9.out.bel).2.2.2).2.cell 1
  have t2 : w9.cell? ⟨w.heap.size, 2, none⟩ = some (.bool x) := (HU.out w9 (H4.out w9 ST9.out.bel).2.2.2).2.cell 2
  have t3 : w9.cell? ⟨w.heap.size, 3, none⟩ = some (.bool y) := (HU.out w9 (H4.out w9 ST9.out.bel).2.2.2).2.cell 3
  have TD := hide (fun (X : World) (hX : Below w9.heap.size w9 X) => TU.out X (bel_on (H4.out w9 ST9.out.bel).2.2.2 hX))
  have RL := hide (fun (X : World) (hX : Below w9.heap.size w9 X) => And.intro (ST9.out.un.ln.row.below hX) (ST9.out.un.bd.row.below hX))
  have EU := hide (fun (g k : Nat) (X : World) hr hr' hs hs' => eqUnit_one (some ⟨h1, 0, none⟩) (some ⟨g, 0, none⟩) (some ⟨h2, 0, none⟩) (some ⟨k, 0, none⟩) l b l.length l.length b.length b.length x y X (by omega) (by omega) hr hr' hs hs')
  go_cut [31] (fun s wx => s = .bool false ∧ Below w9.heap.size w9 wx)
  case first =>
    go_region_with (first
      | (go_at_call 6; refine (TD.out _ (Below.refl _ _).drew).mono ?_; rintro e w10 ⟨j1, j2, rfl, hu10, hb10⟩; have z0 : w10.cell? ⟨gX, 0, none⟩ = some (.slice (some ⟨h1, 0, none⟩) l.length l.length) := (hb10.cell (p := ⟨gX, 0, none⟩) (lt_of_cell0 s0)).trans s0; have z1 : w10.cell? ⟨gX, 1, none⟩ = some (.slice (some ⟨h2, 0, none⟩) b.length b.length) := (hb10.cell (p := ⟨gX, 1, none⟩) (lt_of_cell0 s1)).trans s1; have z2 : w10.cell? ⟨gX, 2, none⟩ = some (.bool x) := (hb10.cell (p := ⟨gX, 2, none⟩) (lt_of_cell0 s2)).trans s2; have z3 : w10.cell? ⟨gX, 3, none⟩ = some (.bool y) := (hb10.cell (p := ⟨gX, 3, none⟩) (lt_of_cell0 s3)).trans s3; have HO10 := hide (And.intro hu10.ln.row hu10.bd.row); have HB10 := hide (show Below w9.heap.size w9 w10 from (Below.refl _ _).drew.trans hb10); clear hu10 hb10)
      | (go_at_call 9; refine (EU.out _ _ w10 (RL.out w10 HB10.out).1 HO10.out.1 (RL.out w10 HB10.out).2 HO10.out.2).mono ?_; rintro e w11 ⟨rfl, hb11⟩; have HB11 := hide (bel_on HB10.out hb11); clear hb11)
      | fail)
    all_goals
      go_wp2_with fail
      go_meet
      case rel => exact ⟨by first | rfl | simp [*], HB11.out⟩
  case rest =>
    obtain ⟨rfl, hbc⟩ := hcut
    obtain ⟨w11, ew⟩ : ∃ x, x = wc := ⟨wc, rfl⟩
    subst ew
    have ST11 := hide (ST9.out.below hbc)
    clear hbc s0 t0 s1 t1 s2 t2 s3 t3 TD RL ST9 EU
    have s0 : w11.cell? ⟨gX, 0, none⟩ = some (.slice (some ⟨h1, 0, none⟩) l.length l.length) := ST11.out.ub.cell 0
    have s1 : w11.cell? ⟨gX, 1, none⟩ = some (.slice (some ⟨h2, 0, none⟩) b.length b.length) := ST11.out.ub.cell 1
    have s2 : w11.cell? ⟨gX, 2, none⟩ = some (.bool x) := ST11.out.ub.cell 2
    have s3 : w11.cell? ⟨gX, 3, none⟩ = some (.bool y) := ST11.out.ub.cell 3
    go_wp2_with fail
    refine (markUnit_any w4.heap.size h1 h2 l b x y w11 hl hlb ST11.out.un).mono ?_
    rintro e w12 ⟨rfl, t12⟩
    have ST12 := hide (ST11.out.marked t12 k6 kG)
    clear t12 ST11 s0 s1 s2 s3
    have hk0 : ¬ ((1 + l.length + b.length : Nat) : Int) < 0 := by omega
    generalize ((1 + l.length + b.length : Nat) : Int) = k12 at hk0 ⊢
    obtain ⟨r0, r1, r2, r3, r4, r5, r6, r7, r8⟩ := cmI_cells ST12.out.gc
    obtain ⟨v0, v1, v2, v3, v4, v5, v6, v7, v8⟩ := cmI_cells (H4.out w12 ST12.out.bel).1
    go_wp2_with fail
    refine (HEQ.out _ _ _ _ _ _ _ _ w12 ST12.out.gp.at (H4.out w12 ST12.out.bel).2.1 ST12.out.gb.row (H4.out w12 ST12.out.bel).2.2.1).mono ?_
    rintro e w13 ⟨rfl, hb13⟩
    have ST13 := hide (ST12.out.below hb13)
    clear hb13 ST12 r0 r1 r2 r3 r4 r5 r6 r7 r8 v0 v1 v2 v3 v4 v5 v6 v7 v8
    obtain ⟨r0, r1, r2, r3, r4, r5, r6, r7, r8⟩ := cmI_cells ST13.out.gc
    go_wp2_with fail
    refine (markCmd_own w6.heap.size K tag ud a2 n c2 it md fl p2 m q2 es bl w13 HN.out HM.out hn50 hm50 ST13.out.gp ST13.out.gb HNIL.out).mono ?_
    rintro e w14 ⟨rfl, hP14, hB14, row, hg14, hrow⟩
    have ST14 := hide (ST13.out.marks hg14 hrow HL1.out HL2.out k46 hP14 hB14)
    clear hP14 hB14 hg14 hrow ST13 r0 r1 r2 r3 r4 r5 r6 r7 r8
    have HH := hide (fun (X : World) (k1 : PrAt X a2 (marksP 1 n)) (k2 : RowAt X p2 (marks (1 + 2 * n) m)) => heldCmd_own K tag ud a2 n c2 it md fl p2 m q2 X hn50 hm50 k1 k2)
    have hq0 : ¬ ((1 + 2 * n + m : Nat) : Int) < 0 := by omega
    generalize ((1 + 2 * n + m : Nat) : Int) = q14 at hq0 HH ⊢
    have hqq : (q14 != q14) = false := by simp
    obtain ⟨r0, r1, r2, r3, r4, r5, r6, r7, r8⟩ := cmI_cells ST14.out.gc
    go_wp2_with fail
    refine (HH.out w14 ST14.out.gp.at ST14.out.gb.row).mono ?_
    rintro e w15 ⟨rfl, hb15⟩
    have ST15 := hide (ST14.out.below hb15)
    clear hb15 ST14 r0 r1 r2 r3 r4 r5 r6 r7 r8
    have HB15 := hide (H4.out w15 ST15.out.bel).2.2.2
    have t0 : w15.cell? ⟨w.heap.size, 0, none⟩ = some (.slice a0 l.length cap0) := (HU.out w15 HB15.out).2.cell 0
    have t1 : w15.cell? ⟨w.heap.size, 1, none⟩ = some (.slice p0 b.length q0) := (HU.out w15 HB15.out).2.cell 1
    have t2 : w15.cell? ⟨w.heap.size, 2, none⟩ = some (.bool x) := (HU.out w15 HB15.out).2.cell 2
    have t3 : w15.cell? ⟨w.heap.size, 3, none⟩ = some (.bool y) := (HU.out w15 HB15.out).2.cell 3
    go_wp2_with fail
    refine (TU.out w15 HB15.out).mono ?_
    rintro e w16 ⟨j1, j2, rfl, hu16, hb16⟩
    have RL16 := hide (And.intro hu16.ln.row hu16.bd.row)
    have HB16 := hide (bel_on HB15.out hb16)
    have ST16 := hide (ST15.out.below hb16)
    clear hu16 hb16 HB15 ST15 t0 t1 t2 t3
    go_wp2_with fail
    refine (IP.out _ _ _ _ w16 RL16.out.1 RL16.out.2 (H0.out w16 (HU.out w16 HB16.out).1).2.2.1 (H0.out w16 (HU.out w16 HB16.out).1).2.2.2).mono ?_
    rintro e w17 ⟨st, bd, rfl, hP17, hB17, -, hb17⟩
    obtain ⟨a3, c3, rfl⟩ := hP17.slice
    obtain ⟨p3, q3, rfl⟩ := hB17.slice
    rw [HN.out] at hP17 ⊢
    rw [HM.out] at hB17 ⊢
    have hal17 := bel_alloc w17 (.cells #[.int .i64 K, .string tag, .int .u32 0, .bool ud, .slice a3 n c3, .int .i64 it, .int .i64 md, .int .u32 fl, .slice p3 m q3] 29)
    have G18 := show CmI (w17.alloc (.cells #[.int .i64 K, .string tag, .int .u32 0, .bool ud, .slice a3 n c3, .int .i64 it, .int .i64 md, .int .u32 fl, .slice p3 m q3] 29)) w17.heap.size K tag ud (.slice a3 n c3) it md fl (.slice p3 m q3) from blk_new w17 _ _
    have ST18 := hide (ST16.out.below (bel_on hb17 hal17))
    have P18 := hide (hP17.below hal17 (Nat.le_refl _)).at
    have B18 := hide (hB17.below hal17 (Nat.le_refl _)).row
    clear hP17 hB17 hb17 hal17 ST16 HB16 RL16
    go_upto_region 25 with fail
    generalize w17.alloc (.cells #[.int .i64 K, .string tag, .int .u32 0, .bool ud, .slice a3 n c3, .int .i64 it, .int .i64 md, .int .u32 fl, .slice p3 m q3] 29) = w18 at G18 ST18 P18 B18 ⊢
    generalize w17.heap.size = gH at G18 ⊢
    obtain ⟨r0, r1, r2, r3, r4, r5, r6, r7, r8⟩ := cmI_cells G18
    obtain ⟨v0, v1, v2, v3, v4, v5, v6, v7, v8⟩ := cmI_cells (H4.out w18 ST18.out.bel).1
    clear G18
    go_wp2_with fail
    refine (HEQ.out _ _ _ _ _ _ _ _ w18 P18.out (H4.out w18 ST18.out.bel).2.1 B18.out (H4.out w18 ST18.out.bel).2.2.1).mono ?_
    rintro e w19 ⟨rfl, hb19⟩
    have ST19 := hide (ST18.out.below hb19)
    clear hb19 ST18 P18 B18 r0 r1 r2 r3 r4 r5 r6 r7 r8 v0 v1 v2 v3 v4 v5 v6 v7 v8
    obtain ⟨r0, r1, r2, r3, r4, r5, r6, r7, r8⟩ := cmI_cells ST19.out.gc
    go_wp2_with fail
    refine (HH.out w19 ST19.out.gp.at ST19.out.gb.row).mono ?_
    rintro e w20 ⟨rfl, hb20⟩
    have HB20 := hide (HU.out w20 (H4.out w20 (bel_on ST19.out.bel hb20)).2.2.2).1
    clear hb20 ST19 r0 r1 r2 r3 r4 r5 r6 r7 r8
    go_wp2
    go_ret
    exact ⟨rfl, HB20.out⟩
end Go.Proofs.YtpedmebigcchnaaGreatDoor
