import Derived.Test.YtpedmebigcchnaaGreatDoorPka
import Derived.Test.YtpedmebigcchnaaGreatDoorPkb
import Derived.Test.YtpedmebigcchnaaGreatDoorPkc
import Derived.Deep.Cut
namespace Go.Proofs.YtpedmebigcchnaaGreatDoor
open Go.RowKit
set_option linter.unusedVariables false
theorem bel_on {w w1 w2 : World} (h : Below w.heap.size w w1) (k : Below w1.heap.size w1 w2) : Below w.heap.size w w2 := h.trans (k.mono h.size)
theorem bel_alloc (w : World) (o : Obj) : Below w.heap.size w (w.alloc o) := (Below.refl _ _).alloc (Nat.le_refl _) _
theorem bel_drew {w w1 : World} {n : Nat} (h : w1 = w.drewN n) : Below w.heap.size w w1 := by rw [h]; exact below_drewN (Below.refl _ _) n
theorem boxU (w : World) (A B : Array Value) (t u : TypeId) : Blk ((w.alloc (.cells A t)).alloc (.cells B u)) w.heap.size A t ∧ Blk ((w.alloc (.cells A t)).alloc (.cells B u)) (w.heap.size + 1) B u ∧ Below w.heap.size w ((w.alloc (.cells A t)).alloc (.cells B u)) ∧ ((w.alloc (.cells A t)).alloc (.cells B u)).heap.size = w.heap.size + 2 := by
  refine ⟨(blk_new w A t).below (B := w.heap.size + 1) ((Below.refl _ _).alloc (by simp) _) (by omega), ?_, ((Below.refl _ _).alloc (Nat.le_refl _) _).alloc (by simp) _, by simp⟩
  have h := blk_new (w.alloc (.cells A t)) B u
  rw [World.size_alloc] at h
  exact h
/-- A unit's four cells. -/
abbrev unA (a : Option Addr) (n cap : Nat) (p : Option Addr) (m q : Nat) (x y : Bool) : Array Value := #[.slice a n cap, .slice p m q, .bool x, .bool y]
set_option maxHeartbeats 1000000 in
theorem szUnit_any (a p : Option Addr) (n cap m q : Nat) (x y : Bool) (w : World) (hn : n ≤ 9223372036854775807) (hm : m ≤ 9223372036854775807) :
    Calls Tryz.prog 4 #[.agg (unA a n cap p m q x y), .int .i64 1048576] w fun e w' => (∃ r : Int, e = .returned (.int .i64 r) ∧ (r < 0 ↔ 1048576 < n + m)) ∧ Below w.heap.size w w' := by
  have R0 := hide (blk_new w (unA a n cap p m q x y) 24)
  have HB := hide (bel_alloc w (.cells (unA a n cap p m q x y) 24))
  unfold unA at R0 HB ⊢
  go_enter Tryz.func4, Tryz.ntmps4
  go_wp2_with fail
  generalize w.alloc (.cells #[.slice a n cap, .slice p m q, .bool x, .bool y] 24) = W at R0 HB ⊢
  refine (szByteS_any a n cap 1048576 W (by omega) (by omega) hn).mono ?_
  rintro e w2 ⟨rfl, rfl⟩
  by_cases h1 : (1048576 : Int) < n
  · rw [if_pos h1]
    go_wp2
    go_ret
    exact ⟨⟨_, rfl, by omega⟩, HB.out⟩
  · rw [if_neg h1]
    obtain ⟨l1, hl1⟩ : ∃ l1 : Int, (1048576 : Int) - n = l1 := ⟨_, rfl⟩
    have h2 : ¬ l1 < 0 := by omega
    have HL := hide hl1
    rw [hl1]
    have hl0 : 0 ≤ l1 := by omega
    have hl2 : l1 ≤ 1048576 := by omega
    clear hl1 h1
    have c1 : w2.cell? ⟨w.heap.size, 1, none⟩ = some (.slice p m q) := R0.out.cell 1
    go_wp2_with fail
    refine (szByteS_any p m q l1 w2 hl0 hl2 hm).mono ?_
    rintro e w3 ⟨rfl, rfl⟩
    by_cases h3 : l1 < m
    · rw [if_pos h3]
      go_wp2
      go_ret
      exact ⟨⟨_, rfl, by have := HL.out; omega⟩, HB.out⟩
    · rw [if_neg h3]
      obtain ⟨l2, hl2'⟩ : ∃ l2 : Int, l1 - m = l2 := ⟨_, rfl⟩
      have h4 : ¬ l2 < 0 := by omega
      have HL2 := hide hl2'
      rw [hl2']
      clear hl2' h3
      go_wp2
      go_ret
      exact ⟨⟨_, rfl, by have := HL.out; have := HL2.out; omega⟩, HB.out⟩
/-- A unit whose rows are of its own: the line's in block g1, the body's in block g2. -/
structure UnO (w : World) (lo g1 g2 : Nat) (l b : List Nat) : Prop where
  ln : OwnB w g1 (.slice (some ⟨g1, 0, none⟩) l.length l.length) l
  bd : OwnB w g2 (.slice (some ⟨g2, 0, none⟩) b.length b.length) b
  lo1 : lo ≤ g1
  lt : g1 < g2
  hi : g2 < w.heap.size
abbrev unO (g1 g2 : Nat) (l b : List Nat) (x y : Bool) : Array Value := unA (some ⟨g1, 0, none⟩) l.length l.length (some ⟨g2, 0, none⟩) b.length b.length x y
theorem UnO.below {w w' : World} {lo g1 g2 : Nat} {l b : List Nat} (h : UnO w lo g1 g2 l b) (hb : Below w.heap.size w w') : UnO w' lo g1 g2 l b :=
  ⟨h.ln.below hb (Nat.le_refl _), h.bd.below hb (Nat.le_refl _), h.lo1, h.lt, Nat.lt_of_lt_of_le h.hi hb.size⟩
theorem boxU3 (w : World) (A B C : Array Value) (t u v : TypeId) : Blk (((w.alloc (.cells A t)).alloc (.cells B u)).alloc (.cells C v)) w.heap.size A t ∧ Blk (((w.alloc (.cells A t)).alloc (.cells B u)).alloc (.cells C v)) (w.heap.size + 1) B u ∧ Blk (((w.alloc (.cells A t)).alloc (.cells B u)).alloc (.cells C v)) (w.heap.size + 2) C v ∧ Below w.heap.size w (((w.alloc (.cells A t)).alloc (.cells B u)).alloc (.cells C v)) ∧ (((w.alloc (.cells A t)).alloc (.cells B u)).alloc (.cells C v)).heap.size = w.heap.size + 3 := by
  obtain ⟨h1, h2, h3, h4⟩ := boxU w A B t u
  have hal := (Below.refl ((w.alloc (.cells A t)).alloc (.cells B u)).heap.size ((w.alloc (.cells A t)).alloc (.cells B u))).alloc (Nat.le_refl _) (.cells C v)
  refine ⟨h1.below hal h1.lt, h2.below hal h2.lt, ?_, h3.trans (hal.mono h3.size), by simp⟩
  have h := blk_new ((w.alloc (.cells A t)).alloc (.cells B u)) C v
  rw [h4] at h
  exact h
theorem OwnB.lowSet {w : World} {base : Nat} {v : Value} {l : List Nat} (h : OwnB w base v l) {g j : Nat} (hp : g < base) (u : Value) : OwnB (w.setCell ⟨g, j, none⟩ u) base v l := by
  refine ⟨h.1, ?_⟩
  rcases h.2 with hn | ⟨k, cap, cur, hv, hbase, hg, rest⟩
  · exact .inl hn
  · exact .inr ⟨k, cap, cur, hv, hbase, (heap_setCell_other w ⟨g, j, none⟩ k u (by simp; omega)).trans hg, rest⟩
theorem ret_unitI {fn : Func} {tmps : Array Value} {p : Tmp} (B : Nat) (W : World) (cs : Array Value) (hz : cs.size = 4) (hf : fn.results = #[.cell p 31]) (hp : tmps.getD p undef = .pointer (some ⟨B, 0, none⟩)) (hb : Blk W B cs 31) :
    (results fn tmps).run Tryz.prog W = .ok (.agg cs) W :=
  results_cell_row (P := Tryz.prog) hf _ _ B _ _ _ _ hp hb Tryz.underlying31 rfl (by rw [hz]; kernel_rfl)
/-- Four cells stored. -/
def put4 (W : World) (g : Nat) (u0 u1 u2 u3 : Value) : World := (((W.setCell ⟨g, 0, none⟩ u0).setCell ⟨g, 1, none⟩ u1).setCell ⟨g, 2, none⟩ u2).setCell ⟨g, 3, none⟩ u3
theorem put4_blk {W : World} {g : Nat} {a b c d : Value} {t : TypeId} (h : Blk W g #[a, b, c, d] t) (u0 u1 u2 u3 : Value) : Blk (put4 W g u0 u1 u2 u3) g #[u0, u1, u2, u3] t := by
  have h4 := (((h.set 0 u0).set 1 u1).set 2 u2).set 3 u3
  unfold put4
  simpa using h4
theorem put4_below {w W : World} {B g : Nat} (h : Below B w W) (hg : B ≤ g) (u0 u1 u2 u3 : Value) : Below B w (put4 W g u0 u1 u2 u3) :=
  (((h.setCell (p := ⟨g, 0, none⟩) hg _).setCell (p := ⟨g, 1, none⟩) hg _).setCell (p := ⟨g, 2, none⟩) hg _).setCell (p := ⟨g, 3, none⟩) hg _
theorem OwnB.put4 {w : World} {base : Nat} {v : Value} {l : List Nat} (h : OwnB w base v l) {g : Nat} (hp : g < base) (u0 u1 u2 u3 : Value) : OwnB (put4 w g u0 u1 u2 u3) base v l :=
  (((h.lowSet hp _).lowSet hp _).lowSet hp _).lowSet hp _
theorem put4_size (W : World) (g : Nat) (u0 u1 u2 u3 : Value) : (put4 W g u0 u1 u2 u3).heap.size = W.heap.size := by simp [put4]
set_option maxRecDepth 20000 in
set_option maxHeartbeats 1000000 in
theorem toUnit_any (a p : Option Addr) (cap q : Nat) (l b : List Nat) (x y : Bool) (w : World) (hl : l.length ≤ 1048576) (hlb : b.length ≤ 1048576) (hr : RowAt w a l) (hrb : RowAt w p b) :
    Calls Tryz.prog 6 #[.agg (unA a l.length cap p b.length q x y)] w fun e w' => ∃ g1 g2, e = .returned (.agg (unO g1 g2 l b x y)) ∧ UnO w' w.heap.size g1 g2 l b ∧ Below w.heap.size w w' := by
  obtain ⟨L1, L2, L3, hA, hz⟩ := boxU3 w (unA a l.length cap p b.length q x y) #[.slice none 0 0, .slice none 0 0, .bool false, .bool false] #[.slice none 0 0, .slice none 0 0, .bool false, .bool false] 24 31 31
  have HR := hide (fun (X : World) (hb : Below w.heap.size w X) => And.intro (hr.below hb) (hrb.below hb))
  clear hr hrb
  unfold unA at L1 L2 L3 hA hz ⊢
  have TB := hide (fun (a : Option Addr) (cap : Nat) (l : List Nat) (w : World) (hl : l.length ≤ 1048576) (hr : RowAt w a l) => toByteS_any a cap l w hl hr)
  go_enter Tryz.func6, Tryz.ntmps6
  go_upto_region 2 with fail
  generalize ((w.alloc (.cells #[.slice a l.length cap, .slice p b.length q, .bool x, .bool y] 24)).alloc (.cells #[.slice none 0 0, .slice none 0 0, .bool false, .bool false] 31)).alloc (.cells #[.slice none 0 0, .slice none 0 0, .bool false, .bool false] 31) = W3 at L1 L2 L3 hA hz ⊢
  have HA := hide hA
  have HZ0 := hide hz
  clear hz
  have c0 : W3.cell? ⟨w.heap.size, 0, none⟩ = some (.slice a l.length cap) := L1.cell 0
  have B1 := hide L1
  have B2 := hide L2
  have B3 := hide L3
  clear L1 L2 L3 hA
  go_wp2_with fail
  refine (TB.out a cap l W3 hl (HR.out W3 HA.out).1).mono ?_
  rintro e w4 ⟨rfl, ho4, hb4⟩
  have z4 : W3.heap.size < w4.heap.size := (World.ownsRow.lt ho4 _ rfl).2
  have B14 := hide (B1.out.below hb4 (by have := HZ0.out; omega))
  have B24 := hide (B2.out.below hb4 (by have := HZ0.out; omega))
  have b34 := B3.out.below hb4 (by have := HZ0.out; omega)
  have HA4 := hide (bel_on HA.out hb4)
  have o0 : w4.cell? ⟨w.heap.size + 1 + 1, 0, none⟩ = some (.slice none 0 0) := b34.cell 0
  have f0 := b34.fz 0
  have B35 := hide (b34.set 0 (.slice (some ⟨W3.heap.size, 0, none⟩) l.length l.length))
  have O5 := hide (ho4.lowSet (g := w.heap.size + 1 + 1) (j := 0) (by have := HZ0.out; omega) (.slice (some ⟨W3.heap.size, 0, none⟩) l.length l.length))
  have HA5 := hide (HA4.out.setCell (p := ⟨w.heap.size + 1 + 1, 0, none⟩) (by show w.heap.size ≤ w.heap.size + 1 + 1; omega) (.slice (some ⟨W3.heap.size, 0, none⟩) l.length l.length))
  have B15 := hide (B14.out.other (g' := w.heap.size + 1 + 1) (j := 0) (by omega) (.slice (some ⟨W3.heap.size, 0, none⟩) l.length l.length))
  have B25 := hide (B24.out.other (g' := w.heap.size + 1 + 1) (j := 0) (by omega) (.slice (some ⟨W3.heap.size, 0, none⟩) l.length l.length))
  have z5 : (w4.setCell ⟨w.heap.size + 1 + 1, 0, none⟩ (.slice (some ⟨W3.heap.size, 0, none⟩) l.length l.length)).heap.size = w4.heap.size := by simp
  have Z5 := hide z5
  clear ho4 hb4 B1 B2 B3 HA b34 c0 B14 B24 HA4 z5
  go_upto_region 3 with fail
  generalize w4.setCell ⟨w.heap.size + 1 + 1, 0, none⟩ (.slice (some ⟨W3.heap.size, 0, none⟩) l.length l.length) = w5 at B35 O5 HA5 B15 B25 Z5 ⊢
  clear o0 f0
  have c1 : w5.cell? ⟨w.heap.size, 1, none⟩ = some (.slice p b.length q) := B15.out.cell 1
  go_wp2_with fail
  refine (TB.out p q b w5 hlb (HR.out w5 HA5.out).2).mono ?_
  rintro e w6 ⟨rfl, ho6, hb6⟩
  have z5 := Z5.out
  have z6 : w5.heap.size < w6.heap.size := (World.ownsRow.lt ho6 _ rfl).2
  have O6 := hide (O5.out.below hb6 (Nat.le_refl _))
  have HO6 := hide ho6
  have B16 := hide (B15.out.below hb6 (by have := HZ0.out; omega))
  have B26 := hide (B25.out.below hb6 (by have := HZ0.out; omega))
  have B36 := hide (B35.out.below hb6 (by have := HZ0.out; omega))
  have HA6 := hide (bel_on HA5.out hb6)
  clear ho6 hb6 O5 B15 B25 B35 HA5 c1
  have c2 : w6.cell? ⟨w.heap.size, 2, none⟩ = some (.bool x) := B16.out.cell 2
  have c3 : w6.cell? ⟨w.heap.size, 3, none⟩ = some (.bool y) := B16.out.cell 3
  have o0 : w6.cell? ⟨w.heap.size + 1 + 1, 0, none⟩ = some (.slice (some ⟨W3.heap.size, 0, none⟩) l.length l.length) := B36.out.cell 0
  have o1 : w6.cell? ⟨w.heap.size + 1 + 1, 1, none⟩ = some (.slice none 0 0) := B36.out.cell 1
  have o2 : w6.cell? ⟨w.heap.size + 1 + 1, 2, none⟩ = some (.bool false) := B36.out.cell 2
  have o3 : w6.cell? ⟨w.heap.size + 1 + 1, 3, none⟩ = some (.bool false) := B36.out.cell 3
  have of := fun j => B36.out.fz j
  have r0 : w6.cell? ⟨w.heap.size + 1, 0, none⟩ = some (.slice none 0 0) := B26.out.cell 0
  have r1 : w6.cell? ⟨w.heap.size + 1, 1, none⟩ = some (.slice none 0 0) := B26.out.cell 1
  have r2 : w6.cell? ⟨w.heap.size + 1, 2, none⟩ = some (.bool false) := B26.out.cell 2
  have r3 : w6.cell? ⟨w.heap.size + 1, 3, none⟩ = some (.bool false) := B26.out.cell 3
  have rf := fun j => B26.out.fz j
  have HZ := hide (And.intro HZ0.out (And.intro z4 (And.intro z5 z6)))
  clear z4 z5 z6
  go_wp2
  have e1 : Blk (((w6.setCell ⟨w.heap.size + 1 + 1, 1, none⟩ (.slice (some ⟨w5.heap.size, 0, none⟩) b.length b.length)).setCell ⟨w.heap.size + 1 + 1, 2, none⟩ (.bool x)).setCell ⟨w.heap.size + 1 + 1, 3, none⟩ (.bool y)) (w.heap.size + 1) #[.slice none 0 0, .slice none 0 0, .bool false, .bool false] 31 := ((B26.out.other (by omega) _).other (by omega) _).other (by omega) _
  have e2 : Below w.heap.size w (((w6.setCell ⟨w.heap.size + 1 + 1, 1, none⟩ (.slice (some ⟨w5.heap.size, 0, none⟩) b.length b.length)).setCell ⟨w.heap.size + 1 + 1, 2, none⟩ (.bool x)).setCell ⟨w.heap.size + 1 + 1, 3, none⟩ (.bool y)) := ((HA6.out.setCell (p := ⟨w.heap.size + 1 + 1, 1, none⟩) (by show w.heap.size ≤ w.heap.size + 1 + 1; omega) _).setCell (p := ⟨w.heap.size + 1 + 1, 2, none⟩) (by show w.heap.size ≤ w.heap.size + 1 + 1; omega) _).setCell (p := ⟨w.heap.size + 1 + 1, 3, none⟩) (by show w.heap.size ≤ w.heap.size + 1 + 1; omega) _
  obtain ⟨z3, z4, z5, z6⟩ := HZ.out
  have e3 := ((O6.out.lowSet (g := w.heap.size + 1 + 1) (j := 1) (by omega) (.slice (some ⟨w5.heap.size, 0, none⟩) b.length b.length)).lowSet (g := w.heap.size + 1 + 1) (j := 2) (by omega) (.bool x)).lowSet (g := w.heap.size + 1 + 1) (j := 3) (by omega) (.bool y)
  have e4 := ((HO6.out.lowSet (g := w.heap.size + 1 + 1) (j := 1) (by omega) (.slice (some ⟨w5.heap.size, 0, none⟩) b.length b.length)).lowSet (g := w.heap.size + 1 + 1) (j := 2) (by omega) (.bool x)).lowSet (g := w.heap.size + 1 + 1) (j := 3) (by omega) (.bool y)
  refine bodyPost_ret (ret_unitI (w.heap.size + 1) _ #[.slice (some ⟨W3.heap.size, 0, none⟩) l.length l.length, .slice (some ⟨w5.heap.size, 0, none⟩) b.length b.length, .bool x, .bool y] rfl rfl rfl (put4_blk e1 _ _ _ _)) rfl ?_
  refine ⟨W3.heap.size, w5.heap.size, rfl, ⟨e3.put4 (by omega) _ _ _ _, e4.put4 (by omega) _ _ _ _, by omega, by omega, ?_⟩, put4_below e2 (by omega) _ _ _ _⟩
  simp
  omega
structure EU2 (w W : World) (A B : Array Value) : Prop where
  bel : Below w.heap.size w W
  a : Blk W w.heap.size A 31
  b : Blk W (w.heap.size + 1) B 31
theorem EU2.drewN {w W : World} {A B : Array Value} (h : EU2 w W A B) (n : Nat) : EU2 w (W.drewN n) A B := by
  have hb := below_drewN (Below.refl W.heap.size W) n
  exact ⟨bel_on h.bel hb, h.a.below hb h.a.lt, h.b.below hb h.b.lt⟩
theorem eu2_new (w : World) (A B : Array Value) : EU2 w ((w.alloc (.cells A 31)).alloc (.cells B 31)) A B := by
  obtain ⟨h1, h2, h3, h4⟩ := boxU w A B 31 31
  exact ⟨h3, h1, h2⟩
set_option maxHeartbeats 1000000 in
theorem eqUnit_one (a a' p p' : Option Addr) (l m : List Nat) (cap cap' q q' : Nat) (x y : Bool) (w : World) (hl : l.length ≤ 9223372036854775807) (hm : m.length ≤ 9223372036854775807) (hr : RowAt w a l) (hr' : RowAt w a' l) (hs : RowAt w p m) (hs' : RowAt w p' m) :
    Calls Tryz.prog 9 #[.agg #[.slice a l.length cap, .slice p m.length q, .bool x, .bool y], .agg #[.slice a' l.length cap', .slice p' m.length q', .bool x, .bool y]] w fun e w' => e = .returned (.bool true) ∧ Below w.heap.size w w' := by
  have HU := hide (eu2_new w #[.slice a l.length cap, .slice p m.length q, .bool x, .bool y] #[.slice a' l.length cap', .slice p' m.length q', .bool x, .bool y])
  have HR := hide hr
  have HR' := hide hr'
  have HS := hide hs
  have HS' := hide hs'
  clear hr hr' hs hs'
  go_enter Tryz.func9, Tryz.ntmps9
  go_wp2_with fail
  refine (eqByteS_any a a' cap cap' l l _ hl (HR.out.below HU.out.bel) (HR'.out.below HU.out.bel)).mono ?_
  rintro e w2 ⟨rfl, n, rfl⟩
  rw [decide_eq_true (rfl : l = l)]
  have HU2 := hide (HU.out.drewN n)
  clear HU
  generalize (((w.alloc (.cells #[.slice a l.length cap, .slice p m.length q, .bool x, .bool y] 31)).alloc (.cells #[.slice a' l.length cap', .slice p' m.length q', .bool x, .bool y] 31)).drewN n) = w3 at HU2 ⊢
  have q0 : w3.cell? ⟨w.heap.size, 1, none⟩ = some (.slice p m.length q) := HU2.out.a.cell 1
  have q1 : w3.cell? ⟨w.heap.size + 1, 1, none⟩ = some (.slice p' m.length q') := HU2.out.b.cell 1
  go_wp2_with fail
  refine (eqByteS_any p p' q q' m m _ hm (HS.out.below HU2.out.bel) (HS'.out.below HU2.out.bel)).mono ?_
  rintro e w4 ⟨rfl, n', rfl⟩
  rw [decide_eq_true (rfl : m = m)]
  have HU3 := hide (HU2.out.drewN n')
  clear HU2 q0 q1
  generalize w3.drewN n' = w4 at HU3 ⊢
  have q0 : w4.cell? ⟨w.heap.size, 2, none⟩ = some (.bool x) := HU3.out.a.cell 2
  have q1 : w4.cell? ⟨w.heap.size + 1, 2, none⟩ = some (.bool x) := HU3.out.b.cell 2
  have q2 : w4.cell? ⟨w.heap.size, 3, none⟩ = some (.bool y) := HU3.out.a.cell 3
  have q3 : w4.cell? ⟨w.heap.size + 1, 3, none⟩ = some (.bool y) := HU3.out.b.cell 3
  go_wp2
  go_ret
  exact ⟨rfl, HU3.out.bel⟩
theorem ownB_keep {w w' : World} {base : Nat} {v : Value} {l : List Nat} {row : Option Nat} (h : OwnB w base v l) (hg : w.grownBy w' row) (hne : v.ownBlock = none ∨ v.ownBlock ≠ row) : OwnB w' base v l := World.ownsRow.kept h hg hne
set_option maxHeartbeats 1000000 in
theorem markUnit_any (lo g1 g2 : Nat) (l b : List Nat) (x y : Bool) (w : World) (hl : l.length ≤ 1048576) (hlb : b.length ≤ 1048576) (h : UnO w lo g1 g2 l b) :
    Calls Tryz.prog 10 #[.agg (unO g1 g2 l b x y), .int .i64 1] w fun e w' => e = .returned (.int .i64 ((1 + l.length + b.length : Nat) : Int)) ∧ Two g1 g2 w w' := by
  have hb1 := bel_alloc w (.cells (unO g1 g2 l b x y) 31)
  have h1 := h.below hb1
  have R0 := hide (blk_new w (unO g1 g2 l b x y) 31)
  have HT := hide (Two.of_below (b1 := g1) (b2 := g2) hb1)
  have hgw := h.hi
  have hlt := h.lt
  have H1 := hide h1
  clear hb1 h h1
  unfold unO unA at R0 HT H1 ⊢
  go_enter Tryz.func10, Tryz.ntmps10
  go_wp2_with fail
  generalize w.alloc (.cells #[.slice (some ⟨g1, 0, none⟩) l.length l.length, .slice (some ⟨g2, 0, none⟩) b.length b.length, .bool x, .bool y] 31) = W at R0 HT H1 ⊢
  refine (show Calls _ _ #[_, .int .i64 ((1 : Nat) : Int)] _ _ from markByteS_any g1 _ _ 1 l W (by omega) (by omega) H1.out.ln).mono ?_
  rintro e w2 ⟨rfl, _, hg2, z2⟩
  have O2 := hide (ownB_keep H1.out.bd hg2 (.inr (by simp [Value.ownBlock]; omega)))
  have c1 : w2.cell? ⟨w.heap.size, 1, none⟩ = some (.slice (some ⟨g2, 0, none⟩) b.length b.length) :=
    Blk.cell (show Blk w2 w.heap.size _ _ from (hg2.block w.heap.size R0.out.lt (by simp [Value.ownBlock]; omega)).trans R0.out) 1
  have T2 := hide (show Two g1 g2 w w2 from HT.out.trans ⟨hg2.os, hg2.tape, hg2.output, hg2.size, fun k hk h1 h2 => hg2.block k hk (by simpa [Value.ownBlock] using h1)⟩)
  clear hg2 z2 R0 HT H1
  go_wp2_with fail
  refine (markByteS_any g2 _ _ (1 + l.length) b w2 (by omega) (by omega) O2.out).mono ?_
  rintro e w3 ⟨rfl, _, hg3, z3⟩
  have T3 := hide (show Two g1 g2 w w3 from T2.out.trans ⟨hg3.os, hg3.tape, hg3.output, hg3.size, fun k hk h1 h2 => hg3.block k hk (by simpa [Value.ownBlock] using h2)⟩)
  clear hg3 z3 T2 O2 c1
  generalize hr : ((1 + l.length + b.length : Nat) : Int) = r
  have HR := hide hr
  clear hr
  go_wp2
  go_ret
  exact ⟨by rw [HR.out]; rfl, T3.out⟩
end Go.Proofs.YtpedmebigcchnaaGreatDoor
