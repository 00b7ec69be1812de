import Derived.Test.YtpbpidfjecejcaaGreatDoorPkr
import Derived.Laws.ResultCell
namespace Go.Proofs.YtpbpidfjecejcaaGreatDoor
open Go.RowKit
/-- What kind of block lies there. -/
def KindAt (w : World) (g t : Nat) : Prop := ∃ cs fr, w.heap[g]? = some (.cells cs t fr)
theorem Laid.kind {w : World} {g : Nat} {cs : Array Value} {t : TypeId} (h : Laid w g cs t) : KindAt w g t := ⟨cs, _, h⟩
theorem own_kind {w : World} {b e k n g : Nat} {v : Value} {xs : List Value} (h : w.ownsRow b e k v n xs) (hg : v.ownBlock = some g) : KindAt w g e := by
  rcases h.2 with ⟨rfl, _⟩ | ⟨g', cap, cur, rfl, _, hg', _⟩
  · cases hg
  · simp only [Value.ownBlock, Option.some.injEq] at hg
    subst hg
    exact ⟨_, _, hg'⟩
theorem KindAt.ne {w : World} {g s t : Nat} (h : KindAt w g s) (k : KindAt w g t) : s = t := by
  obtain ⟨_, _, h⟩ := h
  obtain ⟨_, _, k⟩ := k
  rw [h] at k
  simp only [Option.some.injEq, Obj.cells.injEq] at k
  exact k.2.1
/-- A row stands where only blocks of another kind have changed. -/
theorem own_frk {S : Nat → Prop} {w w' : World} {b e k n : Nat} {v : Value} {xs : List Value} (h : w.ownsRow b e k v n xs) (f : Fr S w w') (hS : ∀ g, S g → ∃ t, KindAt w g t ∧ t ≠ e) : w'.ownsRow b e k v n xs :=
  owns_fr h f (fun g hg hs => by
    obtain ⟨t, k1, k2⟩ := hS g hs
    exact k2 (k1.ne (own_kind h hg)))
theorem OwnN.frk {S : Nat → Prop} {w w' : World} {base : Nat} {v : Value} {ns : List NdM} (h : OwnN w base v ns) (f : Fr S w w') (hS : ∀ g, S g → ∃ t, KindAt w g t ∧ t ≠ 5 ∧ t ≠ 99) : OwnN w' base v ns := by
  obtain ⟨vs, hl, h2, hb⟩ := h
  refine ⟨vs, hl, own_frk h2 f (fun g hg => ?_), fun i hi => ?_⟩
  · obtain ⟨t, k1, _, k3⟩ := hS g hg
    exact ⟨t, k1, k3⟩
  · obtain ⟨x, hx, ho⟩ := hb i hi
    refine ⟨x, hx, own_frk ho f (fun g hg => ?_)⟩
    obtain ⟨t, k1, k2, _⟩ := hS g hg
    exact ⟨t, k1, k2⟩
/-- The four rows of a disk. -/
structure Dk (w : World) (base : Nat) (v1 v2 v3 v4 : Value) (D : MDisk) : Prop where
  n : OwnN w base v1 D.nodes
  e : OwnE w base v2 D.names
  k : OwnE w base v3 D.kept
  p : OwnO w base v4 D.pend
theorem Dk.own {w : World} {base : Nat} {v1 v2 v3 v4 : Value} {D : MDisk} (h : Dk w base v1 v2 v3 v4 D) : OwnD w base (.agg #[v1, v2, v3, v4, .int .i64 D.quota]) D := ⟨v1, v2, v3, v4, rfl, h.n, h.e, h.k, h.p⟩
theorem Dk.below {w w' : World} {base : Nat} {v1 v2 v3 v4 : Value} {D : MDisk} (h : Dk w base v1 v2 v3 v4 D) (hb : Below w.heap.size w w') : Dk w' base v1 v2 v3 v4 D := ⟨h.n.below hb, h.e.below hb, h.k.below hb, h.p.below hb⟩
theorem Dk.frk {S : Nat → Prop} {w w' : World} {base : Nat} {v1 v2 v3 v4 : Value} {D : MDisk} (h : Dk w base v1 v2 v3 v4 D) (f : Fr S w w') (hS : ∀ g, S g → ∃ t, KindAt w g t ∧ t ≠ 5 ∧ t ≠ 99 ∧ t ≠ 102 ∧ t ≠ 105) : Dk w' base v1 v2 v3 v4 D :=
  ⟨h.n.frk f (fun g hg => by obtain ⟨t, k1, k2, k3, k4, k5⟩ := hS g hg; exact ⟨t, k1, k2, k3⟩),
   own_frk h.e f (fun g hg => by obtain ⟨t, k1, k2, k3, k4, k5⟩ := hS g hg; exact ⟨t, k1, k4⟩),
   own_frk h.k f (fun g hg => by obtain ⟨t, k1, k2, k3, k4, k5⟩ := hS g hg; exact ⟨t, k1, k4⟩),
   own_frk h.p f (fun g hg => by obtain ⟨t, k1, k2, k3, k4, k5⟩ := hS g hg; exact ⟨t, k1, k5⟩)⟩
/-- A cell of a box beside it is put. -/
theorem Dk.box {w : World} {base B t : Nat} {cs : Array Value} {v1 v2 v3 v4 : Value} {D : MDisk} (h : Dk w base v1 v2 v3 v4 D) (hL : Laid w B cs t) (ht : t ≠ 5 ∧ t ≠ 99 ∧ t ≠ 102 ∧ t ≠ 105) (j : Nat) (u : Value) : Dk (w.setCell ⟨B, j, none⟩ u) base v1 v2 v3 v4 D :=
  h.frk (S := fun g => g = B) ((Fr.refl _ _).set rfl) (fun g hg => by subst hg; exact ⟨t, hL.kind, ht⟩)
theorem Dk.setD {w : World} {base B : Nat} {y1 y2 y3 y4 y5 v1 v2 v3 v4 : Value} {D : MDisk} (h : Dk w base v1 v2 v3 v4 D) (hL : Laid w B #[y1, y2, y3, y4, y5] 27) (x1 x2 x3 x4 x5 : Value) : Dk (setD w B x1 x2 x3 x4 x5) base v1 v2 v3 v4 D :=
  h.frk (setD_fr w B x1 x2 x3 x4 x5) (fun g hg => by obtain rfl : g = B := hg; exact ⟨_, hL.kind, by decide⟩)
/-- Steps are put at the end of Pend. -/
theorem Dk.pend {w w' : World} {base : Nat} {v1 v2 v3 v4 v' : Value} {D : MDisk} {l : List DO} (h : Dk w base v1 v2 v3 v4 D) (ho : OwnO w' base v' l) (hg : w.grownBy w' v4.ownBlock) : Dk w' base v1 v2 v3 v' ⟨D.nodes, D.names, D.kept, l, D.quota⟩ := by
  have f : Fr (fun g => v4.ownBlock = some g) w w' := Fr.of_grown hg (fun k e => e)
  have hS : ∀ g, v4.ownBlock = some g → KindAt w g 105 := fun g hg => own_kind h.p hg
  exact ⟨h.n.frk f (fun g hg => ⟨_, hS g hg, by decide⟩), own_frk h.e f (fun g hg => ⟨_, hS g hg, by decide⟩), own_frk h.k f (fun g hg => ⟨_, hS g hg, by decide⟩), ho⟩
/-- What an operation keeps: all below base, and every block that is no row of nodes or of steps. -/
structure Kep (base : Nat) (w w' : World) : Prop where
  bel : Below base w w'
  kind : ∀ g t, KindAt w g t → t ≠ 99 → t ≠ 105 → w'.heap[g]? = w.heap[g]?
theorem KindAt.lt {w : World} {g t : Nat} (h : KindAt w g t) : g < w.heap.size := by
  obtain ⟨_, _, h⟩ := h
  exact lt_of_block h
theorem Kep.of_below {base : Nat} {w w' : World} (h : Below w.heap.size w w') (hb : base ≤ w.heap.size) : Kep base w w' := ⟨h.mono hb, fun g _ k _ _ => h.block g k.lt⟩
theorem KindAt.on {w w' : World} {g t : Nat} (h : KindAt w g t) (e : w'.heap[g]? = w.heap[g]?) : KindAt w' g t := by
  obtain ⟨cs, fr, h⟩ := h
  exact ⟨cs, fr, e.trans h⟩
theorem Kep.trans {base : Nat} {a b c : World} (h : Kep base a b) (k : Kep base b c) : Kep base a c :=
  ⟨h.bel.trans k.bel, fun g t ht h1 h2 => by
    have e := h.kind g t ht h1 h2
    exact (k.kind g t (ht.on e) h1 h2).trans e⟩
theorem Kep.grown {base s : Nat} {a w w' : World} {row : Option Nat} (h : Kep base a w) (hg : w.grownBy w' row) (hB : base ≤ w.heap.size) (hr : ∀ k, row = some k → base ≤ k ∧ KindAt w k s) (hs : s = 99 ∨ s = 105) : Kep base a w' :=
  h.trans ⟨(Below.refl _ _).grown hg hB (fun k e => (hr k e).1), fun g t ht h1 h2 => hg.block g ht.lt (fun e => by
    have e2 := ht.ne (hr g e.symm).2
    rcases hs with rfl | rfl
    · exact h1 e2
    · exact h2 e2)⟩
theorem Kep.laid {base g t : Nat} {w w' : World} {cs : Array Value} (h : Kep base w w') (hL : Laid w g cs t) (h1 : t ≠ 99) (h2 : t ≠ 105) : Laid w' g cs t := (h.kind g t hL.kind h1 h2).trans hL
theorem Kep.setNew {base : Nat} {w X : World} {p : Addr} (h : Kep base w X) (hp : w.heap.size ≤ p.block) (hb : base ≤ w.heap.size) (u : Value) : Kep base w (X.setCell p u) :=
  ⟨h.bel.setCell (by omega) u, fun g t ht h1 h2 => (heap_setCell_other X p g u (fun e => by have := ht.lt; omega)).trans (h.kind g t ht h1 h2)⟩
theorem Kep.setD {base B : Nat} {w X : World} (h : Kep base w X) (hB : w.heap.size ≤ B) (hb : base ≤ w.heap.size) (x1 x2 x3 x4 x5 : Value) : Kep base w (setD X B x1 x2 x3 x4 x5) :=
  ((((h.setNew (p := ⟨B, 0, none⟩) hB hb x1).setNew (p := ⟨B, 1, none⟩) hB hb x2).setNew (p := ⟨B, 2, none⟩) hB hb x3).setNew (p := ⟨B, 3, none⟩) hB hb x4).setNew (p := ⟨B, 4, none⟩) hB hb x5
theorem boxes3 (w : World) (A B C : Array Value) (a b c : TypeId) : Laid (((w.alloc (.cells A a)).alloc (.cells B b)).alloc (.cells C c)) w.heap.size A a ∧ Laid (((w.alloc (.cells A a)).alloc (.cells B b)).alloc (.cells C c)) (w.heap.size + 1) B b ∧ Laid (((w.alloc (.cells A a)).alloc (.cells B b)).alloc (.cells C c)) (w.heap.size + 1 + 1) C c ∧ Below w.heap.size w (((w.alloc (.cells A a)).alloc (.cells B b)).alloc (.cells C c)) ∧ (((w.alloc (.cells A a)).alloc (.cells B b)).alloc (.cells C c)).heap.size = w.heap.size + 3 := by
  have h1 := Laid.new w A a
  have h2 := Laid.new (w.alloc (.cells A a)) B b
  have h3 := Laid.new ((w.alloc (.cells A a)).alloc (.cells B b)) C c
  have b2 := (Below.refl (w.alloc (.cells A a)).heap.size (w.alloc (.cells A a))).alloc (Nat.le_refl _) (.cells B b)
  have b3 := (Below.refl ((w.alloc (.cells A a)).alloc (.cells B b)).heap.size ((w.alloc (.cells A a)).alloc (.cells B b))).alloc (Nat.le_refl _) (.cells C c)
  have s1 : (w.alloc (.cells A a)).heap.size = w.heap.size + 1 := World.size_alloc ..
  have s2 : ((w.alloc (.cells A a)).alloc (.cells B b)).heap.size = w.heap.size + 1 + 1 := by rw [World.size_alloc, s1]
  rw [s1] at h2
  rw [s2] at h3
  refine ⟨(h1.below b2 h1.lt).below b3 (by rw [s2]; omega), h2.below b3 (by rw [s2]; omega), h3, ?_, by rw [World.size_alloc, s2]⟩
  exact (((Below.refl _ _).alloc (Nat.le_refl _) _).alloc (by simp) _).alloc (by simp; omega) _
theorem boxes2 (w : World) (A B : Array Value) (a b : TypeId) : Laid ((w.alloc (.cells A a)).alloc (.cells B b)) w.heap.size A a ∧ Laid ((w.alloc (.cells A a)).alloc (.cells B b)) (w.heap.size + 1) B b ∧ Below w.heap.size w ((w.alloc (.cells A a)).alloc (.cells B b)) ∧ ((w.alloc (.cells A a)).alloc (.cells B b)).heap.size = w.heap.size + 2 := by
  have h1 := Laid.new w A a
  have h2 := Laid.new (w.alloc (.cells A a)) B b
  have b2 := (Below.refl (w.alloc (.cells A a)).heap.size (w.alloc (.cells A a))).alloc (Nat.le_refl _) (.cells B b)
  have s1 : (w.alloc (.cells A a)).heap.size = w.heap.size + 1 := World.size_alloc ..
  rw [s1] at h2
  exact ⟨h1.below b2 h1.lt, h2, ((Below.refl _ _).alloc (Nat.le_refl _) _).alloc (by simp) _, by rw [World.size_alloc, s1]⟩
end Go.Proofs.YtpbpidfjecejcaaGreatDoor
namespace Go.Proofs.YtpbpidfjecejcaaGreatDoor
open Go.RowKit
theorem bytes_w (a : Option Addr) (cap : Nat) (l : List Nat) (w : World) (hl : l.length ≤ 1048576) (hr : RowAt w a l) :
    Calls Tryz.prog 57 #[.slice a l.length cap] w fun e w' => ∃ v, e = .returned v ∧ OwnB w' w.heap.size v l ∧ Below w.heap.size w w' :=
  (l1Bytes_any a cap l w hl hr).mono fun _ _ ⟨h1, h2, h3⟩ => ⟨_, h1, h2, h3⟩
/-- What holds behind the copy of a row and the new node, in whatever order the statement was gone through. -/
structure NdOk (W0 Y : World) (lo g : Nat) (z : Int) (v1 u : Value) (vs : List (Value × Value)) (N : List NdM) (R : List Nat) : Prop where
  n : OwnNA Y lo v1 vs N
  c0 : Y.cell? ⟨g, 0, none⟩ = some u
  c1 : Y.cell? ⟨g, 1, none⟩ = some (.int .i64 z)
  ow : OwnB Y lo u R
  sz : lo ≤ Y.heap.size
  bel : Below W0.heap.size W0 Y
theorem like_below {W0 W : World} (e1 : W.heap = W0.heap) (e2 : W.os = W0.os) (e3 : W.tape = W0.tape) (e4 : W.output = W0.output) : Below W0.heap.size W0 W := ⟨e2, e3, e4, by rw [e1]; exact Nat.le_refl _, fun k _ => by rw [e1]⟩
theorem OwnNA.below {w w' : World} {base : Nat} {v : Value} {vs : List (Value × Value)} {ns : List NdM} (h : OwnNA w base v vs ns) (hb : Below w.heap.size w w') : OwnNA w' base v vs ns := h.fr (S := fun _ => False) (Fr.of_below hb) (fun _ _ => id)
/-- A copy of a row, and a new node of it. -/
theorem nd_call (f : FuncId) (hf : ∀ (a : Option Addr) (cap : Nat) (l : List Nat) (w : World), l.length ≤ 1048576 → RowAt w a l → Calls Tryz.prog f #[.slice a l.length cap] w fun e w' => ∃ v, e = .returned v ∧ OwnB w' w.heap.size v l ∧ Below w.heap.size w w')
    {W0 : World} {lo : Nat} {v1 : Value} {vs : List (Value × Value)} {N : List NdM} {R : List Nat} {a : Option Addr} (z : Int) (hN : OwnNA W0 lo v1 vs N) (hlo : lo ≤ W0.heap.size) (jr : RowAt W0 a R) (n cap : Nat) (hn : n = R.length) (hR : R.length ≤ 1048576) :
    ∀ W : World, W.heap = W0.heap → W.os = W0.os → W.tape = W0.tape → W.output = W0.output → Calls Tryz.prog f #[.slice a n cap] W fun e w2 => ∃ a2 c2, e = .returned (.slice a2 R.length c2) ∧ (∀ y ∈ vs.map (·.1), awayV y (.slice a2 R.length c2)) ∧
      (∀ Y : World, Y.heap = (w2.alloc (.cells #[.slice a2 R.length c2, .int .i64 z] 99)).heap → Y.os = w2.os → Y.tape = w2.tape → Y.output = w2.output → NdOk W0 Y lo w2.heap.size z v1 (.slice a2 R.length c2) vs N R) ∧ (∀ p : Addr, p.block < W0.heap.size → w2.cell? p = W0.cell? p) := by
  intro W e1 e2 e3 e4
  subst hn
  have h0 := like_below e1 e2 e3 e4
  have hz : W.heap.size = W0.heap.size := by rw [e1]
  refine (hf a cap R W hR (jr.below h0)).mono ?_
  rintro e w2 ⟨v2', rfl, ho2, hb2⟩
  obtain ⟨a2, c2, rfl⟩ := ho2.slice
  rw [hz] at ho2 hb2
  have hb : Below W0.heap.size W0 w2 := h0.trans hb2
  refine ⟨a2, c2, rfl, fun y hy => ?_, fun Y y1 y2 y3 y4 => ?_, fun p hp => hb.cell hp⟩
  · cases hby : y.ownBlock with
    | none => exact .inl hby
    | some g =>
      refine .inr fun e => ?_
      have h1 := (hN.lo (.inr ⟨y, hy, hby⟩)).2
      rw [hby] at e
      have h2 := (own_ge ho2 e.symm).1
      omega
  · have hal := (Below.refl w2.heap.size w2).alloc (Nat.le_refl _) (.cells #[.slice a2 R.length c2, .int .i64 z] 99)
    have hbw : Below w2.heap.size w2 Y := ⟨y2, y3, y4, by rw [y1]; exact hal.size, fun k hk => by rw [y1]; exact hal.block k hk⟩
    have hbY : Below W0.heap.size W0 Y := hb.trans (hbw.mono hb.size)
    have hL : Laid Y w2.heap.size #[.slice a2 R.length c2, .int .i64 z] 99 := by
      have h := Laid.new w2 #[.slice a2 R.length c2, .int .i64 z] 99
      unfold Laid at h ⊢
      rw [y1]; exact h
    exact ⟨hN.below hbY, hL.cell 0, hL.cell 1, OwnB.mono (OwnB.below ho2 hbw (Nat.le_refl _)) hlo, Nat.le_trans hlo hbY.size, hbY⟩
theorem nd_next {W0 w2 Y w3 : World} {lo o t : Nat} {z : Int} {v1 u v' x2 : Value} {vs : List (Value × Value)} {N : List NdM} {R : List Nat} {cs : Array Value} (h : ∀ Y : World, Y.heap = (w2.alloc (.cells #[u, .int .i64 z] 99)).heap → Y.os = w2.os → Y.tape = w2.tape → Y.output = w2.output → NdOk W0 Y lo w2.heap.size z v1 u vs N R) (hL : Laid W0 o cs t) (ht : t ≠ 99) (hx : cs[0]? = some x2)
    (ho : OwnNA w3 lo v' (vs ++ [(u, .int .i64 z)]) (N ++ [(R, z)])) (hg : Y.grownBy w3 v1.ownBlock) (y1 : Y.heap = (w2.alloc (.cells #[u, .int .i64 z] 99)).heap := by rfl) (y2 : Y.os = w2.os := by rfl) (y3 : Y.tape = w2.tape := by rfl) (y4 : Y.output = w2.output := by rfl) :
    Fr (fun g => v1.ownBlock = some g) W0 w3 ∧ Laid w3 o cs t ∧ w3.cell? ⟨o, 0, none⟩ = some x2 ∧ w3.frozen? ⟨o, 0, none⟩ = false ∧ OwnNA w3 lo v' (vs ++ [(u, .int .i64 z)]) (N ++ [(R, z)]) := by
  have k := h Y y1 y2 y3 y4
  have hLY := hL.below k.bel hL.lt
  have hne : some o ≠ v1.ownBlock := fun e => ht (hLY.kind.ne (own_kind k.n.row e.symm))
  have hL3 : Laid w3 o cs t := (hg.block o hLY.lt hne).trans hLY
  exact ⟨(Fr.of_below k.bel).trans (Fr.of_grown hg (fun k e => e)), hL3, (hL3.cell 0).trans hx, frozen_of_row w3 o 0 _ _ hL3, ho⟩
end Go.Proofs.YtpbpidfjecejcaaGreatDoor
namespace Go.Proofs.YtpbpidfjecejcaaGreatDoor
open Go.RowKit
/-- Behind the append to Pend. -/
theorem dir_next {w W w5 : World} {base : Nat} {a1 a2 a3 a4 a5 : Option Addr} {c1 c2 c3 c4 c5 : Nat} {v5 : Value} {A B C : Array Value} {D : MDisk} {l : List EN} {x : DO} {tB : TypeId} (HD : ∀ w', Below w.heap.size w w' → Dk w' base (.slice a1 D.nodes.length c1) (.slice a2 D.names.length c2) (.slice a3 D.kept.length c3) (.slice a4 D.pend.length c4) D)
    (hb : Below w.heap.size w (W.alloc (.cells B tB))) (L1 : Laid W w.heap.size A 27) (L3 : Laid W (w.heap.size + 1 + 1) C 27) (K5 : OwnE W base (.slice a5 l.length c5) l)
    (hp : ∀ g, (Value.slice a4 D.pend.length c4).ownBlock = some g → g < w.heap.size) (hlo : ∀ g, (Value.slice a4 D.pend.length c4).ownBlock = some g → base ≤ g) (hbase : base ≤ w.heap.size)
    (ho : OwnO w5 base v5 (D.pend ++ [x])) (hg : (W.alloc (.cells B tB)).grownBy w5 (Value.slice a4 D.pend.length c4).ownBlock) :
    Dk w5 base (.slice a1 D.nodes.length c1) (.slice a5 l.length c5) (.slice a3 D.kept.length c3) v5 ⟨D.nodes, l, D.kept, D.pend ++ [x], D.quota⟩ ∧ Kep base w w5 ∧ Laid w5 w.heap.size A 27 ∧ Laid w5 (w.heap.size + 1 + 1) C 27 := by
  have hal := (Below.refl W.heap.size W).alloc (Nat.le_refl _) (.cells B tB)
  have dk := HD _ hb
  have dk' : Dk (W.alloc (.cells B tB)) base (.slice a1 D.nodes.length c1) (.slice a5 l.length c5) (.slice a3 D.kept.length c3) (.slice a4 D.pend.length c4) ⟨D.nodes, l, D.kept, D.pend, D.quota⟩ := ⟨dk.n, K5.below hal, dk.k, dk.p⟩
  have k1 : Laid (W.alloc (.cells B tB)) w.heap.size A 27 := L1.below hal L1.lt
  have k3 : Laid (W.alloc (.cells B tB)) (w.heap.size + 1 + 1) C 27 := L3.below hal L3.lt
  exact ⟨dk'.pend ho hg, (Kep.of_below hb hbase).grown hg (Nat.le_trans hbase hb.size) (fun k e => ⟨hlo k e, own_kind dk.p e⟩) (.inr rfl), (hg.block _ k1.lt (fun e => by have := hp _ e.symm; omega)).trans k1, (hg.block _ k3.lt (fun e => by have := hp _ e.symm; omega)).trans k3⟩
set_option maxRecDepth 20000 in
set_option maxHeartbeats 1000000 in
theorem l1Dir_any (base : Nat) (v1 v2 v3 v4 : Value) (D : MDisk) (kd : Int) (nm to : ByteArray) (nd : Int) (l : List EN) (w : World) (hbase : base ≤ w.heap.size) (hn : D.names.length ≤ 1048573) (hp : D.pend.length ≤ 1048575) (hs1 : nm.size ≤ 1048576) (hs2 : to.size ≤ 1048576) (hr : repE (D.nodes.length : Int) D.names (kd, nm, to, nd) = some l) (hd : Dk w base v1 v2 v3 v4 D) :
    Calls Tryz.prog 78 #[.agg #[v1, v2, v3, v4, .int .i64 D.quota], .agg #[.int .i64 kd, .string nm, .string to, .int .i64 nd]] w fun e w' => ∃ v1' v2' v3' v4', e = .returned (.agg #[v1', v2', v3', v4', .int .i64 D.quota]) ∧ Dk w' base v1' v2' v3' v4' (dirD D (kd, nm, to, nd)) ∧ Kep base w w' := by
  obtain ⟨a1, c1, rfl⟩ := hd.n.slice
  obtain ⟨a2, c2, rfl⟩ := hd.e.slice
  obtain ⟨a3, c3, rfl⟩ := hd.k.slice
  obtain ⟨a4, c4, rfl⟩ := hd.p.slice
  obtain ⟨L1, L2, L3, hA, hz⟩ := boxes3 w #[.slice a1 D.nodes.length c1, .slice a2 D.names.length c2, .slice a3 D.kept.length c3, .slice a4 D.pend.length c4, .int .i64 D.quota] #[.int .i64 kd, .string nm, .string to, .int .i64 nd] #[.slice none 0 0, .slice none 0 0, .slice none 0 0, .slice none 0 0, .int .i64 0] 27 105 27
  have HD := hide (fun w' (hb : Below w.heap.size w w') => hd.below hb)
  have RE := hide (fun W (hb : Below w.heap.size w W) => l1Replay_any a2 c2 D.names kd nm to nd (D.nodes.length : Int) W hn hs1 hs2 (hd.e.below hb).at)
  have HR := hide hr
  rw [hr] at RE
  clear hd hr
  go_enter Tryz.func78, Tryz.ntmps78
  go_wp2_with fail
  generalize ((w.alloc (.cells #[.slice a1 D.nodes.length c1, .slice a2 D.names.length c2, .slice a3 D.kept.length c3, .slice a4 D.pend.length c4, .int .i64 D.quota] 27)).alloc (.cells #[.int .i64 kd, .string nm, .string to, .int .i64 nd] 105)).alloc (.cells #[.slice none 0 0, .slice none 0 0, .slice none 0 0, .slice none 0 0, .int .i64 0] 27) = W0 at L1 L2 L3 hA hz ⊢
  refine (RE.out W0 hA).mono ?_
  rintro e w1 ⟨a5, c5, rfl, ho5, hb5⟩
  have M1 := L1.below hb5 L1.lt
  have M2 := L2.below hb5 L2.lt
  have M3 := L3.below hb5 L3.lt
  have hA1 := hA.trans (hb5.mono hA.size)
  have hz1 : w.heap.size + 3 ≤ w1.heap.size := by have := hb5.size; omega
  have hp4 : ∀ g, (Value.slice a4 D.pend.length c4).ownBlock = some g → g < w.heap.size := fun g hg => (own_ge (HD.out w (Below.refl _ _)).p hg).2
  have b4 : ∀ g, (Value.slice a4 D.pend.length c4).ownBlock = some g → base ≤ g := fun g hg => (own_ge (HD.out w (Below.refl _ _)).p hg).1
  have e5 : OwnE w1 base (.slice a5 l.length c5) l := OwnE.mono ho5 (by omega)
  have hX1 : Below w.heap.size w (w1.setCell ⟨w.heap.size, 1, none⟩ (.slice a5 l.length c5)) := hA1.setCell (by simp) _
  have hX2 : Below w.heap.size w ((w1.setCell ⟨w.heap.size, 1, none⟩ (.slice a5 l.length c5)).alloc (.cells #[.int .i64 kd, .string nm, .string to, .int .i64 nd] 105)) := hX1.alloc (by simp; omega) _
  have N1 := M1.set 1 (.slice a5 l.length c5)
  have N3 := M3.other (p := ⟨w.heap.size, 1, none⟩) (by simp; omega) (.slice a5 l.length c5)
  have k5 : OwnE (w1.setCell ⟨w.heap.size, 1, none⟩ (.slice a5 l.length c5)) base (.slice a5 l.length c5) l := own_frk e5 (S := fun g => g = w.heap.size) ((Fr.refl _ _).set rfl) (fun g hg => by obtain rfl : g = w.heap.size := hg; exact ⟨_, M1.kind, by decide⟩)
  have q0 : w1.cell? ⟨w.heap.size, 0, none⟩ = some (.slice a1 D.nodes.length c1) := M1.cell 0
  have q1 : w1.cell? ⟨w.heap.size, 1, none⟩ = some (.slice a2 D.names.length c2) := M1.cell 1
  have q2 : w1.cell? ⟨w.heap.size, 2, none⟩ = some (.slice a3 D.kept.length c3) := M1.cell 2
  have q3 : w1.cell? ⟨w.heap.size, 3, none⟩ = some (.slice a4 D.pend.length c4) := M1.cell 3
  have q4 : w1.cell? ⟨w.heap.size, 4, none⟩ = some (.int .i64 D.quota) := M1.cell 4
  have o0 : w1.cell? ⟨w.heap.size + 1, 0, none⟩ = some (.int .i64 kd) := M2.cell 0
  have o1 : w1.cell? ⟨w.heap.size + 1, 1, none⟩ = some (.string nm) := M2.cell 1
  have o2 : w1.cell? ⟨w.heap.size + 1, 2, none⟩ = some (.string to) := M2.cell 2
  have o3 : w1.cell? ⟨w.heap.size + 1, 3, none⟩ = some (.int .i64 nd) := M2.cell 3
  have f1 := frozen_of_row w1 w.heap.size 1 _ _ M1
  have HX2 := hide hX2
  have HN1 := hide N1
  have HN3 := hide N3
  have HK5 := hide k5
  have HP4 := hide hp4
  have HB4 := hide b4
  clear hX1 hX2 N1 N3 k5 hp4 b4 e5 ho5 hb5 M1 M2 M3 L1 L2 L3 hA hA1 RE
  have hat : OpAt ((w1.setCell ⟨w.heap.size, 1, none⟩ (.slice a5 l.length c5)).alloc (.cells #[.int .i64 kd, .string nm, .string to, .int .i64 nd] 105)) (some ⟨w1.heap.size, 0, none⟩) [(kd, nm, to, nd)] := by
    have hL := Laid.new (w1.setCell ⟨w.heap.size, 1, none⟩ (.slice a5 l.length c5)) #[.int .i64 kd, .string nm, .string to, .int .i64 nd] 105
    rw [World.size_setCell] at hL
    refine fun _ => ⟨w1.heap.size, 0, rfl, fun i hi => ?_⟩
    obtain rfl : i = 0 := by simpa using hi
    exact ⟨hL.cell 0, hL.cell 1, hL.cell 2, hL.cell 3⟩
  have HAT := hide hat
  have hsz : base ≤ ((w1.setCell ⟨w.heap.size, 1, none⟩ (.slice a5 l.length c5)).alloc (.cells #[.int .i64 kd, .string nm, .string to, .int .i64 nd] 105)).heap.size := by simp; omega
  have HSZ := hide hsz
  clear hat hsz
  go_wp2_with (at_builtin; go_loud (refine wpList_append_dirs _ rfl (.tmp 20) (.tmp 22) rfl base (.slice a4 D.pend.length c4) D.pend [(kd, nm, to, nd)] rfl ?_ (some ⟨w1.heap.size, 0, none⟩) 1 rfl ?_ ?_ ?_ ?_; (exact (HD.out _ HX2.out).p); (exact HAT.out); (simp; omega); (exact HSZ.out); intro v5 w5 ho5 hg5; obtain ⟨a6, c6, rfl⟩ := ho5.slice; have hdk := dir_next HD.out HX2.out HN1.out HN3.out HK5.out HP4.out HB4.out hbase ho5 hg5; have HDK := hide hdk.1; rw [show (D.pend ++ [(kd, nm, to, nd)]).length = D.pend.length + 1 from by simp] at HDK; have HBW := hide hdk.2.1; have T1 := hdk.2.2.1; have T3 := hdk.2.2.2; have HT1 := hide T1; have HT3 := hide T3; have t0 : w5.cell? ⟨w.heap.size, 0, none⟩ = some (.slice a1 D.nodes.length c1) := T1.cell 0; have t1 : w5.cell? ⟨w.heap.size, 1, none⟩ = some (.slice a5 l.length c5) := T1.cell 1; have t2 : w5.cell? ⟨w.heap.size, 2, none⟩ = some (.slice a3 D.kept.length c3) := T1.cell 2; have t3 : w5.cell? ⟨w.heap.size, 3, none⟩ = some (.slice a4 D.pend.length c4) := T1.cell 3; have t4 : w5.cell? ⟨w.heap.size, 4, none⟩ = some (.int .i64 D.quota) := T1.cell 4; have r0 : w5.cell? ⟨w.heap.size + 1 + 1, 0, none⟩ = some (.slice none 0 0) := T3.cell 0; have r1 : w5.cell? ⟨w.heap.size + 1 + 1, 1, none⟩ = some (.slice none 0 0) := T3.cell 1; have r2 : w5.cell? ⟨w.heap.size + 1 + 1, 2, none⟩ = some (.slice none 0 0) := T3.cell 2; have r3 : w5.cell? ⟨w.heap.size + 1 + 1, 3, none⟩ = some (.slice none 0 0) := T3.cell 3; have r4 : w5.cell? ⟨w.heap.size + 1 + 1, 4, none⟩ = some (.int .i64 0) := T3.cell 4; have g3 := frozen_of_row w5 w.heap.size 3 _ _ T1; have g0 := frozen_of_row w5 (w.heap.size + 1 + 1) 0 _ _ T3; have g1 := frozen_of_row w5 (w.heap.size + 1 + 1) 1 _ _ T3; have g2 := frozen_of_row w5 (w.heap.size + 1 + 1) 2 _ _ T3; have g3' := frozen_of_row w5 (w.heap.size + 1 + 1) 3 _ _ T3; have g4 := frozen_of_row w5 (w.heap.size + 1 + 1) 4 _ _ T3; clear hdk T1 T3 ho5 hg5 q0 q1 q2 q3 q4 o0 o1 o2 o3))
  have U3 := HT3.out.other (p := ⟨w.heap.size, 3, none⟩) (by simp; omega) (.slice a6 (D.pend.length + 1) c6)
  exact bodyPost_ret (ret_disk (w.heap.size + 1 + 1) _ _ _ _ _ _ rfl rfl (set_disk _ _ _ _ _ U3)) rfl ⟨_, _, _, _, rfl, by
    have h := (HDK.out.box HT1.out (by decide) 3 (.slice a6 (D.pend.length + 1) c6)).setD U3 (.slice a1 D.nodes.length c1) (.slice a5 l.length c5) (.slice a3 D.kept.length c3) (.slice a6 (D.pend.length + 1) c6) (.int .i64 D.quota)
    have e : dirD D (kd, nm, to, nd) = ⟨D.nodes, l, D.kept, D.pend ++ [(kd, nm, to, nd)], D.quota⟩ := by unfold dirD; rw [HR.out]; rfl
    rw [e]; exact h, (HBW.out.setNew (p := ⟨w.heap.size, 3, none⟩) (Nat.le_refl _) hbase _).setD (by omega) hbase _ _ _ _ _⟩
end Go.Proofs.YtpbpidfjecejcaaGreatDoor
namespace Go.Proofs.YtpbpidfjecejcaaGreatDoor
open Go.RowKit
/-- append of one node to nodes that may share. -/
theorem wpList_append_nodeN {ops : Array Oper} {rest : List Oper} {o : Oper} {act : Act} {Q : Exit → Act → World → Prop} (w : World) (hgd : o.guard = none) (s x : Operand)
    (ho : o.op = .call { callee := .builtin .append, args := #[s, x], argTypes := #[23, 23] })
    (lo : Nat) (v : Value) (ns : List NdM) (u : Value) (l : List Nat) (z : Int) (g1 c : Nat) (hs : act.eval s = v) (hx : act.eval x = .slice (some ⟨g1, 0, none⟩) 1 c) (hown : OwnN w lo v ns) (h0 : w.cell? ⟨g1, 0, none⟩ = some u) (h1 : w.cell? ⟨g1, 1, none⟩ = some (.int .i64 z)) (hox : OwnB w lo u l)
    (hlen : ns.length ≤ 1048576) (hbase : lo ≤ w.heap.size)
    (h : ∀ v' w', OwnN w' lo v' (ns ++ [(l, z)]) → w.grownBy w' v.ownBlock → wpList Tryz.prog ops Q rest (act.put o.dst v') w') : wpList Tryz.prog ops Q (o :: rest) act w := by
  obtain ⟨i0, hi, hz0, hz1, hz2⟩ := info_parts Tryz.infoNode
  obtain ⟨vs, hl, hrow, hb⟩ := hown
  refine wpList_append_own w hgd s x 23 ho lo 99 i0 (.agg #[.slice none 0 0, .int .i64 0]) 2 32 Tryz.underlying23 hi hz0 hz1 hz2 rfl (by decide) v vs.length (two vs) hs hrow ⟨g1, 0, none⟩ 1 c [u, .int .i64 z] hx (by simp) ?_ ?_ (by unfold maxLen; omega) (by omega) hbase ?_
  · intro j y hj
    rw [addr_add]
    match j with
    | 0 => simp only [List.getElem?_cons_zero, Option.some.injEq] at hj; rw [← hj]; exact h0
    | 1 => simp only [List.getElem?_cons_succ, List.getElem?_cons_zero, Option.some.injEq] at hj; rw [← hj]; exact h1
    | j + 2 => simp at hj
  · intro y hy
    simp only [List.mem_cons, List.not_mem_nil, or_false] at hy
    rcases hy with rfl | rfl
    · obtain ⟨a, c', rfl⟩ := hox.slice; rfl
    · rfl
  · intro v' w' hown' hg _
    refine h v' w' ⟨vs ++ [(u, .int .i64 z)], by simp [hl], ?_, fun i hi' => ?_⟩ hg
    · unfold Own2
      rw [two_append, List.length_append]
      exact hown'
    · have hk : ∀ {y : Value} {m : List Nat}, OwnB w lo y m → OwnB w' lo y m := fun {y m} hy => World.ownsRow.kept hy hg (owns_away hy hrow (by decide))
      by_cases hil : i < ns.length
      · obtain ⟨y, hy, oy⟩ := hb i hil
        refine ⟨y, ?_, ?_⟩
        · rw [List.getElem?_append_left (by omega), List.getElem_append_left hil]; exact hy
        · rw [List.getElem_append_left hil]; exact hk oy
      · have hie : i = ns.length := by simp at hi'; omega
        subst hie
        refine ⟨u, ?_, ?_⟩
        · rw [List.getElem?_append_right (by omega)]; simp [hl]
        · simp only [List.getElem_concat_length]; exact hk hox
/-- Nodes come anew. -/
theorem Dk.nodes {w w' : World} {base : Nat} {v1 v2 v3 v4 v' : Value} {D : MDisk} {l : List NdM} (h : Dk w base v1 v2 v3 v4 D) (ho : OwnN w' base v' l) (hg : w.grownBy w' v1.ownBlock) : Dk w' base v' v2 v3 v4 ⟨l, D.names, D.kept, D.pend, D.quota⟩ := by
  obtain ⟨vs, _, hrow, _⟩ := h.n
  have f : Fr (fun g => v1.ownBlock = some g) w w' := Fr.of_grown hg (fun k e => e)
  have hS : ∀ g, v1.ownBlock = some g → KindAt w g 99 := fun g hg => own_kind hrow hg
  exact ⟨ho, own_frk h.e f (fun g hg => ⟨_, hS g hg, by decide⟩), own_frk h.k f (fun g hg => ⟨_, hS g hg, by decide⟩), own_frk h.p f (fun g hg => ⟨_, hS g hg, by decide⟩)⟩
theorem ret_one {fn : Func} {tmps : Array Value} {p u : Tmp} (B : Nat) (W : World) (x1 x2 x3 x4 x5 y : Value) (hf : fn.results = #[.cell p 27, .tmp u]) (hp : tmps.getD p undef = .pointer (some ⟨B, 0, none⟩)) (hy : tmps.getD u undef = y) (hb : Laid W B #[x1, x2, x3, x4, x5] 27) :
    (results fn tmps).run Tryz.prog W = .ok (.tuple #[.agg #[x1, x2, x3, x4, x5], y]) W := by
  rw [results_cell_tmp hf, hp, hy]
  have h : (loadVar 27 ⟨B, 0, none⟩).run Tryz.prog W = .ok (.agg #[x1, x2, x3, x4, x5]) W := run_loadVar_row (P := Tryz.prog) W B _ _ _ _ _ hb Tryz.underlying27 rfl (by kernel_rfl)
  simp [asAddr, h]
/-- What one operation answers. -/
def OnPost (base : Nat) (w : World) (R : MDisk × Int) (e : Ending) (w' : World) : Prop := ∃ v1 v2 v3 v4, e = .returned (.tuple #[.agg #[v1, v2, v3, v4, .int .i64 R.1.quota], .int .i64 R.2]) ∧ Dk w' base v1 v2 v3 v4 R.1 ∧ Kep base w w' ∧ (R.2 ≠ 0 → Below w.heap.size w w')
theorem on_end {w W : World} {base B : Nat} {v1 v2 v3 v4 y1 y2 y3 y4 y5 : Value} {D' : MDisk} {R : MDisk × Int} {q code : Int} (hR : R = (D', code)) (hq : q = D'.quota) (hd : Dk W base v1 v2 v3 v4 D') (hL : Laid W B #[y1, y2, y3, y4, y5] 27) (hb : Kep base w W) (hB : w.heap.size ≤ B) (hw : base ≤ w.heap.size) (hx : code ≠ 0 → Below w.heap.size w W) :
    OnPost base w R (.returned (.tuple #[.agg #[v1, v2, v3, v4, .int .i64 q], .int .i64 code])) (setD W B v1 v2 v3 v4 (.int .i64 q)) := by
  subst hR
  subst hq
  exact ⟨v1, v2, v3, v4, rfl, hd.setD hL _ _ _ _ _, hb.setD hB hw _ _ _ _ _, fun hc => (hx hc).trans ((setD_fr _ _ _ _ _ _ _).below (fun g e => by omega) (hx hc).size)⟩
theorem one_kind {D : MDisk} {o : OpV} (h : o.1 < 1 ∨ 6 < o.1) : doOne D o = (D, 2) := by unfold doOne; rw [if_pos h]
theorem one_dir {D : MDisk} {o : OpV} (h : o.1 = 6) : doOne D o = (settleD D, 0) := by unfold doOne; rw [if_neg (by omega), if_pos h]
theorem one_name {D : MDisk} {o : OpV} (h1 : 1 ≤ o.1) (h5 : o.1 ≤ 5) (h : okName o.2.1 = false ∨ (o.1 = 4 ∧ okName o.2.2.1 = false)) : doOne D o = (D, 3) := by unfold doOne; rw [if_neg (by omega), if_neg (by omega), if_pos h]
/-- A name that will do. -/
def nmOk (o : OpV) : Prop := okName o.2.1 = true ∧ (o.1 = 4 → okName o.2.2.1 = true)
theorem nm_not {o : OpV} (h : nmOk o) : ¬ (okName o.2.1 = false ∨ (o.1 = 4 ∧ okName o.2.2.1 = false)) := by
  rintro (e | ⟨e1, e2⟩)
  · rw [h.1] at e; cases e
  · rw [h.2 e1] at e2; cases e2
theorem one_full {D : MDisk} {o : OpV} (h : o.1 = 1) (hn : nmOk o) (hf : 600 ≤ D.nodes.length ∨ 1000 ≤ D.pend.length ∨ (nodeIn D.names o.2.1 = none ∧ 300 ≤ D.names.length)) : doOne D o = (D, 6) := by unfold doOne; rw [if_neg (by omega), if_neg (by omega), if_neg (nm_not hn), if_pos h, if_pos hf]
theorem one_new {D : MDisk} {o : OpV} (h : o.1 = 1) (hn : nmOk o) (hf : ¬ (600 ≤ D.nodes.length ∨ 1000 ≤ D.pend.length ∨ (nodeIn D.names o.2.1 = none ∧ 300 ≤ D.names.length))) : doOne D o = (dirD (newD D) (1, o.2.1, noStr, (D.nodes.length : Int)), 0) := by unfold doOne; rw [if_neg (by omega), if_neg (by omega), if_neg (nm_not hn), if_pos h, if_neg hf]
theorem one_missing {D : MDisk} {o : OpV} (h1 : 2 ≤ o.1) (h5 : o.1 ≤ 5) (hn : nmOk o) (hm : nodeIn D.names o.2.1 = none) : doOne D o = (D, 4) := by unfold doOne; rw [if_neg (by omega), if_neg (by omega), if_neg (nm_not hn), if_neg (by omega), hm]
/-- What an operation on a name that is there does. -/
theorem one_there {D : MDisk} {o : OpV} {n : Int} (h1 : 2 ≤ o.1) (h5 : o.1 ≤ 5) (hn : nmOk o) (hm : nodeIn D.names o.2.1 = some n) : doOne D o =
      (if o.1 = 2 then
        if D.quota < (usedOf D.nodes D.names : Int) + (o.2.2.2.length : Int) then (D, 5)
        else if 40000 < (ndAt D n).1.length + o.2.2.2.length ∨ 200000 < sumN D.nodes + o.2.2.2.length then (D, 6)
        else (putD D n ((ndAt D n).1 ++ o.2.2.2, (ndAt D n).2), 0)
      else if o.1 = 3 then (putD D n ((ndAt D n).1, ((ndAt D n).1.length : Int)), 0)
      else if o.1 = 4 ∧ o.2.2.1 = o.2.1 then (D, 0)
      else if 1000 ≤ D.pend.length then (D, 6)
      else (dirD D (o.1, o.2.1, if o.1 = 4 then o.2.2.1 else noStr, 0), 0)) := by
  unfold doOne; rw [if_neg (by omega), if_neg (by omega), if_neg (nm_not hn), if_neg (by omega), hm]
end Go.Proofs.YtpbpidfjecejcaaGreatDoor
namespace Go.Proofs.YtpbpidfjecejcaaGreatDoor
open Go.RowKit
theorem OwnN.cells {w : World} {base : Nat} {a : Option Addr} {n cap : Nat} {ns : List NdM} (h : OwnN w base (.slice a n cap) ns) (hp : 0 < ns.length) :
    ∃ g, a = some ⟨g, 0, none⟩ ∧ base ≤ g ∧ (∀ o, w.frozen? ⟨g, o, none⟩ = false) ∧ KindAt w g 99 ∧ ∀ i (hi : i < ns.length), ∃ ai ci, w.cell? ⟨g, i * 2, none⟩ = some (.slice ai ns[i].1.length ci) ∧ w.cell? ⟨g, i * 2 + 1, none⟩ = some (.int .i64 ns[i].2) ∧ OwnB w base (.slice ai ns[i].1.length ci) ns[i].1 := by
  obtain ⟨vs, hl, h2, hb⟩ := h
  rcases h2.2 with ⟨_, h0⟩ | ⟨g, c, cur, hv, hlo, hg, hcs⟩
  · omega
  · obtain ⟨rfl, rfl, rfl⟩ : a = some ⟨g, 0, none⟩ ∧ n = vs.length ∧ cap = c := by simpa using hv
    refine ⟨g, rfl, hlo, fun o => Own2.frozen h2 o, ⟨_, _, hg⟩, fun i hi => ?_⟩
    obtain ⟨x, hx, p1⟩ := hb i hi
    obtain ⟨ai, ci, rfl⟩ := p1.slice
    obtain ⟨hl2, hx2⟩ := List.getElem?_eq_some_iff.1 hx
    obtain ⟨c0, c1⟩ := Own2.cells h2 i hl2
    rw [hx2] at c0 c1
    exact ⟨ai, ci, c0, c1, p1⟩
/-- Behind the new node. -/
theorem new_next {w W w5 : World} {base : Nat} {v1 v2 v3 v4 v5 : Value} {D : MDisk} {u : Obj} (hd : Dk W base v1 v2 v3 v4 D) (hK : Kep base w W) (hw : base ≤ w.heap.size) (ho : OwnN w5 base v5 (D.nodes ++ [([], 0)])) (hg : (W.alloc u).grownBy w5 v1.ownBlock) :
    Dk w5 base v5 v2 v3 v4 (newD D) ∧ Kep base w w5 ∧ (∀ g cs t, Laid W g cs t → t ≠ 99 → Laid w5 g cs t) := by
  have hal := (Below.refl W.heap.size W).alloc (Nat.le_refl _) u
  have hd2 := hd.below hal
  have hbw : base ≤ W.heap.size := Nat.le_trans hw hK.bel.size
  obtain ⟨vs, _, hrow, _⟩ := hd2.n
  have hr : ∀ k, v1.ownBlock = some k → base ≤ k ∧ KindAt (W.alloc u) k 99 := fun k e => ⟨(own_ge hrow e).1, own_kind hrow e⟩
  refine ⟨hd2.nodes ho hg, (hK.trans (Kep.of_below hal hbw)).grown hg (by simp; omega) hr (.inl rfl), fun g cs t hL ht => ?_⟩
  have hL2 := hL.below hal hL.lt
  exact (hg.block g hL2.lt (fun e => ht (hL2.kind.ne (hr g e.symm).2))).trans hL2
/-- A node is written in its place. -/
theorem put_next {w W : World} {base g j n cap : Nat} {v2 v3 v4 u : Value} {D : MDisk} {l : List NdM} (hd : Dk W base (.slice (some ⟨g, 0, none⟩) n cap) v2 v3 v4 D) (hK : Kep base w W) (hw : base ≤ w.heap.size) (ho : OwnN (W.setCell ⟨g, j, none⟩ u) base (.slice (some ⟨g, 0, none⟩) n cap) l) (hg : W.grownBy (W.setCell ⟨g, j, none⟩ u) (some g)) :
    Dk (W.setCell ⟨g, j, none⟩ u) base (.slice (some ⟨g, 0, none⟩) n cap) v2 v3 v4 ⟨l, D.names, D.kept, D.pend, D.quota⟩ ∧ Kep base w (W.setCell ⟨g, j, none⟩ u) ∧ (∀ b cs t, Laid W b cs t → t ≠ 99 → Laid (W.setCell ⟨g, j, none⟩ u) b cs t) := by
  have hbw : base ≤ W.heap.size := Nat.le_trans hw hK.bel.size
  obtain ⟨vs, _, hrow, _⟩ := hd.n
  have hr : ∀ k, (some g : Option Nat) = some k → base ≤ k ∧ KindAt W k 99 := fun k e => ⟨(own_ge hrow e).1, own_kind hrow e⟩
  refine ⟨hd.nodes ho hg, hK.grown hg hbw hr (.inl rfl), fun b cs t hL ht => ?_⟩
  exact (hg.block b hL.lt (fun e => ht (hL.kind.ne (hr b e.symm).2))).trans hL
end Go.Proofs.YtpbpidfjecejcaaGreatDoor
