import Derived.Test.YtledlicandlekaaDoorCutIm7
import Derived.Test.YtledlicandlekaaDoorBytes
namespace Go.Proofs.YtledlicandlekaaDoor
open Go.RowKit
structure EU (w W : World) (A B : Array Value) : Prop where
  bel : Below w.heap.size w W
  a : BlkU W w.heap.size A
  b : BlkU W (w.heap.size + 1) B
theorem EU.drewN {w W : World} {A B : Array Value} (h : EU w W A B) (n : Nat) : EU w (W.drewN n) A B := by
  have hb := below_drewN (Below.refl W.heap.size W) n
  exact ⟨below_on h.bel hb, h.a.below hb h.a.lt, h.b.below hb h.b.lt⟩
theorem eu_new (w : World) (A B : Array Value) : EU w ((w.alloc (.cells A 44)).alloc (.cells B 44)) A B :=
  ⟨((Below.refl _ _).alloc (Nat.le_refl _) _).alloc (by simp) _, (blk_new w A _).below (B := w.heap.size + 1) ((Below.refl _ _).alloc (by simp) _) (by omega), heap_alloc2_new w _ _⟩
set_option maxHeartbeats 1000000 in
theorem eqUnit_same (a a' p p' : Option Addr) (l m : List Nat) (cap cap' q q' : Nat) (x y : Bool) (w : World) (hl : l.length ≤ 9223372036854775807) (hm : m.length ≤ 9223372036854775807) (hr : RowAt w a l) (hr' : RowAt w a' l) (hs : RowAt w p m) (hs' : RowAt w p' m) :
    Calls Tryd.prog 46 #[.agg #[.slice a l.length cap, .slice p m.length q, .bool x, .bool y], .agg #[.slice a' l.length cap', .slice p' m.length q', .bool x, .bool y]] w fun e w' => e = .returned (.bool true) ∧ Below w.heap.size w w' := by
  have HU := hide (eu_new w #[.slice a l.length cap, .slice p m.length q, .bool x, .bool y] #[.slice a' l.length cap', .slice p' m.length q', .bool x, .bool y])
  have HR := hide hr
  have HR' := hide hr'
  have HS := hide hs
  have HS' := hide hs'
  clear hr hr' hs hs'
  go_enter Tryd.func46, Tryd.ntmps46
  go_wp2_with fail
  refine (eqByteS_any a a' cap cap' l l _ hl (HR.out.below HU.out.bel) (HR'.out.below HU.out.bel)).mono ?_
  rintro e w2 ⟨rfl, n, rfl⟩
  rw [decide_eq_true (rfl : l = l)]
  have HU2 := hide (HU.out.drewN n)
  clear HU
  generalize (((w.alloc (.cells #[.slice a l.length cap, .slice p m.length q, .bool x, .bool y] 44)).alloc (.cells #[.slice a' l.length cap', .slice p' m.length q', .bool x, .bool y] 44)).drewN n) = w3 at HU2 ⊢
  have q0 : w3.cell? ⟨w.heap.size, 1, none⟩ = some (.slice p m.length q) := HU2.out.a.cell 1
  have q1 : w3.cell? ⟨w.heap.size + 1, 1, none⟩ = some (.slice p' m.length q') := HU2.out.b.cell 1
  go_wp2_with fail
  refine (eqByteS_any p p' q q' m m _ hm (HS.out.below HU2.out.bel) (HS'.out.below HU2.out.bel)).mono ?_
  rintro e w4 ⟨rfl, n', rfl⟩
  rw [decide_eq_true (rfl : m = m)]
  have HU3 := hide (HU2.out.drewN n')
  clear HU2 q0 q1
  generalize w3.drewN n' = w4 at HU3 ⊢
  have q0 : w4.cell? ⟨w.heap.size, 2, none⟩ = some (.bool x) := HU3.out.a.cell 2
  have q1 : w4.cell? ⟨w.heap.size + 1, 2, none⟩ = some (.bool x) := HU3.out.b.cell 2
  have q2 : w4.cell? ⟨w.heap.size, 3, none⟩ = some (.bool y) := HU3.out.a.cell 3
  have q3 : w4.cell? ⟨w.heap.size + 1, 3, none⟩ = some (.bool y) := HU3.out.b.cell 3
  go_wp2
  go_ret
  exact ⟨rfl, HU3.out.bel⟩
end Go.Proofs.YtledlicandlekaaDoor
