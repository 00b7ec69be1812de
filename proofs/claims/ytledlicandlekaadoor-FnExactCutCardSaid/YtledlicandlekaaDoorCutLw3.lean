import Derived.Test.YtledlicandlekaaDoorCutLw2
namespace Go.Proofs.YtledlicandlekaaDoor
open Go.RowKit
structure EUs (w W : World) (x y x' y' : Value) : Prop where
  bel : Below w.heap.size w W
  a : BlkN W w.heap.size x y
  b : BlkN W (w.heap.size + 1) x' y'
theorem EUs.below {w W W' : World} {x y x' y' : Value} (h : EUs w W x y x' y') (hb : Below W.heap.size W W') : EUs w W' x y x' y' :=
  ⟨below_on h.bel hb, h.a.below hb h.a.lt, h.b.below hb h.b.lt⟩
theorem eus_new (w : World) (x y x' y' : Value) : EUs w ((w.alloc (.cells #[x, y] 25)).alloc (.cells #[x', y'] 25)) x y x' y' :=
  ⟨((Below.refl _ _).alloc (Nat.le_refl _) _).alloc (by simp) _, (blk_new w #[x, y] _).below (B := w.heap.size + 1) ((Below.refl _ _).alloc (by simp) _) (by omega), heap_alloc2_new w _ _⟩
set_option maxHeartbeats 1000000 in
theorem eqUnits_same (a a' p p' : Option Addr) (es : List UnitM) (m : List Nat) (cap cap' q q' : Nat) (w : World) (hl : es.length ≤ 9223372036854775807) (hls : ∀ e ∈ es, e.1.length ≤ 9223372036854775807 ∧ e.2.1.length ≤ 9223372036854775807) (hm : m.length ≤ 9223372036854775807) (hr : UnAt w a es) (hr' : UnAt w a' es) (hs : RowAt w p m) (hs' : RowAt w p' m) :
    Calls Tryd.prog 9 #[.agg #[.slice a es.length cap, .slice p m.length q], .agg #[.slice a' es.length cap', .slice p' m.length q']] w fun e w' => e = .returned (.bool true) ∧ Below w.heap.size w w' := by
  have HU := hide (eus_new w (.slice a es.length cap) (.slice p m.length q) (.slice a' es.length cap') (.slice p' m.length q'))
  have HR := hide hr
  have HR' := hide hr'
  have HS := hide hs
  have HS' := hide hs'
  have HLS := hide hls
  clear hr hr' hs hs' hls
  go_enter Tryd.func9, Tryd.ntmps9
  go_wp2_with fail
  generalize (w.alloc (.cells #[.slice a es.length cap, .slice p m.length q] 25)).alloc (.cells #[.slice a' es.length cap', .slice p' m.length q'] 25) = w1 at HU ⊢
  refine (eqUnitS_same a a' cap cap' es w1 hl HLS.out (HR.out.below HU.out.bel) (HR'.out.below HU.out.bel)).mono ?_
  rintro e w3 ⟨rfl, hb3⟩
  have HU2 := hide (HU.out.below hb3)
  clear HU hb3
  have q0 : w3.cell? ⟨w.heap.size, 1, none⟩ = some (.slice p m.length q) := HU2.out.a.cell 1
  have q1 : w3.cell? ⟨w.heap.size + 1, 1, none⟩ = some (.slice p' m.length q') := HU2.out.b.cell 1
  go_wp2_with fail
  refine (eqByteS_any p p' q q' m m _ hm (HS.out.below HU2.out.bel) (HS'.out.below HU2.out.bel)).mono ?_
  rintro e w4 ⟨rfl, n', rfl⟩
  rw [decide_eq_true (rfl : m = m)]
  have HU3 := hide (HU2.out.below (below_drewN (Below.refl w3.heap.size w3) n'))
  clear HU2 q0 q1
  generalize w3.drewN n' = w4 at HU3 ⊢
  go_wp2
  go_ret
  exact ⟨rfl, HU3.out.bel⟩
end Go.Proofs.YtledlicandlekaaDoor
