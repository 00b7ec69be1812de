import Derived.Test.YtpccongphchagaaGreatDoorPkf
import Derived.Deep.RegionWith
namespace Go.Proofs.YtpccongphchagaaGreatDoor
open Go.RowKit
end Go.Proofs.YtpccongphchagaaGreatDoor
namespace Go.Proofs.YtpccongphchagaaGreatDoor
open Go.RowKit
end Go.Proofs.YtpccongphchagaaGreatDoor
namespace Go.Proofs.YtpccongphchagaaGreatDoor
open Go.RowKit
end Go.Proofs.YtpccongphchagaaGreatDoor
namespace Go.Proofs.YtpccongphchagaaGreatDoor
open Go.RowKit
end Go.Proofs.YtpccongphchagaaGreatDoor
namespace Go.Proofs.YtpccongphchagaaGreatDoor
open Go.RowKit
/-- The two blocks of a call with two disks. -/
def TE (w wj : World) (B : Nat) (A A' : Array Value) : Prop := Laid wj B A 27 ∧ Laid wj (B + 1) A' 27 ∧ Below B w wj
theorem TE.start (w : World) (A A' : Array Value) : TE w ((w.alloc (.cells A 27)).alloc (.cells A' 27)) w.heap.size A A' := by
  refine ⟨Laid.below (B := w.heap.size + 1) (Laid.new w _ _) ((Below.refl _ _).alloc (by simp) _) (by omega), ?_, ((Below.refl w.heap.size w).alloc (Nat.le_refl _) _).alloc (by simp) _⟩
  have h := Laid.new (w.alloc (.cells A 27)) A' 27
  rw [show (w.alloc (.cells A 27)).heap.size = w.heap.size + 1 from by simp] at h
  exact h
theorem TE.below {w wj w' : World} {B : Nat} {A A' : Array Value} (h : TE w wj B A A') (hb : Below wj.heap.size wj w') : TE w w' B A A' := by
  obtain ⟨h0, h1, hn⟩ := h
  exact ⟨h0.below hb h0.lt, h1.below hb h1.lt, hn.trans (hb.mono (Nat.le_of_lt h0.lt))⟩
end Go.Proofs.YtpccongphchagaaGreatDoor
