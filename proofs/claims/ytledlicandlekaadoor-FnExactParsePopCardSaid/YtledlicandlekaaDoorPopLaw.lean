import Derived.Test.YtledlicandlekaaDoorSpecPop
import Derived.Test.YtledlicandlekaaDoorMarkB
namespace Go.Proofs.YtledlicandlekaaDoor
open Go.RowKit
theorem below_more {w w1 w2 : World} (h : Below w.heap.size w w1) (k : Below w1.heap.size w1 w2) : Below w.heap.size w w2 := h.trans (k.mono h.size)
theorem drewn_below {w w1 : World} {n : Nat} (h : w1 = w.drewN n) : Below w.heap.size w w1 := by rw [h]; exact below_drewN (Below.refl _ _) n
theorem implPop_v (a : Option Addr) (cap : Nat) (l : List Nat) (w : World) (hl : l.length ≤ 1048576) (hr : RowAt w a l) (hE : Env w) :
    Calls Tryd.prog 15 #[.slice a l.length cap] w (PopPost (strB l).data.toList w) := by
  refine (implPop_any a cap l w hl hr hE).mono ?_
  rintro e w' ⟨K, N, rfl, hI, hb⟩
  rw [impop_is hI]
  exact ⟨rfl, hb⟩
theorem row_none (w : World) : RowAt w none [] := fun h => absurd h (by simp)
theorem eqP_nil (w : World) : Calls Tryd.prog 34 #[.slice none 0 0, .slice none 0 0] w fun e w' => e = .returned (.bool true) ∧ w' = w := by
  go_enter Tryd.func34, Tryd.ntmps34
  go_wp2
  go_loopw [5] (fun i wr => i = .int .i64 0 ∧ wr = w) (fun _ _ => 0)
  case atStart => exact ⟨rfl, rfl⟩
  case round =>
    obtain ⟨rfl, rfl⟩ := hrel
    go_wp2
    go_ret
    exact ⟨rfl, rfl⟩
theorem eqB_nil (w : World) : Calls Tryd.prog 10 #[.slice none 0 0, .slice none 0 0] w fun e w' => e = .returned (.bool true) ∧ Below w.heap.size w w' := by
  refine (eqByteS_any none none 0 0 [] [] w (by simp) (row_none w) (row_none w)).mono ?_
  rintro e w' ⟨rfl, n, hw⟩
  exact ⟨rfl, drewn_below hw⟩
theorem markP_nil (w : World) : Calls Tryd.prog 35 #[.slice none 0 0, .int .i64 1] w fun e w' => e = .returned (.int .i64 1) ∧ w' = w := by
  go_enter Tryd.func35, Tryd.ntmps35
  go_wp2
  go_loopw [1, 5] (fun s i wr => i = .int .i64 0 ∧ s = .int .i64 1 ∧ wr = w) (fun _ _ _ => 0)
  case atStart => exact ⟨rfl, rfl, rfl⟩
  case round =>
    obtain ⟨rfl, rfl, rfl⟩ := hrel
    go_wp2
    go_ret
    exact ⟨rfl, rfl⟩
theorem heldP_nil (w : World) : Calls Tryd.prog 36 #[.slice none 0 0, .int .i64 1] w fun e w' => e = .returned (.int .i64 1) ∧ w' = w := by
  go_enter Tryd.func36, Tryd.ntmps36
  go_wp2
  go_loopw [1, 5] (fun s i wr => i = .int .i64 0 ∧ s = .int .i64 1 ∧ wr = w) (fun _ _ _ => 0)
  case atStart => exact ⟨rfl, rfl, rfl⟩
  case round =>
    obtain ⟨rfl, rfl, rfl⟩ := hrel
    go_wp2
    go_ret
    exact ⟨rfl, rfl⟩
theorem markB_nil (w : World) : Calls Tryd.prog 11 #[.slice none 0 0, .int .i64 1] w fun e w' => e = .returned (.int .i64 1) ∧ w' = w := by
  go_enter Tryd.func11, Tryd.ntmps11
  go_wp2
  go_loopw [1, 5] (fun s i wr => i = .int .i64 0 ∧ s = .int .i64 1 ∧ wr = w) (fun _ _ _ => 0)
  case atStart => exact ⟨rfl, rfl, rfl⟩
  case round =>
    obtain ⟨rfl, rfl, rfl⟩ := hrel
    go_wp2
    go_ret
    exact ⟨rfl, rfl⟩
theorem heldB_nil (w : World) : Calls Tryd.prog 28 #[.slice none 0 0, .int .i64 1] w fun e w' => e = .returned (.int .i64 1) ∧ w' = w := by
  go_enter Tryd.func28, Tryd.ntmps28
  go_wp2
  go_loopw [1, 5] (fun s i wr => i = .int .i64 0 ∧ s = .int .i64 1 ∧ wr = w) (fun _ _ _ => 0)
  case atStart => exact ⟨rfl, rfl, rfl⟩
  case round =>
    obtain ⟨rfl, rfl, rfl⟩ := hrel
    go_wp2
    go_ret
    exact ⟨rfl, rfl⟩
set_option maxRecDepth 20000 in
set_option maxHeartbeats 1000000 in
theorem eqCmd_same (K N : Int) (w : World) : Calls Tryd.prog 16 #[.agg (cmP K N), .agg (cmP K N)] w fun e w' => e = .returned (.bool true) ∧ Below w.heap.size w w' := by
  have HB := hide (below2 w (cmP K N) (cmP K N) 36)
  have r1 := blk_new2 w (cmP K N) (cmP K N) 36
  have r0 : Blk ((w.alloc (.cells (cmP K N) 36)).alloc (.cells (cmP K N) 36)) w.heap.size (cmP K N) 36 := (blk_new w (cmP K N) 36).below (B := w.heap.size + 1) ((Below.refl _ _).alloc (by simp) _) (by omega)
  have hk : (K != K) = false := by simp
  have hn : (N != N) = false := by simp
  have R0 := hide r0
  have R1 := hide r1
  clear r0 r1
  unfold cmP at HB R0 R1 ⊢
  go_enter Tryd.func16, Tryd.ntmps16
  go_wp2_with fail
  generalize (w.alloc (.cells #[.int .i64 K, .string ⟨#[]⟩, .int .u32 N, .bool false, .slice none 0 0, .int .i64 0, .int .i64 0, .int .u32 0, .slice none 0 0] 36)).alloc (.cells #[.int .i64 K, .string ⟨#[]⟩, .int .u32 N, .bool false, .slice none 0 0, .int .i64 0, .int .i64 0, .int .u32 0, .slice none 0 0] 36) = W at HB R0 R1 ⊢
  refine (eqP_nil W).mono ?_
  rintro e W2 ⟨rfl, rfl⟩
  obtain ⟨a0, a1, a2, a3, a4, a5, a6, a7, a8⟩ := cmP_cells (K := K) (N := N) R0.out
  obtain ⟨b0, b1, b2, b3, b4, b5, b6, b7, b8⟩ := cmP_cells (K := K) (N := N) R1.out
  go_wp2_with fail
  refine (eqB_nil W2).mono ?_
  rintro e W3 ⟨rfl, hb3⟩
  have HB3 := hide (HB.out.trans (hb3.mono HB.out.size))
  clear hb3 a0 a1 a2 a3 a4 a5 a6 a7 a8 b0 b1 b2 b3 b4 b5 b6 b7 b8
  go_wp2
  go_ret
  exact ⟨rfl, HB3.out⟩
set_option maxRecDepth 20000 in
theorem markCmd_any (K N : Int) (w : World) : Calls Tryd.prog 17 #[.agg (cmP K N), .int .i64 1] w fun e w' => e = .returned (.int .i64 1) ∧ Below w.heap.size w w' := by
  have HB := hide ((Below.refl w.heap.size w).alloc (Nat.le_refl _) (.cells (cmP K N) 36))
  have R0 := hide (blk_new w (cmP K N) 36)
  unfold cmP at HB R0 ⊢
  go_enter Tryd.func17, Tryd.ntmps17
  go_wp2_with fail
  generalize w.alloc (.cells #[.int .i64 K, .string ⟨#[]⟩, .int .u32 N, .bool false, .slice none 0 0, .int .i64 0, .int .i64 0, .int .u32 0, .slice none 0 0] 36) = W at HB R0 ⊢
  refine (markP_nil W).mono ?_
  rintro e W2 ⟨rfl, rfl⟩
  obtain ⟨a0, a1, a2, a3, a4, a5, a6, a7, a8⟩ := cmP_cells (K := K) (N := N) R0.out
  go_wp2_with fail
  refine (markB_nil W2).mono ?_
  rintro e W3 ⟨rfl, rfl⟩
  go_wp2
  go_ret
  exact ⟨rfl, HB.out⟩
set_option maxRecDepth 20000 in
theorem heldCmd_any (K N : Int) (w : World) : Calls Tryd.prog 18 #[.agg (cmP K N), .int .i64 1] w fun e w' => e = .returned (.int .i64 1) ∧ Below w.heap.size w w' := by
  have HB := hide ((Below.refl w.heap.size w).alloc (Nat.le_refl _) (.cells (cmP K N) 36))
  have R0 := hide (blk_new w (cmP K N) 36)
  unfold cmP at HB R0 ⊢
  go_enter Tryd.func18, Tryd.ntmps18
  go_wp2_with fail
  generalize w.alloc (.cells #[.int .i64 K, .string ⟨#[]⟩, .int .u32 N, .bool false, .slice none 0 0, .int .i64 0, .int .i64 0, .int .u32 0, .slice none 0 0] 36) = W at HB R0 ⊢
  refine (heldP_nil W).mono ?_
  rintro e W2 ⟨rfl, rfl⟩
  obtain ⟨a0, a1, a2, a3, a4, a5, a6, a7, a8⟩ := cmP_cells (K := K) (N := N) R0.out
  go_wp2_with fail
  refine (heldB_nil W2).mono ?_
  rintro e W3 ⟨rfl, rfl⟩
  go_wp2
  go_ret
  exact ⟨rfl, HB.out⟩
end Go.Proofs.YtledlicandlekaaDoor
