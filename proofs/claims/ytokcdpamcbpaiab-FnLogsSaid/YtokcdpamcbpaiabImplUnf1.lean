import Derived.Test.YtokcdpamcbpaiabUnfMem
import Derived.Test.YtokcdpamcbpaiabFrameWalks
namespace Go.Proofs.Ytokcdpamcbpaiab
open Go.RowKit
theorem or_four (x0 x1 x2 x3 : Nat) (h0 : x0 < 256) (h1 : x1 < 256) (h2 : x2 < 256) (h3 : x3 < 256) :
    bits .or .u32 (bits .or .u32 (bits .or .u32 ((x0 : Int) * 16777216) ((x1 : Int) * 65536)) ((x2 : Int) * 256)) (x3 : Int) = ((x0 * 16777216 + x1 * 65536 + x2 * 256 + x3 : Nat) : Int) := by
  have e1 : ((x0 : Int) * 16777216) = ((x0 * 16777216 : Nat) : Int) := by omega
  have e2 : ((x1 : Int) * 65536) = ((x1 * 65536 : Nat) : Int) := by omega
  have e3 : ((x2 : Int) * 256) = ((x2 * 256 : Nat) : Int) := by omega
  rw [e1, e2, e3, u32_or_nat _ _ (by omega) (by omega), nat_join 24 _ _ (by omega) (by omega), u32_or_nat _ _ (by omega) (by omega), nat_join 16 _ _ (by omega) (by omega), u32_or_nat _ _ (by omega) (by omega), nat_join 8 _ _ (by omega) (by omega)]
theorem or_two (x0 x1 : Nat) (h0 : x0 < 256) (h1 : x1 < 256) : bits .or .u16 ((x0 : Int) * 256) (x1 : Int) = ((x0 * 256 + x1 : Nat) : Int) := by
  have e1 : ((x0 : Int) * 256) = ((x0 * 256 : Nat) : Int) := by omega
  rw [e1, u16_or_nat _ _ (by omega) (by omega), nat_join 8 _ _ (by omega) (by omega)]
theorem readSum_any (b off cap x0 x1 x2 x3 : Nat) (w : World) (h0 : x0 < 256) (h1 : x1 < 256) (h2 : x2 < 256) (h3 : x3 < 256) (hr : RowAt w (some ⟨b, off, none⟩) [x0, x1, x2, x3]) :
    Calls Try.prog 40 #[.slice (some ⟨b, off, none⟩) 4 cap] w fun e w' => e = .returned (.int .u32 ((x0 * 16777216 + x1 * 65536 + x2 * 256 + x3 : Nat) : Int)) ∧ ∃ n, w' = w.drewN n := by
  have c0 : w.cell? ⟨b, off, none⟩ = some (.int .u8 (x0 : Int)) := hr.at 0 (by simp)
  have c1 : w.cell? ⟨b, off + 1, none⟩ = some (.int .u8 (x1 : Int)) := hr.at 1 (by simp)
  have c2 : w.cell? ⟨b, off + 2, none⟩ = some (.int .u8 (x2 : Int)) := hr.at 2 (by simp)
  have c3 : w.cell? ⟨b, off + 3, none⟩ = some (.int .u8 (x3 : Int)) := hr.at 3 (by simp)
  go_enter Try.func40, Try.ntmps40
  go_wp2
  go_quiet (fail)
  go_wp2
  go_ret
  exact ⟨ret_int (or_four x0 x1 x2 x3 h0 h1 h2 h3), _, rfl⟩
theorem clone_any (a : Option Addr) (cap : Nat) (l : List Nat) (w : World) (hl : l.length ≤ 1048576) (h0 : 0 < l.length) (hr : RowAt w a l) :
    Calls Try.prog 41 #[.slice a l.length cap] w fun e w' => ∃ v, e = .returned v ∧ OwnB w' w.heap.size v l ∧ Below w.heap.size w w' := by
  obtain ⟨b, off, rfl, hc⟩ := hr h0
  have hn := fun (n c : Nat) (x : Option Addr) (w : World) => Lib.run_eql_slice_nil (P := Try.prog) w 22 5 x n c 0 0 Try.underlying22
  go_enter Try.func41, Try.ntmps41
  have hE : OwnB (w.alloc (.cells #[] 5)) w.heap.size (.slice (some ⟨w.heap.size, 0, none⟩) ([] : List Nat).length ([] : List Nat).length) [] := own_of_block (l := []) (Nat.le_refl _) (by simp) (heap_alloc_new w _)
  have hA : Below w.heap.size w (w.alloc (.cells #[] 5)) := (Below.refl _ _).alloc (Nat.le_refl _) _
  go_wp2_with (at_builtin; refine wpList_append_bytes _ rfl _ _ rfl w.heap.size (.slice (some ⟨w.heap.size, 0, none⟩) 0 0) [] l rfl hE _ _ rfl (hr.below hA) h0 (by simp; omega) (by simp) ?_; intro v2 w2 ho2 hg2)
  go_ret
  exact ⟨_, rfl, ho2, hA.grown hg2 (by simp) (fun k h => by simp [Value.ownBlock] at h; omega)⟩
end Go.Proofs.Ytokcdpamcbpaiab
