import Derived.Test.YtokcdpamcbpaiabDoorNameTab
namespace Go.Proofs.YtokcdpamcbpaiabDoor
open Go.RowKit
theorem nameL_size (k : Nat) : (strB (nameL k)).size ≤ 9 := by
  unfold strB
  match k with
  | 0 | 1 | 2 | 3 | 4 => decide
  | k + 5 => simp [nameL, ByteArray.size]
set_option maxRecDepth 20000 in
set_option maxHeartbeats 1000000 in
theorem specName_any (k : Nat) (w : World) (hk : k < 31) :
    Calls Tryd.prog 17 #[.int .i64 (k : Int)] w fun e w' => e = .returned (.string (strB (nameL k))) ∧ Below w.heap.size w w' := by
  match k, hk with
  | 0, _ | 1, _ | 2, _ | 3, _ | 4, _ =>
    go_enter Tryd.func17, Tryd.ntmps17
    go_wp2
    go_ret
    exact ⟨rfl, Below.refl _ _⟩
  | k + 5, hk =>
    have hs : (convert 46 9 (.slice (some ⟨w.heap.size, 0, none⟩) 1 1)).run Tryd.prog (w.alloc (.cells #[.int .u8 (97 + ((k : Int) + 5) - 5)] 5)) = .ok (.string (strB (nameL (k + 5)))) (w.alloc (.cells #[.int .u8 (97 + ((k : Int) + 5) - 5)] 5)) := by
      have e : nameL (k + 5) = [92 + (k + 5)] := rfl
      rw [e]
      refine run_string_of _ _ 1 [92 + (k + 5)] fun _ => ⟨w.heap.size, 0, rfl, fun i hi => ?_⟩
      have hi0 : i = 0 := by simpa using hi
      subst hi0
      rw [cell_of_row _ _ _ _ _ _ (heap_alloc_new w _)]
      simp
      omega
    go_enter Tryd.func17, Tryd.ntmps17
    go_wp2
    go_ret
    exact ⟨rfl, (Below.refl _ _).alloc (Nat.le_refl _) _⟩
end Go.Proofs.YtokcdpamcbpaiabDoor
