import Derived.Test.YtpccongphchagaaGreatDoorPkh
namespace Go.Proofs.YtpccongphchagaaGreatDoor
open Go.RowKit
theorem str_one (W : World) (z : Int) (x : Nat) (h : z = (x : Int)) : (convert 22 9 (.slice (some ⟨W.heap.size, 0, none⟩) 1 1)).run Tryz.prog (W.alloc (.cells #[.int .u8 z] 5)) = .ok (.string (strB [x])) (W.alloc (.cells #[.int .u8 z] 5)) := by
  subst h
  refine run_string_of _ _ 1 [x] fun _ => ⟨W.heap.size, 0, rfl, fun i hi => ?_⟩
  have hi0 : i = 0 := by simpa using hi
  subst hi0
  rw [cell_of_row _ _ _ _ _ _ (heap_alloc_new W _)]
  rfl
end Go.Proofs.YtpccongphchagaaGreatDoor
namespace Go.Proofs.YtpccongphchagaaGreatDoor
open Go.RowKit
end Go.Proofs.YtpccongphchagaaGreatDoor
