import Derived.Test.YtledlicandlekaaDoorCopyB
import Derived.Lib.SliceRun
namespace Go.Proofs.YtledlicandlekaaDoor
open Go.RowKit
theorem clone_any (a : Option Addr) (cap : Nat) (l : List Nat) (w : World) (hl : l.length ≤ 1048576) (h0 : 0 < l.length) (hr : RowAt w a l) :
    Calls Tryd.prog 24 #[.slice a l.length cap] w fun e w' => ∃ v, e = .returned v ∧ OwnB w' w.heap.size v l ∧ Below w.heap.size w w' := by
  obtain ⟨b, off, rfl, hc⟩ := hr h0
  have hn := fun (n c : Nat) (x : Option Addr) (w : World) => Lib.run_eql_slice_nil (P := Tryd.prog) w 22 5 x n c 0 0 Tryd.underlying22
  go_enter Tryd.func24, Tryd.ntmps24
  have hE : OwnB (w.alloc (.cells #[] 5)) w.heap.size (.slice (some ⟨w.heap.size, 0, none⟩) ([] : List Nat).length ([] : List Nat).length) [] := own_of_block (l := []) (Nat.le_refl _) (by simp) (heap_alloc_new w _)
  have hA : Below w.heap.size w (w.alloc (.cells #[] 5)) := (Below.refl _ _).alloc (Nat.le_refl _) _
  go_wp2_with (at_builtin; refine wpList_append_bytes _ rfl _ _ rfl w.heap.size (.slice (some ⟨w.heap.size, 0, none⟩) 0 0) [] l rfl hE _ _ rfl (hr.below hA) h0 (by simp; omega) (by simp) ?_; intro v2 w2 ho2 hg2)
  go_ret
  exact ⟨_, rfl, ho2, hA.grown hg2 (by simp) (fun k h => by simp [Value.ownBlock] at h; omega)⟩
theorem clone_own (a : Option Addr) (cap : Nat) (l : List Nat) (w : World) (hl : l.length ≤ 1048576) (hr : RowAt w a l) :
    Calls Tryd.prog 24 #[.slice a l.length cap] w fun e w' => ∃ v, e = .returned v ∧ OwnB w' w.heap.size v l ∧ Below w.heap.size w w' := by
  by_cases h0 : 0 < l.length
  · exact clone_any a cap l w hl h0 hr
  · obtain rfl : l = [] := List.length_eq_zero_iff.1 (by omega)
    have hn := fun (n c : Nat) (x : Option Addr) (w : World) => Lib.run_eql_slice_nil (P := Tryd.prog) w 22 5 x n c 0 0 Tryd.underlying22
    cases a with
    | none =>
      go_enter Tryd.func24, Tryd.ntmps24
      go_wp2
      go_ret
      exact ⟨_, rfl, OwnB.nil _ _, Below.refl _ _⟩
    | some x =>
      go_enter Tryd.func24, Tryd.ntmps24
      have hE : OwnB (w.alloc (.cells #[] 5)) w.heap.size (.slice (some ⟨w.heap.size, 0, none⟩) ([] : List Nat).length ([] : List Nat).length) [] := own_of_block (l := []) (Nat.le_refl _) (by simp) (heap_alloc_new w _)
      have hA : Below w.heap.size w (w.alloc (.cells #[] 5)) := (Below.refl _ _).alloc (Nat.le_refl _) _
      obtain ⟨i0, hi, hz0, hz1, hz2⟩ := info_parts Tryd.info5
      go_wp2_with (at_builtin; refine wpList_append_own _ rfl _ _ 22 rfl w.heap.size 5 i0 (.int .u8 0) 1 1 Tryd.underlying22 hi hz0 hz1 hz2 rfl (by decide) (.slice (some ⟨w.heap.size, 0, none⟩) 0 0) 0 [] rfl hE x 0 cap [] rfl (by simp) (by intro j u hj; simp at hj) (by intro u hu; cases hu) (by unfold maxLen; omega) (by omega) (by simp) ?_; intro v2 w2 ho2 hg2 _)
      go_ret
      exact ⟨_, rfl, ho2, hA.grown hg2 (by simp) (fun k h => by simp [Value.ownBlock] at h; omega)⟩
end Go.Proofs.YtledlicandlekaaDoor
