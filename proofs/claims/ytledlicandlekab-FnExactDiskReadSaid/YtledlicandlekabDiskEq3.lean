import Derived.Test.YtledlicandlekabDiskEq2
namespace Go.Proofs.Ytledlicandlekab
open Go.RowKit
theorem eqNode_same (a a' : Option Addr) (l : List Nat) (cap cap' : Nat) (sf : Int) (w : World) (hl : l.length ≤ 9223372036854775807) (hr : RowAt w a l) (hr' : RowAt w a' l) :
    Calls Try.prog 66 #[.agg #[.slice a l.length cap, .int .i64 sf], .agg #[.slice a' l.length cap', .int .i64 sf]] w fun e w' => e = .returned (.bool true) ∧ Below w.heap.size w w' := by
  have hb0 : ∀ o1 o2 : Obj, Below w.heap.size w ((w.alloc o1).alloc o2) := fun _ _ => ((Below.refl _ _).alloc (Nat.le_refl _) _).alloc (by simp) _
  have HR := hide (fun o1 o2 => hr.below (hb0 o1 o2))
  have HR' := hide (fun o1 o2 => hr'.below (hb0 o1 o2))
  have HB := hide hb0
  clear hb0 hr hr'
  go_enter Try.func66, Try.ntmps66
  go_wp2_with fail
  refine (eqByteS_any a a' cap cap' l l _ hl (HR.out _ _) (HR'.out _ _)).mono ?_
  rintro e w2 ⟨rfl, n, rfl⟩
  rw [decide_eq_true (rfl : l = l)]
  have l0 : Laid ((w.alloc (.cells #[.slice a l.length cap, .int .i64 sf] 56)).alloc (.cells #[.slice a' l.length cap', .int .i64 sf] 56)) w.heap.size #[.slice a l.length cap, .int .i64 sf] 56 := Laid.below (B := w.heap.size + 1) (Laid.new w _ _) ((Below.refl _ _).alloc (by simp) _) (by omega)
  have l1 := Laid.new (w.alloc (.cells #[.slice a l.length cap, .int .i64 sf] 56)) #[.slice a' l.length cap', .int .i64 sf] 56
  rw [show (w.alloc (.cells #[.slice a l.length cap, .int .i64 sf] 56)).heap.size = w.heap.size + 1 from by simp] at l1
  have hbb := below_drewN (HB.out (.cells #[.slice a l.length cap, .int .i64 sf] 56) (.cells #[.slice a' l.length cap', .int .i64 sf] 56)) n
  have l0' : Laid (((w.alloc (.cells #[.slice a l.length cap, .int .i64 sf] 56)).alloc (.cells #[.slice a' l.length cap', .int .i64 sf] 56)).drewN n) w.heap.size #[.slice a l.length cap, .int .i64 sf] 56 := by
    have h := below_drewN (Below.refl (w.heap.size + 1) ((w.alloc (.cells #[.slice a l.length cap, .int .i64 sf] 56)).alloc (.cells #[.slice a' l.length cap', .int .i64 sf] 56))) n
    exact l0.below h (by omega)
  have l1' : Laid (((w.alloc (.cells #[.slice a l.length cap, .int .i64 sf] 56)).alloc (.cells #[.slice a' l.length cap', .int .i64 sf] 56)).drewN n) (w.heap.size + 1) #[.slice a' l.length cap', .int .i64 sf] 56 := by
    have h := below_drewN (Below.refl (w.heap.size + 2) ((w.alloc (.cells #[.slice a l.length cap, .int .i64 sf] 56)).alloc (.cells #[.slice a' l.length cap', .int .i64 sf] 56))) n
    exact l1.below h (by omega)
  generalize (((w.alloc (.cells #[.slice a l.length cap, .int .i64 sf] 56)).alloc (.cells #[.slice a' l.length cap', .int .i64 sf] 56)).drewN n) = w3 at hbb l0' l1' ⊢
  have q0 : w3.cell? ⟨w.heap.size, 1, none⟩ = some (.int .i64 sf) := by rw [l0'.cell]; rfl
  have q1 : w3.cell? ⟨w.heap.size + 1, 1, none⟩ = some (.int .i64 sf) := by rw [l1'.cell]; rfl
  have HN := hide hbb
  clear l0 l1 l0' l1' hbb HR HR' HB
  go_wp2
  go_ret
  exact ⟨rfl, HN.out⟩
theorem eqNodeS_same (a a' : Option Addr) (cap cap' : Nat) (es : List (List Nat × Int)) (w : World) (hl : es.length ≤ 9223372036854775807) (hls : ∀ e ∈ es, e.1.length ≤ 9223372036854775807) (hr : NodeAt w a es) (hr' : NodeAt w a' es) :
    Calls Try.prog 33 #[.slice a es.length cap, .slice a' es.length cap'] w fun e w' => e = .returned (.bool true) ∧ Below w.heap.size w w' := by
  go_enter Try.func33, Try.ntmps33
  go_wp2
  go_loopw [5] (fun i wr => ∃ k : Nat, k ≤ es.length ∧ i = .int .i64 k ∧ Below w.heap.size w wr) (fun i _ => es.length - (intOf i).toNat)
  case atStart => exact ⟨0, Nat.zero_le _, rfl, Below.refl _ _⟩
  case round =>
    obtain ⟨k, hk, rfl, hnx⟩ := hrel
    by_cases hlt : k < es.length
    · obtain ⟨b, off, rfl, hc⟩ := (hr.below hnx) (by omega)
      obtain ⟨b', off', rfl, hc'⟩ := (hr'.below hnx) (by omega)
      obtain ⟨ai, ci, hc0, hc1, hri⟩ := hc k hlt
      obtain ⟨ai', ci', hd0, hd1, hri'⟩ := hc' k hlt
      have hkl := hls _ (List.getElem_mem hlt)
      have HRI := hide hri
      have HRI' := hide hri'
      have HKL := hide hkl
      have HN := hide hnx
      clear hc hc' hr hr' hnx hri hri' hkl hls
      generalize es[k].1 = l0 at hc0 hd0 HRI HRI' HKL
      generalize es[k].2 = n0 at hc1 hd1
      go_wp2
      go_region_with (go_at_call 66; refine (eqNode_same ai ai' l0 ci ci' n0 _ HKL.out (HRI.out.drew 1) (HRI'.out.drew 1)).mono ?_; rintro e w2 ⟨rfl, hb⟩)
      all_goals
        have hnx2 : Below w.heap.size w w2 := HN.out.drew.trans (hb.mono HN.out.size)
        have HN2 := hide hnx2
        clear hnx2 hb hc0 hc1 hd0 hd1
        go_wp2
        go_roundw
        case rel => exact ⟨k + 1, by omega, by go_num, HN2.out⟩
        case measure => simp [intOf]; omega
    · go_wp2
      go_ret
      exact ⟨rfl, hnx⟩
end Go.Proofs.Ytledlicandlekab
