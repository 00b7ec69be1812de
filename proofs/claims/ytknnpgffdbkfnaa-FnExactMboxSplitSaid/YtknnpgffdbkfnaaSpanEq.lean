import Derived.Test.YtknnpgffdbkfnaaSpanMem
import Derived.Test.YtknnpgffdbkfnaaLawSmall
import Derived.Deep.RegionWith
namespace Go.Proofs.Ytknnpgffdbkfnaa
open Go.RowKit
theorem eqSpan_same (a a' : Option Addr) (l : List Nat) (cap cap' p q : Nat) (w : World) (hl : l.length ≤ 9223372036854775807) (hr : RowAt w a l) (hr' : RowAt w a' l) :
    Calls Try.prog 53 #[.agg #[.int .i64 (p : Int), .int .i64 (q : Int), .slice a l.length cap], .agg #[.int .i64 (p : Int), .int .i64 (q : Int), .slice a' l.length cap']] w fun e w' => e = .returned (.bool true) ∧ Below w.heap.size w w' := by
  have hb0 : ∀ o1 o2 : Obj, Below w.heap.size w ((w.alloc o1).alloc o2) := fun _ _ => ((Below.refl _ _).alloc (Nat.le_refl _) _).alloc (by simp) _
  have HR := hide (fun o1 o2 => hr.below (hb0 o1 o2))
  have HR' := hide (fun o1 o2 => hr'.below (hb0 o1 o2))
  have HB := hide hb0
  have h1 : ((p : Int) != (p : Int)) = false := by simp
  have h2 : ((q : Int) != (q : Int)) = false := by simp
  clear hb0 hr hr'
  go_enter Try.func53, Try.ntmps53
  go_wp2_with fail
  refine (eqByteS_any a a' cap cap' l l _ hl (HR.out _ _) (HR'.out _ _)).mono ?_
  rintro e w2 ⟨rfl, n, e2⟩
  have hb2 := below_more (HB.out _ _) (drewn_below e2)
  clear e2
  rw [decide_eq_true (rfl : l = l)]
  have HN := hide hb2
  clear hb2 HR HR' HB
  go_wp2
  go_ret
  exact ⟨rfl, HN.out⟩
theorem eqSpanS_same (a a' : Option Addr) (cap cap' : Nat) (es : List SP) (w : World) (hl : es.length ≤ 9223372036854775807) (hls : ∀ e ∈ es, e.2.2.length ≤ 9223372036854775807) (hr : SpansAt w a es) (hr' : SpansAt w a' es) :
    Calls Try.prog 40 #[.slice a es.length cap, .slice a' es.length cap'] w fun e w' => e = .returned (.bool true) ∧ Below w.heap.size w w' := by
  go_enter Try.func40, Try.ntmps40
  go_wp2
  go_loopw [5] (fun i wr => ∃ k : Nat, k ≤ es.length ∧ i = .int .i64 k ∧ Below w.heap.size w wr) (fun i _ => es.length - (intOf i).toNat)
  case atStart => exact ⟨0, Nat.zero_le _, rfl, Below.refl _ _⟩
  case round =>
    obtain ⟨k, hk, rfl, hnx⟩ := hrel
    by_cases hlt : k < es.length
    · obtain ⟨b, off, rfl, hc⟩ := (hr.below hnx) (by omega)
      obtain ⟨b', off', rfl, hc'⟩ := (hr'.below hnx) (by omega)
      obtain ⟨ai, ci, hc0, hc1, hc2, hri⟩ := hc k hlt
      obtain ⟨ai', ci', hd0, hd1, hd2, hri'⟩ := hc' k hlt
      have hkl := hls _ (List.getElem_mem hlt)
      have HRI := hide hri
      have HRI' := hide hri'
      have HKL := hide hkl
      have HN := hide hnx
      clear hc hc' hr hr' hnx hri hri' hkl hls
      generalize es[k].1 = p0 at hc0 hd0
      generalize es[k].2.1 = q0 at hc1 hd1
      generalize es[k].2.2 = l0 at hc2 hd2 HRI HRI' HKL
      go_wp2
      go_region_with (go_at_call 53; refine (eqSpan_same ai ai' l0 ci ci' p0 q0 _ HKL.out (HRI.out.drew 1) (HRI'.out.drew 1)).mono ?_; rintro e w2 ⟨rfl, hb⟩)
      all_goals
        have hnx2 : Below w.heap.size w w2 := HN.out.drew.trans (hb.mono HN.out.size)
        have HN2 := hide hnx2
        clear hnx2 hb hc0 hc1 hd0 hd1 hc2 hd2
        go_wp2
        go_roundw
        case rel => exact ⟨k + 1, by omega, by go_num, HN2.out⟩
        case measure => simp [intOf]; omega
    · go_wp2
      go_ret
      exact ⟨rfl, hnx⟩
theorem eqSpans_same (a a' : Option Addr) (cap cap' : Nat) (ok : Bool) (es : List SP) (w : World) (hl : es.length ≤ 9223372036854775807) (hls : ∀ e ∈ es, e.2.2.length ≤ 9223372036854775807) (hr : SpansAt w a es) (hr' : SpansAt w a' es) :
    Calls Try.prog 23 #[.agg #[.bool ok, .slice a es.length cap], .agg #[.bool ok, .slice a' es.length cap']] w fun e w' => e = .returned (.bool true) ∧ Below w.heap.size w w' := by
  have hb0 : ∀ o1 o2 : Obj, Below w.heap.size w ((w.alloc o1).alloc o2) := fun _ _ => ((Below.refl _ _).alloc (Nat.le_refl _) _).alloc (by simp) _
  have HR := hide (fun o1 o2 => hr.below (hb0 o1 o2))
  have HR' := hide (fun o1 o2 => hr'.below (hb0 o1 o2))
  have HB := hide hb0
  have h1 : (ok != ok) = false := by simp
  clear hb0 hr hr'
  go_enter Try.func23, Try.ntmps23
  go_wp2_with fail
  refine (eqSpanS_same a a' cap cap' es _ hl hls (HR.out _ _) (HR'.out _ _)).mono ?_
  rintro e w2 ⟨rfl, hb2⟩
  have HN := hide (below_more (HB.out _ _) hb2)
  clear hb2 HR HR' HB
  go_wp2
  go_ret
  exact ⟨rfl, HN.out⟩
end Go.Proofs.Ytknnpgffdbkfnaa
