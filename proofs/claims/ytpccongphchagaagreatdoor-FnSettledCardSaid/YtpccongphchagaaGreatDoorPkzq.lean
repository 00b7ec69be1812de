import Derived.Test.YtpccongphchagaaGreatDoorPkl
import Derived.Test.YtpccongphchagaaGreatDoorPkt
import Derived.Test.YtpccongphchagaaGreatDoorPks
import Derived.Deep.DeepCutAuto
namespace Go.Proofs.YtpccongphchagaaGreatDoor
open Go.RowKit
set_option linter.unusedVariables false
theorem sameBytes_e (a a' : Option Addr) (cap cap' : Nat) (l : List Nat) (w : World) (hr : RowAt w a l) (hr' : RowAt w a' l) :
    Calls Tryz.prog 12 #[.slice a l.length cap, .slice a' l.length cap'] w fun e w' => e = .returned (.bool true) ∧ ∃ n, w' = w.drewN n := by
  refine (sameBytes_any a a' cap cap' l w hr hr').mono ?_
  rintro e w' ⟨rfl, rfl⟩
  exact ⟨rfl, 0, rfl⟩
theorem drewN_bel {w W : World} (h : Below w.heap.size w W) (n : Nat) : Below w.heap.size w (W.drewN n) := ⟨h.os, h.tape, h.output, h.size, h.block⟩
set_option maxRecDepth 20000 in
set_option maxHeartbeats 8000000 in
theorem sameDisk_same (v v' : Value) (D : MDisk) (w : World) (h1 : D.nodes.length ≤ 1048576) (h2 : D.names.length ≤ 1048576) (h3 : D.kept.length ≤ 1048576) (h4 : D.pend.length ≤ 1048576) (hr : DiskAt w v D) (hr' : DiskAt w v' D) :
    Calls Tryz.prog 7 #[v, v'] w fun e w' => e = .returned (.bool true) ∧ Below w.heap.size w w' := by
  obtain ⟨a1, c1, a2, c2, a3, c3, a4, c4, rfl, n1, e1, k1, o1⟩ := hr
  obtain ⟨b1, d1, b2, d2, b3, d3, b4, d4, rfl, n2, e2, k2, o2⟩ := hr'
  obtain ⟨L1, L2, hA, hz⟩ := boxes2 w #[.slice a1 D.nodes.length c1, .slice a2 D.names.length c2, .slice a3 D.kept.length c3, .slice a4 D.pend.length c4, .int .i64 D.quota] #[.slice b1 D.nodes.length d1, .slice b2 D.names.length d2, .slice b3 D.kept.length d3, .slice b4 D.pend.length d4, .int .i64 D.quota] 27 27
  have N1 := hide (n1.below hA)
  have N2 := hide (n2.below hA)
  have E1 := hide (e1.below hA)
  have E2 := hide (e2.below hA)
  have K1 := hide (k1.below hA)
  have K2 := hide (k2.below hA)
  have O1 := hide (o1.below hA)
  have O2 := hide (o2.below hA)
  have HA := hide hA
  clear n1 n2 e1 e2 k1 k2 o1 o2 hA hz
  go_enter Tryz.func7, Tryz.ntmps7
  go_upto_region 1 with fail
  generalize (w.alloc (.cells #[.slice a1 D.nodes.length c1, .slice a2 D.names.length c2, .slice a3 D.kept.length c3, .slice a4 D.pend.length c4, .int .i64 D.quota] 27)).alloc (.cells #[.slice b1 D.nodes.length d1, .slice b2 D.names.length d2, .slice b3 D.kept.length d3, .slice b4 D.pend.length d4, .int .i64 D.quota] 27) = W at N1 N2 E1 E2 K1 K2 O1 O2 HA L1 L2 ⊢
  have p0 : W.cell? ⟨w.heap.size, 0, none⟩ = some (.slice a1 D.nodes.length c1) := L1.cell 0
  have p1 : W.cell? ⟨w.heap.size, 1, none⟩ = some (.slice a2 D.names.length c2) := L1.cell 1
  have p2 : W.cell? ⟨w.heap.size, 2, none⟩ = some (.slice a3 D.kept.length c3) := L1.cell 2
  have p3 : W.cell? ⟨w.heap.size, 3, none⟩ = some (.slice a4 D.pend.length c4) := L1.cell 3
  have p4 : W.cell? ⟨w.heap.size, 4, none⟩ = some (.int .i64 D.quota) := L1.cell 4
  have q0 : W.cell? ⟨w.heap.size + 1, 0, none⟩ = some (.slice b1 D.nodes.length d1) := L2.cell 0
  have q1 : W.cell? ⟨w.heap.size + 1, 1, none⟩ = some (.slice b2 D.names.length d2) := L2.cell 1
  have q2 : W.cell? ⟨w.heap.size + 1, 2, none⟩ = some (.slice b3 D.kept.length d3) := L2.cell 2
  have q3 : W.cell? ⟨w.heap.size + 1, 3, none⟩ = some (.slice b4 D.pend.length d4) := L2.cell 3
  have q4 : W.cell? ⟨w.heap.size + 1, 4, none⟩ = some (.int .i64 D.quota) := L2.cell 4
  clear L1 L2
  go_wp2
  go_loopw [5, 33] (fun _ i wr => ∃ k : Nat, k ≤ D.nodes.length ∧ i = .int .i64 k ∧ ∃ n, wr = W.drewN n) (fun _ i _ => D.nodes.length - (intOf i).toNat)
  case atStart => exact ⟨0, Nat.zero_le _, rfl, 0, rfl⟩
  case round =>
    obtain ⟨k, hk, rfl, n, rfl⟩ := hrel
    by_cases hlt : k < D.nodes.length
    · obtain ⟨b, off, rfl, hc⟩ := N1.out (by omega)
      obtain ⟨b', off', rfl, hc'⟩ := N2.out (by omega)
      obtain ⟨ai, ci, hc0, hc1, hrw⟩ := hc k hlt
      obtain ⟨ai', ci', hd0, hd1, hrw'⟩ := hc' k hlt
      have SB := hide (fun (m : Nat) => sameBytes_any ai ai' ci ci' _ (W.drewN m) hrw hrw')
      clear hc hc' hrw hrw'
      generalize D.nodes[k].1.length = s0 at hc0 hd0 SB
      generalize D.nodes[k].2 = n0 at hc1 hd1
      go_wp2
      go_quiet ((go_at_call 12; exact quiet_same (SB.out _)))
      go_wp2
      go_roundw
      case rel => exact ⟨k + 1, by omega, by go_num, _, rfl⟩
      case measure => simp [intOf]; omega
    · clear N1 N2
      go_wp2
      go_loopw [6, 69] (fun _ i wr => ∃ k : Nat, k ≤ D.pend.length ∧ i = .int .i64 k ∧ ∃ n, wr = W.drewN n) (fun _ i _ => D.pend.length - (intOf i).toNat)
      case atStart => exact ⟨0, Nat.zero_le _, rfl, _, rfl⟩
      case round =>
        obtain ⟨j, hj, rfl, m, rfl⟩ := hrel
        by_cases hjt : j < D.pend.length
        · obtain ⟨b, off, rfl, hc⟩ := O1.out (by omega)
          obtain ⟨b', off', rfl, hc'⟩ := O2.out (by omega)
          obtain ⟨s0, s1, s2, s3⟩ := hc j hjt
          obtain ⟨t0, t1, t2, t3⟩ := hc' j hjt
          clear hc hc'
          generalize D.pend[j].1 = u0 at s0 t0
          generalize D.pend[j].2.1 = u1 at s1 t1
          generalize D.pend[j].2.2.1 = u2 at s2 t2
          generalize D.pend[j].2.2.2 = u3 at s3 t3
          go_wp2
          go_quiet (fail)
          go_wp2
          go_roundw
          case rel => exact ⟨j + 1, by omega, by go_num, _, rfl⟩
          case measure => simp [intOf]; omega
        · have SE := hide (fun (i : Nat) => sameEntries_same a2 b2 c2 d2 D.names (W.drewN i) (by omega) E1.out E2.out)
          have SK := hide (fun (i : Nat) => sameEntries_same a3 b3 c3 d3 D.kept (W.drewN i) (by omega) K1.out K2.out)
          clear O1 O2
          go_wp2_with fail
          refine (SE.out _).mono ?_
          rintro e w2 ⟨rfl, n2, rfl⟩
          go_wp2_with fail
          refine (SK.out _).mono ?_
          rintro e w3 ⟨rfl, n3, rfl⟩
          go_wp2
          go_ret
          exact ⟨rfl, drewN_bel HA.out _⟩
end Go.Proofs.YtpccongphchagaaGreatDoor
