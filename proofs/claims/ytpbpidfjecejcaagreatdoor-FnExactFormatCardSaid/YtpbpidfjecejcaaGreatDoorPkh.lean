import Derived.Test.YtpbpidfjecejcaaGreatDoorPkd
import Derived.Deep.RegionWith
namespace Go.Proofs.YtpbpidfjecejcaaGreatDoor
open Go.RowKit
theorem toDisk_any (v : Value) (D : MDisk) (w : World) (hl1 : D.nodes.length ≤ 1048576) (hl2 : D.names.length ≤ 1048576) (hl3 : D.kept.length ≤ 1048576) (hl4 : D.pend.length ≤ 1048576) (hls : ∀ e ∈ D.nodes, e.1.length ≤ 1048576) (hr : DiskAt w v D) :
    Calls Tryz.prog 13 #[v] w fun e w' => ∃ x, e = .returned x ∧ OwnD w' w.heap.size x D ∧ Below w.heap.size w w' := by
  obtain ⟨a1, c1, a2, c2, a3, c3, a4, c4, rfl, r1, r2, r3, r4⟩ := hr
  have HR1 := hide r1
  have HR2 := hide r2
  have HR3 := hide r3
  have HR4 := hide r4
  have HLS := hide hls
  clear r1 r2 r3 r4 hls
  go_enter Tryz.func13, Tryz.ntmps13
  go_wp2_with fail
  have HT := hide (TD.start w #[.slice a1 D.nodes.length c1, .slice a2 D.names.length c2, .slice a3 D.kept.length c3, .slice a4 D.pend.length c4, .int .i64 D.quota] #[.slice none 0 0, .slice none 0 0, .slice none 0 0, .slice none 0 0, .int .i64 0] #[.slice none 0 0, .slice none 0 0, .slice none 0 0, .slice none 0 0, .int .i64 0])
  generalize (((w.alloc (.cells #[.slice a1 D.nodes.length c1, .slice a2 D.names.length c2, .slice a3 D.kept.length c3, .slice a4 D.pend.length c4, .int .i64 D.quota] 36)).alloc (.cells #[.slice none 0 0, .slice none 0 0, .slice none 0 0, .slice none 0 0, .int .i64 0] 27)).alloc (.cells #[.slice none 0 0, .slice none 0 0, .slice none 0 0, .slice none 0 0, .int .i64 0] 27)) = w1 at HT ⊢
  have HS := hide (HT.out.2.2.2.2)
  refine (toNodeS_any a1 c1 D.nodes w1 hl1 HLS.out (HR1.out.below HT.out.2.2.2.1)).mono ?_
  rintro e y1 ⟨rfl, ho, hb⟩
  replace HT := hide (HT.out.below hb)
  have ho1 := hide (ho.mono (base' := w.heap.size + 3) (HS.out))
  generalize w1.heap.size = g1 at ho1 ⊢
  clear ho hb HS
  have HS := hide (HT.out.2.2.2.2)
  have q1 : y1.cell? ⟨w.heap.size + 1 + 1, 0, none⟩ = some (.slice none 0 0) := by rw [HT.out.2.2.1.cell]; rfl
  have q2 := frozen_of_row y1 (w.heap.size + 1 + 1) 0 _ _ HT.out.2.2.1
  have q3 : y1.cell? ⟨w.heap.size, 1, none⟩ = some (.slice a2 D.names.length c2) := by rw [HT.out.1.cell]; rfl
  go_wp2_with fail
  clear q1 q2 q3
  replace HT := hide (HT.out.setOut 0 (.slice (some ⟨g1, 0, none⟩) D.nodes.length D.nodes.length))
  replace ho1 := hide (ho1.out.set_low (p := ⟨w.heap.size + 1 + 1, 0, none⟩) (by simp) (.slice (some ⟨g1, 0, none⟩) D.nodes.length D.nodes.length))
  generalize y1.setCell ⟨w.heap.size + 1 + 1, 0, none⟩ (.slice (some ⟨g1, 0, none⟩) D.nodes.length D.nodes.length) = w2 at HT ho1 ⊢
  clear HS
  have HS := hide (HT.out.2.2.2.2)
  refine (toEntryS_any a2 c2 D.names w2 hl2 (HR2.out.below HT.out.2.2.2.1)).mono ?_
  rintro e y2 ⟨rfl, ho, hb⟩
  replace HT := hide (HT.out.below hb)
  have ho2 := hide (ho.mono (base' := w.heap.size + 3) (HS.out))
  replace ho1 := hide (ho1.out.below hb)
  generalize w2.heap.size = g2 at ho2 ⊢
  clear ho hb HS
  have HS := hide (HT.out.2.2.2.2)
  have q1 : y2.cell? ⟨w.heap.size + 1 + 1, 1, none⟩ = some (.slice none 0 0) := by rw [HT.out.2.2.1.cell]; rfl
  have q2 := frozen_of_row y2 (w.heap.size + 1 + 1) 1 _ _ HT.out.2.2.1
  have q3 : y2.cell? ⟨w.heap.size, 2, none⟩ = some (.slice a3 D.kept.length c3) := by rw [HT.out.1.cell]; rfl
  go_wp2_with fail
  clear q1 q2 q3
  replace HT := hide (HT.out.setOut 1 (.slice (some ⟨g2, 0, none⟩) D.names.length D.names.length))
  replace ho1 := hide (ho1.out.set_low (p := ⟨w.heap.size + 1 + 1, 1, none⟩) (by simp) (.slice (some ⟨g2, 0, none⟩) D.names.length D.names.length))
  replace ho2 := hide (ho2.out.set_low (p := ⟨w.heap.size + 1 + 1, 1, none⟩) (by simp) (.slice (some ⟨g2, 0, none⟩) D.names.length D.names.length))
  generalize y2.setCell ⟨w.heap.size + 1 + 1, 1, none⟩ (.slice (some ⟨g2, 0, none⟩) D.names.length D.names.length) = w3 at HT ho1 ho2 ⊢
  clear HS
  have HS := hide (HT.out.2.2.2.2)
  refine (toEntryS_any a3 c3 D.kept w3 hl3 (HR3.out.below HT.out.2.2.2.1)).mono ?_
  rintro e y3 ⟨rfl, ho, hb⟩
  replace HT := hide (HT.out.below hb)
  have ho3 := hide (ho.mono (base' := w.heap.size + 3) (HS.out))
  replace ho1 := hide (ho1.out.below hb)
  replace ho2 := hide (ho2.out.below hb)
  generalize w3.heap.size = g3 at ho3 ⊢
  clear ho hb HS
  have HS := hide (HT.out.2.2.2.2)
  have q1 : y3.cell? ⟨w.heap.size + 1 + 1, 2, none⟩ = some (.slice none 0 0) := by rw [HT.out.2.2.1.cell]; rfl
  have q2 := frozen_of_row y3 (w.heap.size + 1 + 1) 2 _ _ HT.out.2.2.1
  have q3 : y3.cell? ⟨w.heap.size, 3, none⟩ = some (.slice a4 D.pend.length c4) := by rw [HT.out.1.cell]; rfl
  go_wp2_with fail
  clear q1 q2 q3
  replace HT := hide (HT.out.setOut 2 (.slice (some ⟨g3, 0, none⟩) D.kept.length D.kept.length))
  replace ho1 := hide (ho1.out.set_low (p := ⟨w.heap.size + 1 + 1, 2, none⟩) (by simp) (.slice (some ⟨g3, 0, none⟩) D.kept.length D.kept.length))
  replace ho2 := hide (ho2.out.set_low (p := ⟨w.heap.size + 1 + 1, 2, none⟩) (by simp) (.slice (some ⟨g3, 0, none⟩) D.kept.length D.kept.length))
  replace ho3 := hide (ho3.out.set_low (p := ⟨w.heap.size + 1 + 1, 2, none⟩) (by simp) (.slice (some ⟨g3, 0, none⟩) D.kept.length D.kept.length))
  generalize y3.setCell ⟨w.heap.size + 1 + 1, 2, none⟩ (.slice (some ⟨g3, 0, none⟩) D.kept.length D.kept.length) = w4 at HT ho1 ho2 ho3 ⊢
  clear HS
  have HS := hide (HT.out.2.2.2.2)
  refine (toDirOpS_any a4 c4 D.pend w4 hl4 (HR4.out.below HT.out.2.2.2.1)).mono ?_
  rintro e y4 ⟨rfl, ho, hb⟩
  replace HT := hide (HT.out.below hb)
  have ho4 := hide (ho.mono (base' := w.heap.size + 3) (HS.out))
  replace ho1 := hide (ho1.out.below hb)
  replace ho2 := hide (ho2.out.below hb)
  replace ho3 := hide (ho3.out.below hb)
  generalize w4.heap.size = g4 at ho4 ⊢
  clear ho hb HS
  have HS := hide (HT.out.2.2.2.2)
  have q1 : y4.cell? ⟨w.heap.size + 1 + 1, 3, none⟩ = some (.slice none 0 0) := by rw [HT.out.2.2.1.cell]; rfl
  have q2 := frozen_of_row y4 (w.heap.size + 1 + 1) 3 _ _ HT.out.2.2.1
  have q3 : y4.cell? ⟨w.heap.size, 4, none⟩ = some (.int .i64 D.quota) := by rw [HT.out.1.cell]; rfl
  have q4 : y4.cell? ⟨w.heap.size + 1 + 1, 4, none⟩ = some (.int .i64 0) := by rw [HT.out.2.2.1.cell]; rfl
  have q5 := frozen_of_row y4 (w.heap.size + 1 + 1) 4 _ _ HT.out.2.2.1
  have k0 : y4.cell? ⟨w.heap.size + 1 + 1, 0, none⟩ = some (.slice (some ⟨g1, 0, none⟩) D.nodes.length D.nodes.length) := by rw [HT.out.2.2.1.cell]; rfl
  have k1 : y4.cell? ⟨w.heap.size + 1 + 1, 1, none⟩ = some (.slice (some ⟨g2, 0, none⟩) D.names.length D.names.length) := by rw [HT.out.2.2.1.cell]; rfl
  have k2 : y4.cell? ⟨w.heap.size + 1 + 1, 2, none⟩ = some (.slice (some ⟨g3, 0, none⟩) D.kept.length D.kept.length) := by rw [HT.out.2.2.1.cell]; rfl
  have m0 : y4.cell? ⟨w.heap.size + 1, 0, none⟩ = some (.slice none 0 0) := by rw [HT.out.2.1.cell]; rfl
  have n0 := frozen_of_row y4 (w.heap.size + 1) 0 _ _ HT.out.2.1
  have m1 : y4.cell? ⟨w.heap.size + 1, 1, none⟩ = some (.slice none 0 0) := by rw [HT.out.2.1.cell]; rfl
  have n1 := frozen_of_row y4 (w.heap.size + 1) 1 _ _ HT.out.2.1
  have m2 : y4.cell? ⟨w.heap.size + 1, 2, none⟩ = some (.slice none 0 0) := by rw [HT.out.2.1.cell]; rfl
  have n2 := frozen_of_row y4 (w.heap.size + 1) 2 _ _ HT.out.2.1
  have m3 : y4.cell? ⟨w.heap.size + 1, 3, none⟩ = some (.slice none 0 0) := by rw [HT.out.2.1.cell]; rfl
  have n3 := frozen_of_row y4 (w.heap.size + 1) 3 _ _ HT.out.2.1
  have m4 : y4.cell? ⟨w.heap.size + 1, 4, none⟩ = some (.int .i64 0) := by rw [HT.out.2.1.cell]; rfl
  have n4 := frozen_of_row y4 (w.heap.size + 1) 4 _ _ HT.out.2.1
  go_wp2
  have hT := (((((((HT.out.setOut 3 (.slice (some ⟨g4, 0, none⟩) D.pend.length D.pend.length)).setOut 4 (.int .i64 D.quota)).setRes 0 (.slice (some ⟨g1, 0, none⟩) D.nodes.length D.nodes.length)).setRes 1 (.slice (some ⟨g2, 0, none⟩) D.names.length D.names.length)).setRes 2 (.slice (some ⟨g3, 0, none⟩) D.kept.length D.kept.length)).setRes 3 (.slice (some ⟨g4, 0, none⟩) D.pend.length D.pend.length)).setRes 4 (.int .i64 D.quota))
  have p1 := (((((((ho1.out.set_low (p := ⟨w.heap.size + 1 + 1, 3, none⟩) (by simp) (.slice (some ⟨g4, 0, none⟩) D.pend.length D.pend.length)).set_low (p := ⟨w.heap.size + 1 + 1, 4, none⟩) (by simp) (.int .i64 D.quota)).set_low (p := ⟨w.heap.size + 1, 0, none⟩) (by simp) (.slice (some ⟨g1, 0, none⟩) D.nodes.length D.nodes.length)).set_low (p := ⟨w.heap.size + 1, 1, none⟩) (by simp) (.slice (some ⟨g2, 0, none⟩) D.names.length D.names.length)).set_low (p := ⟨w.heap.size + 1, 2, none⟩) (by simp) (.slice (some ⟨g3, 0, none⟩) D.kept.length D.kept.length)).set_low (p := ⟨w.heap.size + 1, 3, none⟩) (by simp) (.slice (some ⟨g4, 0, none⟩) D.pend.length D.pend.length)).set_low (p := ⟨w.heap.size + 1, 4, none⟩) (by simp) (.int .i64 D.quota))
  have p2 := (((((((ho2.out.set_low (p := ⟨w.heap.size + 1 + 1, 3, none⟩) (by simp) (.slice (some ⟨g4, 0, none⟩) D.pend.length D.pend.length)).set_low (p := ⟨w.heap.size + 1 + 1, 4, none⟩) (by simp) (.int .i64 D.quota)).set_low (p := ⟨w.heap.size + 1, 0, none⟩) (by simp) (.slice (some ⟨g1, 0, none⟩) D.nodes.length D.nodes.length)).set_low (p := ⟨w.heap.size + 1, 1, none⟩) (by simp) (.slice (some ⟨g2, 0, none⟩) D.names.length D.names.length)).set_low (p := ⟨w.heap.size + 1, 2, none⟩) (by simp) (.slice (some ⟨g3, 0, none⟩) D.kept.length D.kept.length)).set_low (p := ⟨w.heap.size + 1, 3, none⟩) (by simp) (.slice (some ⟨g4, 0, none⟩) D.pend.length D.pend.length)).set_low (p := ⟨w.heap.size + 1, 4, none⟩) (by simp) (.int .i64 D.quota))
  have p3 := (((((((ho3.out.set_low (p := ⟨w.heap.size + 1 + 1, 3, none⟩) (by simp) (.slice (some ⟨g4, 0, none⟩) D.pend.length D.pend.length)).set_low (p := ⟨w.heap.size + 1 + 1, 4, none⟩) (by simp) (.int .i64 D.quota)).set_low (p := ⟨w.heap.size + 1, 0, none⟩) (by simp) (.slice (some ⟨g1, 0, none⟩) D.nodes.length D.nodes.length)).set_low (p := ⟨w.heap.size + 1, 1, none⟩) (by simp) (.slice (some ⟨g2, 0, none⟩) D.names.length D.names.length)).set_low (p := ⟨w.heap.size + 1, 2, none⟩) (by simp) (.slice (some ⟨g3, 0, none⟩) D.kept.length D.kept.length)).set_low (p := ⟨w.heap.size + 1, 3, none⟩) (by simp) (.slice (some ⟨g4, 0, none⟩) D.pend.length D.pend.length)).set_low (p := ⟨w.heap.size + 1, 4, none⟩) (by simp) (.int .i64 D.quota))
  have p4 := (((((((ho4.out.set_low (p := ⟨w.heap.size + 1 + 1, 3, none⟩) (by simp) (.slice (some ⟨g4, 0, none⟩) D.pend.length D.pend.length)).set_low (p := ⟨w.heap.size + 1 + 1, 4, none⟩) (by simp) (.int .i64 D.quota)).set_low (p := ⟨w.heap.size + 1, 0, none⟩) (by simp) (.slice (some ⟨g1, 0, none⟩) D.nodes.length D.nodes.length)).set_low (p := ⟨w.heap.size + 1, 1, none⟩) (by simp) (.slice (some ⟨g2, 0, none⟩) D.names.length D.names.length)).set_low (p := ⟨w.heap.size + 1, 2, none⟩) (by simp) (.slice (some ⟨g3, 0, none⟩) D.kept.length D.kept.length)).set_low (p := ⟨w.heap.size + 1, 3, none⟩) (by simp) (.slice (some ⟨g4, 0, none⟩) D.pend.length D.pend.length)).set_low (p := ⟨w.heap.size + 1, 4, none⟩) (by simp) (.int .i64 D.quota))
  have r0 := hT.2.1.cell 0
  have r1 := hT.2.1.cell 1
  have r2 := hT.2.1.cell 2
  have r3 := hT.2.1.cell 3
  have r4 := hT.2.1.cell 4
  simp at r0 r1 r2 r3 r4
  refine bodyPost_ret (v := .agg #[.slice (some ⟨g1, 0, none⟩) D.nodes.length D.nodes.length, .slice (some ⟨g2, 0, none⟩) D.names.length D.names.length, .slice (some ⟨g3, 0, none⟩) D.kept.length D.kept.length, .slice (some ⟨g4, 0, none⟩) D.pend.length D.pend.length, .int .i64 D.quota]) (by simp [results, Tryz.results13, go_sem, r0, r1, r2, r3, r4]) rfl ⟨_, rfl, ⟨_, _, _, _, rfl, p1.mono (by omega), p2.mono (by omega), p3.mono (by omega), p4.mono (by omega)⟩, hT.2.2.2.1⟩
end Go.Proofs.YtpbpidfjecejcaaGreatDoor
namespace Go.Proofs.YtpbpidfjecejcaaGreatDoor
open Go.RowKit
theorem eqEntry_same (s : ByteArray) (n : Int) (w : World) :
    Calls Tryz.prog 64 #[.agg #[.string s, .int .i64 n], .agg #[.string s, .int .i64 n]] w fun e w' => e = .returned (.bool true) ∧ Below w.heap.size w w' := by
  go_enter Tryz.func64, Tryz.ntmps64
  go_wp2
  go_ret
  exact ⟨rfl, ((Below.refl _ _).alloc (Nat.le_refl _) _).alloc (by simp) _⟩
theorem eqEntryS_same (a a' : Option Addr) (cap cap' : Nat) (es : List (ByteArray × Int)) (w : World) (hl : es.length ≤ 9223372036854775807) (hr : EntAt w a es) (hr' : EntAt w a' es) :
    Calls Tryz.prog 29 #[.slice a es.length cap, .slice a' es.length cap'] w fun e w' => e = .returned (.bool true) ∧ Below w.heap.size w w' := by
  go_enter Tryz.func29, Tryz.ntmps29
  go_wp2
  go_loopw [5] (fun i wr => ∃ k : Nat, k ≤ es.length ∧ i = .int .i64 k ∧ Below w.heap.size w wr) (fun i _ => es.length - (intOf i).toNat)
  case atStart => exact ⟨0, Nat.zero_le _, rfl, Below.refl _ _⟩
  case round =>
    obtain ⟨k, hk, rfl, hnx⟩ := hrel
    by_cases hlt : k < es.length
    · obtain ⟨b, off, rfl, hc⟩ := (hr.below hnx) (by omega)
      obtain ⟨b', off', rfl, hc'⟩ := (hr'.below hnx) (by omega)
      obtain ⟨hc0, hc1⟩ := hc k hlt
      obtain ⟨hd0, hd1⟩ := hc' k hlt
      have HN := hide hnx
      clear hc hc' hr hr' hnx
      generalize es[k].1 = s0 at hc0 hd0
      generalize es[k].2 = n0 at hc1 hd1
      go_wp2
      go_region_with (go_at_call 64; refine (eqEntry_same s0 n0 _).mono ?_; rintro e w2 ⟨rfl, hb⟩)
      all_goals
        have hnx2 : Below w.heap.size w w2 := HN.out.drew.trans (hb.mono HN.out.size)
        have HN2 := hide hnx2
        clear hnx2 hb hc0 hc1 hd0 hd1
        go_wp2
        go_roundw
        case rel => exact ⟨k + 1, by omega, by go_num, HN2.out⟩
        case measure => simp [intOf]; omega
    · go_wp2
      go_ret
      exact ⟨rfl, hnx⟩
end Go.Proofs.YtpbpidfjecejcaaGreatDoor
namespace Go.Proofs.YtpbpidfjecejcaaGreatDoor
open Go.RowKit
theorem eqDirOp_same (k : Int) (s t : ByteArray) (n : Int) (w : World) :
    Calls Tryz.prog 65 #[.agg #[.int .i64 k, .string s, .string t, .int .i64 n], .agg #[.int .i64 k, .string s, .string t, .int .i64 n]] w fun e w' => e = .returned (.bool true) ∧ Below w.heap.size w w' := by
  go_enter Tryz.func65, Tryz.ntmps65
  go_wp2
  go_ret
  exact ⟨rfl, ((Below.refl _ _).alloc (Nat.le_refl _) _).alloc (by simp) _⟩
theorem eqDirOpS_same (a a' : Option Addr) (cap cap' : Nat) (es : List (Int × ByteArray × ByteArray × Int)) (w : World) (hl : es.length ≤ 9223372036854775807) (hr : OpAt w a es) (hr' : OpAt w a' es) :
    Calls Tryz.prog 30 #[.slice a es.length cap, .slice a' es.length cap'] w fun e w' => e = .returned (.bool true) ∧ Below w.heap.size w w' := by
  go_enter Tryz.func30, Tryz.ntmps30
  go_wp2
  go_loopw [5] (fun i wr => ∃ k : Nat, k ≤ es.length ∧ i = .int .i64 k ∧ Below w.heap.size w wr) (fun i _ => es.length - (intOf i).toNat)
  case atStart => exact ⟨0, Nat.zero_le _, rfl, Below.refl _ _⟩
  case round =>
    obtain ⟨k, hk, rfl, hnx⟩ := hrel
    by_cases hlt : k < es.length
    · obtain ⟨b, off, rfl, hc⟩ := (hr.below hnx) (by omega)
      obtain ⟨b', off', rfl, hc'⟩ := (hr'.below hnx) (by omega)
      obtain ⟨hc0, hc1, hc2, hc3⟩ := hc k hlt
      obtain ⟨hd0, hd1, hd2, hd3⟩ := hc' k hlt
      have HN := hide hnx
      clear hc hc' hr hr' hnx
      generalize es[k].1 = k0 at hc0 hd0
      generalize es[k].2.1 = s0 at hc1 hd1
      generalize es[k].2.2.1 = t0 at hc2 hd2
      generalize es[k].2.2.2 = n0 at hc3 hd3
      go_wp2
      go_region_with (go_at_call 65; refine (eqDirOp_same k0 s0 t0 n0 _).mono ?_; rintro e w2 ⟨rfl, hb⟩)
      all_goals
        have hnx2 : Below w.heap.size w w2 := HN.out.drew.trans (hb.mono HN.out.size)
        have HN2 := hide hnx2
        clear hnx2 hb hc0 hc1 hc2 hc3 hd0 hd1 hd2 hd3
        go_wp2
        go_roundw
        case rel => exact ⟨k + 1, by omega, by go_num, HN2.out⟩
        case measure => simp [intOf]; omega
    · go_wp2
      go_ret
      exact ⟨rfl, hnx⟩
end Go.Proofs.YtpbpidfjecejcaaGreatDoor
namespace Go.Proofs.YtpbpidfjecejcaaGreatDoor
open Go.RowKit
theorem eqNode_same (a a' : Option Addr) (l : List Nat) (cap cap' : Nat) (sf : Int) (w : World) (hl : l.length ≤ 9223372036854775807) (hr : RowAt w a l) (hr' : RowAt w a' l) :
    Calls Tryz.prog 63 #[.agg #[.slice a l.length cap, .int .i64 sf], .agg #[.slice a' l.length cap', .int .i64 sf]] w fun e w' => e = .returned (.bool true) ∧ Below w.heap.size w w' := by
  have hb0 : ∀ o1 o2 : Obj, Below w.heap.size w ((w.alloc o1).alloc o2) := fun _ _ => ((Below.refl _ _).alloc (Nat.le_refl _) _).alloc (by simp) _
  have HR := hide (fun o1 o2 => hr.below (hb0 o1 o2))
  have HR' := hide (fun o1 o2 => hr'.below (hb0 o1 o2))
  have HB := hide hb0
  clear hb0 hr hr'
  go_enter Tryz.func63, Tryz.ntmps63
  go_wp2_with fail
  refine (eqByteS_any a a' cap cap' l l _ hl (HR.out _ _) (HR'.out _ _)).mono ?_
  rintro e w2 ⟨rfl, n, rfl⟩
  rw [decide_eq_true (rfl : l = l)]
  have l0 : Laid ((w.alloc (.cells #[.slice a l.length cap, .int .i64 sf] 99)).alloc (.cells #[.slice a' l.length cap', .int .i64 sf] 99)) w.heap.size #[.slice a l.length cap, .int .i64 sf] 99 := Laid.below (B := w.heap.size + 1) (Laid.new w _ _) ((Below.refl _ _).alloc (by simp) _) (by omega)
  have l1 := Laid.new (w.alloc (.cells #[.slice a l.length cap, .int .i64 sf] 99)) #[.slice a' l.length cap', .int .i64 sf] 99
  rw [show (w.alloc (.cells #[.slice a l.length cap, .int .i64 sf] 99)).heap.size = w.heap.size + 1 from by simp] at l1
  have hbb := below_drewN (HB.out (.cells #[.slice a l.length cap, .int .i64 sf] 99) (.cells #[.slice a' l.length cap', .int .i64 sf] 99)) n
  have l0' : Laid (((w.alloc (.cells #[.slice a l.length cap, .int .i64 sf] 99)).alloc (.cells #[.slice a' l.length cap', .int .i64 sf] 99)).drewN n) w.heap.size #[.slice a l.length cap, .int .i64 sf] 99 := by
    have h := below_drewN (Below.refl (w.heap.size + 1) ((w.alloc (.cells #[.slice a l.length cap, .int .i64 sf] 99)).alloc (.cells #[.slice a' l.length cap', .int .i64 sf] 99))) n
    exact l0.below h (by omega)
  have l1' : Laid (((w.alloc (.cells #[.slice a l.length cap, .int .i64 sf] 99)).alloc (.cells #[.slice a' l.length cap', .int .i64 sf] 99)).drewN n) (w.heap.size + 1) #[.slice a' l.length cap', .int .i64 sf] 99 := by
    have h := below_drewN (Below.refl (w.heap.size + 2) ((w.alloc (.cells #[.slice a l.length cap, .int .i64 sf] 99)).alloc (.cells #[.slice a' l.length cap', .int .i64 sf] 99))) n
    exact l1.below h (by omega)
  generalize (((w.alloc (.cells #[.slice a l.length cap, .int .i64 sf] 99)).alloc (.cells #[.slice a' l.length cap', .int .i64 sf] 99)).drewN n) = w3 at hbb l0' l1' ⊢
  have q0 : w3.cell? ⟨w.heap.size, 1, none⟩ = some (.int .i64 sf) := by rw [l0'.cell]; rfl
  have q1 : w3.cell? ⟨w.heap.size + 1, 1, none⟩ = some (.int .i64 sf) := by rw [l1'.cell]; rfl
  have HN := hide hbb
  clear l0 l1 l0' l1' hbb HR HR' HB
  go_wp2
  go_ret
  exact ⟨rfl, HN.out⟩
theorem eqNodeS_same (a a' : Option Addr) (cap cap' : Nat) (es : List (List Nat × Int)) (w : World) (hl : es.length ≤ 9223372036854775807) (hls : ∀ e ∈ es, e.1.length ≤ 9223372036854775807) (hr : NodeAt w a es) (hr' : NodeAt w a' es) :
    Calls Tryz.prog 28 #[.slice a es.length cap, .slice a' es.length cap'] w fun e w' => e = .returned (.bool true) ∧ Below w.heap.size w w' := by
  go_enter Tryz.func28, Tryz.ntmps28
  go_wp2
  go_loopw [5] (fun i wr => ∃ k : Nat, k ≤ es.length ∧ i = .int .i64 k ∧ Below w.heap.size w wr) (fun i _ => es.length - (intOf i).toNat)
  case atStart => exact ⟨0, Nat.zero_le _, rfl, Below.refl _ _⟩
  case round =>
    obtain ⟨k, hk, rfl, hnx⟩ := hrel
    by_cases hlt : k < es.length
    · obtain ⟨b, off, rfl, hc⟩ := (hr.below hnx) (by omega)
      obtain ⟨b', off', rfl, hc'⟩ := (hr'.below hnx) (by omega)
      obtain ⟨ai, ci, hc0, hc1, hri⟩ := hc k hlt
      obtain ⟨ai', ci', hd0, hd1, hri'⟩ := hc' k hlt
      have hkl := hls _ (List.getElem_mem hlt)
      have HRI := hide hri
      have HRI' := hide hri'
      have HKL := hide hkl
      have HN := hide hnx
      clear hc hc' hr hr' hnx hri hri' hkl hls
      generalize es[k].1 = l0 at hc0 hd0 HRI HRI' HKL
      generalize es[k].2 = n0 at hc1 hd1
      go_wp2
      go_region_with (go_at_call 63; refine (eqNode_same ai ai' l0 ci ci' n0 _ HKL.out (HRI.out.drew 1) (HRI'.out.drew 1)).mono ?_; rintro e w2 ⟨rfl, hb⟩)
      all_goals
        have hnx2 : Below w.heap.size w w2 := HN.out.drew.trans (hb.mono HN.out.size)
        have HN2 := hide hnx2
        clear hnx2 hb hc0 hc1 hd0 hd1
        go_wp2
        go_roundw
        case rel => exact ⟨k + 1, by omega, by go_num, HN2.out⟩
        case measure => simp [intOf]; omega
    · go_wp2
      go_ret
      exact ⟨rfl, hnx⟩
end Go.Proofs.YtpbpidfjecejcaaGreatDoor
namespace Go.Proofs.YtpbpidfjecejcaaGreatDoor
open Go.RowKit
/-- The two blocks of a call with two disks. -/
def TE (w wj : World) (B : Nat) (A A' : Array Value) : Prop := Laid wj B A 27 ∧ Laid wj (B + 1) A' 27 ∧ Below B w wj
theorem TE.start (w : World) (A A' : Array Value) : TE w ((w.alloc (.cells A 27)).alloc (.cells A' 27)) w.heap.size A A' := by
  refine ⟨Laid.below (B := w.heap.size + 1) (Laid.new w _ _) ((Below.refl _ _).alloc (by simp) _) (by omega), ?_, ((Below.refl w.heap.size w).alloc (Nat.le_refl _) _).alloc (by simp) _⟩
  have h := Laid.new (w.alloc (.cells A 27)) A' 27
  rw [show (w.alloc (.cells A 27)).heap.size = w.heap.size + 1 from by simp] at h
  exact h
theorem TE.below {w wj w' : World} {B : Nat} {A A' : Array Value} (h : TE w wj B A A') (hb : Below wj.heap.size wj w') : TE w w' B A A' := by
  obtain ⟨h0, h1, hn⟩ := h
  exact ⟨h0.below hb h0.lt, h1.below hb h1.lt, hn.trans (hb.mono (Nat.le_of_lt h0.lt))⟩
theorem eqDisk_same (v v' : Value) (D : MDisk) (w : World) (hl1 : D.nodes.length ≤ 1048576) (hl2 : D.names.length ≤ 1048576) (hl3 : D.kept.length ≤ 1048576) (hl4 : D.pend.length ≤ 1048576) (hls : ∀ e ∈ D.nodes, e.1.length ≤ 1048576) (hr : DiskAt w v D) (hr' : DiskAt w v' D) :
    Calls Tryz.prog 7 #[v, v'] w fun e w' => e = .returned (.bool true) ∧ Below w.heap.size w w' := by
  obtain ⟨a1, c1, a2, c2, a3, c3, a4, c4, rfl, r1, r2, r3, r4⟩ := hr
  obtain ⟨b1, d1, b2, d2, b3, d3, b4, d4, rfl, s1, s2, s3, s4⟩ := hr'
  have Hr1 := hide r1
  have Hr2 := hide r2
  have Hr3 := hide r3
  have Hr4 := hide r4
  have Hs1 := hide s1
  have Hs2 := hide s2
  have Hs3 := hide s3
  have Hs4 := hide s4
  have HLS := hide (fun e he => Nat.le_trans (hls e he) (by decide : 1048576 ≤ 9223372036854775807))
  clear r1 r2 r3 r4 s1 s2 s3 s4 hls
  go_enter Tryz.func7, Tryz.ntmps7
  go_wp2_with fail
  have HT := hide (TE.start w #[.slice a1 D.nodes.length c1, .slice a2 D.names.length c2, .slice a3 D.kept.length c3, .slice a4 D.pend.length c4, .int .i64 D.quota] #[.slice b1 D.nodes.length d1, .slice b2 D.names.length d2, .slice b3 D.kept.length d3, .slice b4 D.pend.length d4, .int .i64 D.quota])
  generalize ((w.alloc (.cells #[.slice a1 D.nodes.length c1, .slice a2 D.names.length c2, .slice a3 D.kept.length c3, .slice a4 D.pend.length c4, .int .i64 D.quota] 27)).alloc (.cells #[.slice b1 D.nodes.length d1, .slice b2 D.names.length d2, .slice b3 D.kept.length d3, .slice b4 D.pend.length d4, .int .i64 D.quota] 27)) = w1 at HT ⊢
  refine (eqNodeS_same a1 b1 c1 d1 D.nodes w1 (by omega) HLS.out (Hr1.out.below HT.out.2.2) (Hs1.out.below HT.out.2.2)).mono ?_
  rintro e w2 ⟨rfl, hb⟩
  replace HT := hide (HT.out.below hb)
  clear hb
  have q0 : w2.cell? ⟨w.heap.size, 1, none⟩ = some (.slice a2 D.names.length c2) := by rw [HT.out.1.cell]; rfl
  have q1 : w2.cell? ⟨w.heap.size + 1, 1, none⟩ = some (.slice b2 D.names.length d2) := by rw [HT.out.2.1.cell]; rfl
  go_wp2_with fail
  clear q0 q1
  refine (eqEntryS_same a2 b2 c2 d2 D.names w2 (by omega) (Hr2.out.below HT.out.2.2) (Hs2.out.below HT.out.2.2)).mono ?_
  rintro e w3 ⟨rfl, hb⟩
  replace HT := hide (HT.out.below hb)
  clear hb
  have q0 : w3.cell? ⟨w.heap.size, 2, none⟩ = some (.slice a3 D.kept.length c3) := by rw [HT.out.1.cell]; rfl
  have q1 : w3.cell? ⟨w.heap.size + 1, 2, none⟩ = some (.slice b3 D.kept.length d3) := by rw [HT.out.2.1.cell]; rfl
  go_wp2_with fail
  clear q0 q1
  refine (eqEntryS_same a3 b3 c3 d3 D.kept w3 (by omega) (Hr3.out.below HT.out.2.2) (Hs3.out.below HT.out.2.2)).mono ?_
  rintro e w4 ⟨rfl, hb⟩
  replace HT := hide (HT.out.below hb)
  clear hb
  have q0 : w4.cell? ⟨w.heap.size, 3, none⟩ = some (.slice a4 D.pend.length c4) := by rw [HT.out.1.cell]; rfl
  have q1 : w4.cell? ⟨w.heap.size + 1, 3, none⟩ = some (.slice b4 D.pend.length d4) := by rw [HT.out.2.1.cell]; rfl
  go_wp2_with fail
  clear q0 q1
  refine (eqDirOpS_same a4 b4 c4 d4 D.pend w4 (by omega) (Hr4.out.below HT.out.2.2) (Hs4.out.below HT.out.2.2)).mono ?_
  rintro e w5 ⟨rfl, hb⟩
  replace HT := hide (HT.out.below hb)
  clear hb
  have q0 : w5.cell? ⟨w.heap.size, 4, none⟩ = some (.int .i64 D.quota) := by rw [HT.out.1.cell]; rfl
  have q1 : w5.cell? ⟨w.heap.size + 1, 4, none⟩ = some (.int .i64 D.quota) := by rw [HT.out.2.1.cell]; rfl
  go_wp2
  go_ret
  exact ⟨rfl, HT.out.2.2⟩
end Go.Proofs.YtpbpidfjecejcaaGreatDoor
