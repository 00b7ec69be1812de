import Derived.Test.YtledlicandlekabDiskMem
namespace Go.Proofs.Ytledlicandlekab
open Go.RowKit
theorem toDisk_any (v : Value) (D : MDisk) (w : World) (hl1 : D.nodes.length ≤ 1048576) (hl2 : D.names.length ≤ 1048576) (hl3 : D.kept.length ≤ 1048576) (hl4 : D.pend.length ≤ 1048576) (hls : ∀ e ∈ D.nodes, e.1.length ≤ 1048576) (hr : DiskAt w v D) :
    Calls Try.prog 7 #[v] w fun e w' => ∃ x, e = .returned x ∧ OwnD w' w.heap.size x D ∧ Below w.heap.size w w' := by
  obtain ⟨a1, c1, a2, c2, a3, c3, a4, c4, rfl, r1, r2, r3, r4⟩ := hr
  have HR1 := hide r1
  have HR2 := hide r2
  have HR3 := hide r3
  have HR4 := hide r4
  have HLS := hide hls
  clear r1 r2 r3 r4 hls
  go_enter Try.func7, Try.ntmps7
  go_wp2_with fail
  have HT := hide (TD.start w #[.slice a1 D.nodes.length c1, .slice a2 D.names.length c2, .slice a3 D.kept.length c3, .slice a4 D.pend.length c4, .int .i64 D.quota] #[.slice none 0 0, .slice none 0 0, .slice none 0 0, .slice none 0 0, .int .i64 0] #[.slice none 0 0, .slice none 0 0, .slice none 0 0, .slice none 0 0, .int .i64 0])
  generalize (((w.alloc (.cells #[.slice a1 D.nodes.length c1, .slice a2 D.names.length c2, .slice a3 D.kept.length c3, .slice a4 D.pend.length c4, .int .i64 D.quota] 26)).alloc (.cells #[.slice none 0 0, .slice none 0 0, .slice none 0 0, .slice none 0 0, .int .i64 0] 36)).alloc (.cells #[.slice none 0 0, .slice none 0 0, .slice none 0 0, .slice none 0 0, .int .i64 0] 36)) = w1 at HT ⊢
  have HS := hide (HT.out.2.2.2.2)
  refine (toNodeS_any a1 c1 D.nodes w1 hl1 HLS.out (HR1.out.below HT.out.2.2.2.1)).mono ?_
  rintro e y1 ⟨rfl, ho, hb⟩
  replace HT := hide (HT.out.below hb)
  have ho1 := hide (ho.mono (base' := w.heap.size + 3) (HS.out))
  generalize w1.heap.size = g1 at ho1 ⊢
  clear ho hb HS
  have HS := hide (HT.out.2.2.2.2)
  have q1 : y1.cell? ⟨w.heap.size + 1 + 1, 0, none⟩ = some (.slice none 0 0) := by rw [HT.out.2.2.1.cell]; rfl
  have q2 := frozen_of_row y1 (w.heap.size + 1 + 1) 0 _ _ HT.out.2.2.1
  have q3 : y1.cell? ⟨w.heap.size, 1, none⟩ = some (.slice a2 D.names.length c2) := by rw [HT.out.1.cell]; rfl
  go_wp2_with fail
  clear q1 q2 q3
  replace HT := hide (HT.out.setOut 0 (.slice (some ⟨g1, 0, none⟩) D.nodes.length D.nodes.length))
  replace ho1 := hide (ho1.out.set_low (p := ⟨w.heap.size + 1 + 1, 0, none⟩) (by simp) (.slice (some ⟨g1, 0, none⟩) D.nodes.length D.nodes.length))
  generalize y1.setCell ⟨w.heap.size + 1 + 1, 0, none⟩ (.slice (some ⟨g1, 0, none⟩) D.nodes.length D.nodes.length) = w2 at HT ho1 ⊢
  clear HS
  have HS := hide (HT.out.2.2.2.2)
  refine (toEntryS_any a2 c2 D.names w2 hl2 (HR2.out.below HT.out.2.2.2.1)).mono ?_
  rintro e y2 ⟨rfl, ho, hb⟩
  replace HT := hide (HT.out.below hb)
  have ho2 := hide (ho.mono (base' := w.heap.size + 3) (HS.out))
  replace ho1 := hide (ho1.out.below hb)
  generalize w2.heap.size = g2 at ho2 ⊢
  clear ho hb HS
  have HS := hide (HT.out.2.2.2.2)
  have q1 : y2.cell? ⟨w.heap.size + 1 + 1, 1, none⟩ = some (.slice none 0 0) := by rw [HT.out.2.2.1.cell]; rfl
  have q2 := frozen_of_row y2 (w.heap.size + 1 + 1) 1 _ _ HT.out.2.2.1
  have q3 : y2.cell? ⟨w.heap.size, 2, none⟩ = some (.slice a3 D.kept.length c3) := by rw [HT.out.1.cell]; rfl
  go_wp2_with fail
  clear q1 q2 q3
  replace HT := hide (HT.out.setOut 1 (.slice (some ⟨g2, 0, none⟩) D.names.length D.names.length))
  replace ho1 := hide (ho1.out.set_low (p := ⟨w.heap.size + 1 + 1, 1, none⟩) (by simp) (.slice (some ⟨g2, 0, none⟩) D.names.length D.names.length))
  replace ho2 := hide (ho2.out.set_low (p := ⟨w.heap.size + 1 + 1, 1, none⟩) (by simp) (.slice (some ⟨g2, 0, none⟩) D.names.length D.names.length))
  generalize y2.setCell ⟨w.heap.size + 1 + 1, 1, none⟩ (.slice (some ⟨g2, 0, none⟩) D.names.length D.names.length) = w3 at HT ho1 ho2 ⊢
  clear HS
  have HS := hide (HT.out.2.2.2.2)
  refine (toEntryS_any a3 c3 D.kept w3 hl3 (HR3.out.below HT.out.2.2.2.1)).mono ?_
  rintro e y3 ⟨rfl, ho, hb⟩
  replace HT := hide (HT.out.below hb)
  have ho3 := hide (ho.mono (base' := w.heap.size + 3) (HS.out))
  replace ho1 := hide (ho1.out.below hb)
  replace ho2 := hide (ho2.out.below hb)
  generalize w3.heap.size = g3 at ho3 ⊢
  clear ho hb HS
  have HS := hide (HT.out.2.2.2.2)
  have q1 : y3.cell? ⟨w.heap.size + 1 + 1, 2, none⟩ = some (.slice none 0 0) := by rw [HT.out.2.2.1.cell]; rfl
  have q2 := frozen_of_row y3 (w.heap.size + 1 + 1) 2 _ _ HT.out.2.2.1
  have q3 : y3.cell? ⟨w.heap.size, 3, none⟩ = some (.slice a4 D.pend.length c4) := by rw [HT.out.1.cell]; rfl
  go_wp2_with fail
  clear q1 q2 q3
  replace HT := hide (HT.out.setOut 2 (.slice (some ⟨g3, 0, none⟩) D.kept.length D.kept.length))
  replace ho1 := hide (ho1.out.set_low (p := ⟨w.heap.size + 1 + 1, 2, none⟩) (by simp) (.slice (some ⟨g3, 0, none⟩) D.kept.length D.kept.length))
  replace ho2 := hide (ho2.out.set_low (p := ⟨w.heap.size + 1 + 1, 2, none⟩) (by simp) (.slice (some ⟨g3, 0, none⟩) D.kept.length D.kept.length))
  replace ho3 := hide (ho3.out.set_low (p := ⟨w.heap.size + 1 + 1, 2, none⟩) (by simp) (.slice (some ⟨g3, 0, none⟩) D.kept.length D.kept.length))
  generalize y3.setCell ⟨w.heap.size + 1 + 1, 2, none⟩ (.slice (some ⟨g3, 0, none⟩) D.kept.length D.kept.length) = w4 at HT ho1 ho2 ho3 ⊢
  clear HS
  have HS := hide (HT.out.2.2.2.2)
  refine (toDirOpS_any a4 c4 D.pend w4 hl4 (HR4.out.below HT.out.2.2.2.1)).mono ?_
  rintro e y4 ⟨rfl, ho, hb⟩
  replace HT := hide (HT.out.below hb)
  have ho4 := hide (ho.mono (base' := w.heap.size + 3) (HS.out))
  replace ho1 := hide (ho1.out.below hb)
  replace ho2 := hide (ho2.out.below hb)
  replace ho3 := hide (ho3.out.below hb)
  generalize w4.heap.size = g4 at ho4 ⊢
  clear ho hb HS
  have HS := hide (HT.out.2.2.2.2)
  have q1 : y4.cell? ⟨w.heap.size + 1 + 1, 3, none⟩ = some (.slice none 0 0) := by rw [HT.out.2.2.1.cell]; rfl
  have q2 := frozen_of_row y4 (w.heap.size + 1 + 1) 3 _ _ HT.out.2.2.1
  have q3 : y4.cell? ⟨w.heap.size, 4, none⟩ = some (.int .i64 D.quota) := by rw [HT.out.1.cell]; rfl
  have q4 : y4.cell? ⟨w.heap.size + 1 + 1, 4, none⟩ = some (.int .i64 0) := by rw [HT.out.2.2.1.cell]; rfl
  have q5 := frozen_of_row y4 (w.heap.size + 1 + 1) 4 _ _ HT.out.2.2.1
  have k0 : y4.cell? ⟨w.heap.size + 1 + 1, 0, none⟩ = some (.slice (some ⟨g1, 0, none⟩) D.nodes.length D.nodes.length) := by rw [HT.out.2.2.1.cell]; rfl
  have k1 : y4.cell? ⟨w.heap.size + 1 + 1, 1, none⟩ = some (.slice (some ⟨g2, 0, none⟩) D.names.length D.names.length) := by rw [HT.out.2.2.1.cell]; rfl
  have k2 : y4.cell? ⟨w.heap.size + 1 + 1, 2, none⟩ = some (.slice (some ⟨g3, 0, none⟩) D.kept.length D.kept.length) := by rw [HT.out.2.2.1.cell]; rfl
  have m0 : y4.cell? ⟨w.heap.size + 1, 0, none⟩ = some (.slice none 0 0) := by rw [HT.out.2.1.cell]; rfl
  have n0 := frozen_of_row y4 (w.heap.size + 1) 0 _ _ HT.out.2.1
  have m1 : y4.cell? ⟨w.heap.size + 1, 1, none⟩ = some (.slice none 0 0) := by rw [HT.out.2.1.cell]; rfl
  have n1 := frozen_of_row y4 (w.heap.size + 1) 1 _ _ HT.out.2.1
  have m2 : y4.cell? ⟨w.heap.size + 1, 2, none⟩ = some (.slice none 0 0) := by rw [HT.out.2.1.cell]; rfl
  have n2 := frozen_of_row y4 (w.heap.size + 1) 2 _ _ HT.out.2.1
  have m3 : y4.cell? ⟨w.heap.size + 1, 3, none⟩ = some (.slice none 0 0) := by rw [HT.out.2.1.cell]; rfl
  have n3 := frozen_of_row y4 (w.heap.size + 1) 3 _ _ HT.out.2.1
  have m4 : y4.cell? ⟨w.heap.size + 1, 4, none⟩ = some (.int .i64 0) := by rw [HT.out.2.1.cell]; rfl
  have n4 := frozen_of_row y4 (w.heap.size + 1) 4 _ _ HT.out.2.1
  go_wp2
  have hT := (((((((HT.out.setOut 3 (.slice (some ⟨g4, 0, none⟩) D.pend.length D.pend.length)).setOut 4 (.int .i64 D.quota)).setRes 0 (.slice (some ⟨g1, 0, none⟩) D.nodes.length D.nodes.length)).setRes 1 (.slice (some ⟨g2, 0, none⟩) D.names.length D.names.length)).setRes 2 (.slice (some ⟨g3, 0, none⟩) D.kept.length D.kept.length)).setRes 3 (.slice (some ⟨g4, 0, none⟩) D.pend.length D.pend.length)).setRes 4 (.int .i64 D.quota))
  have p1 := (((((((ho1.out.set_low (p := ⟨w.heap.size + 1 + 1, 3, none⟩) (by simp) (.slice (some ⟨g4, 0, none⟩) D.pend.length D.pend.length)).set_low (p := ⟨w.heap.size + 1 + 1, 4, none⟩) (by simp) (.int .i64 D.quota)).set_low (p := ⟨w.heap.size + 1, 0, none⟩) (by simp) (.slice (some ⟨g1, 0, none⟩) D.nodes.length D.nodes.length)).set_low (p := ⟨w.heap.size + 1, 1, none⟩) (by simp) (.slice (some ⟨g2, 0, none⟩) D.names.length D.names.length)).set_low (p := ⟨w.heap.size + 1, 2, none⟩) (by simp) (.slice (some ⟨g3, 0, none⟩) D.kept.length D.kept.length)).set_low (p := ⟨w.heap.size + 1, 3, none⟩) (by simp) (.slice (some ⟨g4, 0, none⟩) D.pend.length D.pend.length)).set_low (p := ⟨w.heap.size + 1, 4, none⟩) (by simp) (.int .i64 D.quota))
  have p2 := (((((((ho2.out.set_low (p := ⟨w.heap.size + 1 + 1, 3, none⟩) (by simp) (.slice (some ⟨g4, 0, none⟩) D.pend.length D.pend.length)).set_low (p := ⟨w.heap.size + 1 + 1, 4, none⟩) (by simp) (.int .i64 D.quota)).set_low (p := ⟨w.heap.size + 1, 0, none⟩) (by simp) (.slice (some ⟨g1, 0, none⟩) D.nodes.length D.nodes.length)).set_low (p := ⟨w.heap.size + 1, 1, none⟩) (by simp) (.slice (some ⟨g2, 0, none⟩) D.names.length D.names.length)).set_low (p := ⟨w.heap.size + 1, 2, none⟩) (by simp) (.slice (some ⟨g3, 0, none⟩) D.kept.length D.kept.length)).set_low (p := ⟨w.heap.size + 1, 3, none⟩) (by simp) (.slice (some ⟨g4, 0, none⟩) D.pend.length D.pend.length)).set_low (p := ⟨w.heap.size + 1, 4, none⟩) (by simp) (.int .i64 D.quota))
  have p3 := (((((((ho3.out.set_low (p := ⟨w.heap.size + 1 + 1, 3, none⟩) (by simp) (.slice (some ⟨g4, 0, none⟩) D.pend.length D.pend.length)).set_low (p := ⟨w.heap.size + 1 + 1, 4, none⟩) (by simp) (.int .i64 D.quota)).set_low (p := ⟨w.heap.size + 1, 0, none⟩) (by simp) (.slice (some ⟨g1, 0, none⟩) D.nodes.length D.nodes.length)).set_low (p := ⟨w.heap.size + 1, 1, none⟩) (by simp) (.slice (some ⟨g2, 0, none⟩) D.names.length D.names.length)).set_low (p := ⟨w.heap.size + 1, 2, none⟩) (by simp) (.slice (some ⟨g3, 0, none⟩) D.kept.length D.kept.length)).set_low (p := ⟨w.heap.size + 1, 3, none⟩) (by simp) (.slice (some ⟨g4, 0, none⟩) D.pend.length D.pend.length)).set_low (p := ⟨w.heap.size + 1, 4, none⟩) (by simp) (.int .i64 D.quota))
  have p4 := (((((((ho4.out.set_low (p := ⟨w.heap.size + 1 + 1, 3, none⟩) (by simp) (.slice (some ⟨g4, 0, none⟩) D.pend.length D.pend.length)).set_low (p := ⟨w.heap.size + 1 + 1, 4, none⟩) (by simp) (.int .i64 D.quota)).set_low (p := ⟨w.heap.size + 1, 0, none⟩) (by simp) (.slice (some ⟨g1, 0, none⟩) D.nodes.length D.nodes.length)).set_low (p := ⟨w.heap.size + 1, 1, none⟩) (by simp) (.slice (some ⟨g2, 0, none⟩) D.names.length D.names.length)).set_low (p := ⟨w.heap.size + 1, 2, none⟩) (by simp) (.slice (some ⟨g3, 0, none⟩) D.kept.length D.kept.length)).set_low (p := ⟨w.heap.size + 1, 3, none⟩) (by simp) (.slice (some ⟨g4, 0, none⟩) D.pend.length D.pend.length)).set_low (p := ⟨w.heap.size + 1, 4, none⟩) (by simp) (.int .i64 D.quota))
  have r0 := hT.2.1.cell 0
  have r1 := hT.2.1.cell 1
  have r2 := hT.2.1.cell 2
  have r3 := hT.2.1.cell 3
  have r4 := hT.2.1.cell 4
  simp at r0 r1 r2 r3 r4
  refine bodyPost_ret (v := .agg #[.slice (some ⟨g1, 0, none⟩) D.nodes.length D.nodes.length, .slice (some ⟨g2, 0, none⟩) D.names.length D.names.length, .slice (some ⟨g3, 0, none⟩) D.kept.length D.kept.length, .slice (some ⟨g4, 0, none⟩) D.pend.length D.pend.length, .int .i64 D.quota]) (by simp [results, Try.results7, go_sem, r0, r1, r2, r3, r4]) rfl ⟨_, rfl, ⟨_, _, _, _, rfl, p1.mono (by omega), p2.mono (by omega), p3.mono (by omega), p4.mono (by omega)⟩, hT.2.2.2.1⟩
end Go.Proofs.Ytledlicandlekab
