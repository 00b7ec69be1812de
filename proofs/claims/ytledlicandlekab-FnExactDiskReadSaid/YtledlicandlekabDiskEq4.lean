import Derived.Test.YtledlicandlekabDiskEq3
namespace Go.Proofs.Ytledlicandlekab
open Go.RowKit
/-- The two blocks of a call with two disks. -/
def TE (w wj : World) (B : Nat) (A A' : Array Value) : Prop := Laid wj B A 36 ∧ Laid wj (B + 1) A' 36 ∧ Below B w wj
theorem TE.start (w : World) (A A' : Array Value) : TE w ((w.alloc (.cells A 36)).alloc (.cells A' 36)) w.heap.size A A' := by
  refine ⟨Laid.below (B := w.heap.size + 1) (Laid.new w _ _) ((Below.refl _ _).alloc (by simp) _) (by omega), ?_, ((Below.refl w.heap.size w).alloc (Nat.le_refl _) _).alloc (by simp) _⟩
  have h := Laid.new (w.alloc (.cells A 36)) A' 36
  rw [show (w.alloc (.cells A 36)).heap.size = w.heap.size + 1 from by simp] at h
  exact h
theorem TE.below {w wj w' : World} {B : Nat} {A A' : Array Value} (h : TE w wj B A A') (hb : Below wj.heap.size wj w') : TE w w' B A A' := by
  obtain ⟨h0, h1, hn⟩ := h
  exact ⟨h0.below hb h0.lt, h1.below hb h1.lt, hn.trans (hb.mono (Nat.le_of_lt h0.lt))⟩
theorem eqDisk_same (v v' : Value) (D : MDisk) (w : World) (hl1 : D.nodes.length ≤ 1048576) (hl2 : D.names.length ≤ 1048576) (hl3 : D.kept.length ≤ 1048576) (hl4 : D.pend.length ≤ 1048576) (hls : ∀ e ∈ D.nodes, e.1.length ≤ 1048576) (hr : DiskAt w v D) (hr' : DiskAt w v' D) :
    Calls Try.prog 10 #[v, v'] w fun e w' => e = .returned (.bool true) ∧ Below w.heap.size w w' := by
  obtain ⟨a1, c1, a2, c2, a3, c3, a4, c4, rfl, r1, r2, r3, r4⟩ := hr
  obtain ⟨b1, d1, b2, d2, b3, d3, b4, d4, rfl, s1, s2, s3, s4⟩ := hr'
  have Hr1 := hide r1
  have Hr2 := hide r2
  have Hr3 := hide r3
  have Hr4 := hide r4
  have Hs1 := hide s1
  have Hs2 := hide s2
  have Hs3 := hide s3
  have Hs4 := hide s4
  have HLS := hide (fun e he => Nat.le_trans (hls e he) (by decide : 1048576 ≤ 9223372036854775807))
  clear r1 r2 r3 r4 s1 s2 s3 s4 hls
  go_enter Try.func10, Try.ntmps10
  go_wp2_with fail
  have HT := hide (TE.start w #[.slice a1 D.nodes.length c1, .slice a2 D.names.length c2, .slice a3 D.kept.length c3, .slice a4 D.pend.length c4, .int .i64 D.quota] #[.slice b1 D.nodes.length d1, .slice b2 D.names.length d2, .slice b3 D.kept.length d3, .slice b4 D.pend.length d4, .int .i64 D.quota])
  generalize ((w.alloc (.cells #[.slice a1 D.nodes.length c1, .slice a2 D.names.length c2, .slice a3 D.kept.length c3, .slice a4 D.pend.length c4, .int .i64 D.quota] 36)).alloc (.cells #[.slice b1 D.nodes.length d1, .slice b2 D.names.length d2, .slice b3 D.kept.length d3, .slice b4 D.pend.length d4, .int .i64 D.quota] 36)) = w1 at HT ⊢
  refine (eqNodeS_same a1 b1 c1 d1 D.nodes w1 (by omega) HLS.out (Hr1.out.below HT.out.2.2) (Hs1.out.below HT.out.2.2)).mono ?_
  rintro e w2 ⟨rfl, hb⟩
  replace HT := hide (HT.out.below hb)
  clear hb
  have q0 : w2.cell? ⟨w.heap.size, 1, none⟩ = some (.slice a2 D.names.length c2) := by rw [HT.out.1.cell]; rfl
  have q1 : w2.cell? ⟨w.heap.size + 1, 1, none⟩ = some (.slice b2 D.names.length d2) := by rw [HT.out.2.1.cell]; rfl
  go_wp2_with fail
  clear q0 q1
  refine (eqEntryS_same a2 b2 c2 d2 D.names w2 (by omega) (Hr2.out.below HT.out.2.2) (Hs2.out.below HT.out.2.2)).mono ?_
  rintro e w3 ⟨rfl, hb⟩
  replace HT := hide (HT.out.below hb)
  clear hb
  have q0 : w3.cell? ⟨w.heap.size, 2, none⟩ = some (.slice a3 D.kept.length c3) := by rw [HT.out.1.cell]; rfl
  have q1 : w3.cell? ⟨w.heap.size + 1, 2, none⟩ = some (.slice b3 D.kept.length d3) := by rw [HT.out.2.1.cell]; rfl
  go_wp2_with fail
  clear q0 q1
  refine (eqEntryS_same a3 b3 c3 d3 D.kept w3 (by omega) (Hr3.out.below HT.out.2.2) (Hs3.out.below HT.out.2.2)).mono ?_
  rintro e w4 ⟨rfl, hb⟩
  replace HT := hide (HT.out.below hb)
  clear hb
  have q0 : w4.cell? ⟨w.heap.size, 3, none⟩ = some (.slice a4 D.pend.length c4) := by rw [HT.out.1.cell]; rfl
  have q1 : w4.cell? ⟨w.heap.size + 1, 3, none⟩ = some (.slice b4 D.pend.length d4) := by rw [HT.out.2.1.cell]; rfl
  go_wp2_with fail
  clear q0 q1
  refine (eqDirOpS_same a4 b4 c4 d4 D.pend w4 (by omega) (Hr4.out.below HT.out.2.2) (Hs4.out.below HT.out.2.2)).mono ?_
  rintro e w5 ⟨rfl, hb⟩
  replace HT := hide (HT.out.below hb)
  clear hb
  have q0 : w5.cell? ⟨w.heap.size, 4, none⟩ = some (.int .i64 D.quota) := by rw [HT.out.1.cell]; rfl
  have q1 : w5.cell? ⟨w.heap.size + 1, 4, none⟩ = some (.int .i64 D.quota) := by rw [HT.out.2.1.cell]; rfl
  go_wp2
  go_ret
  exact ⟨rfl, HT.out.2.2⟩
end Go.Proofs.Ytledlicandlekab
