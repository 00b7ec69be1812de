import Derived.Test.YtledlicandlekaaDoorPopCmd
namespace Go.Proofs.YtledlicandlekaaDoor
open Go.RowKit
/-- The worlds that impl.ParsePop begins with. -/
def popW (w : World) (s : ByteArray) : World := ((w.alloc (.cells (cmP 0 0) 36)).alloc (.cells #[.string s, .bool false] 59)).alloc (.cells (cmP 0 0) 36)
theorem popW_below (w : World) (s : ByteArray) : Below w.heap.size w (popW w s) := (((Below.refl _ _).alloc (Nat.le_refl _) _).alloc (by simp) _).alloc (by simp; omega) _
theorem popW_0 (w : World) (s : ByteArray) : Blk (popW w s) w.heap.size (cmP 0 0) 36 := by
  have h := blk_new w (cmP 0 0) 36
  exact h.below (B := w.heap.size + 1) (((Below.refl _ _).alloc (by simp) _).alloc (by simp) _) (by omega)
theorem popW_1 (w : World) (s : ByteArray) : RdB (popW w s) (w.heap.size + 1) s false := by
  have h := blk_new (w.alloc (.cells (cmP 0 0) 36)) #[.string s, .bool false] 59
  rw [World.size_alloc] at h
  exact h.below (B := w.heap.size + 2) ((Below.refl _ _).alloc (by simp) _) (by omega)
theorem popW_2 (w : World) (s : ByteArray) : CmB (popW w s) (w.heap.size + 2) 0 0 := by
  have h := blk_new ((w.alloc (.cells (cmP 0 0) 36)).alloc (.cells #[.string s, .bool false] 59)) (cmP 0 0) 36
  rw [World.size_alloc, World.size_alloc] at h
  exact h
theorem set9 {W : World} {g : Nat} {K N : Int} (h : CmB W g 0 0) : CmB (((((((((W.setCell ⟨g, 0, none⟩ (.int .i64 K)).setCell ⟨g, 1, none⟩ (.string ⟨#[]⟩)).setCell ⟨g, 2, none⟩ (.int .u32 N)).setCell ⟨g, 3, none⟩ (.bool false)).setCell ⟨g, 4, none⟩ (.slice none 0 0)).setCell ⟨g, 5, none⟩ (.int .i64 0)).setCell ⟨g, 6, none⟩ (.int .i64 0)).setCell ⟨g, 7, none⟩ (.int .u32 0)).setCell ⟨g, 8, none⟩ (.slice none 0 0)) g K N := by
  have h9 : Blk (((((((((W.setCell ⟨g, 0, none⟩ (.int .i64 K)).setCell ⟨g, 1, none⟩ (.string ⟨#[]⟩)).setCell ⟨g, 2, none⟩ (.int .u32 N)).setCell ⟨g, 3, none⟩ (.bool false)).setCell ⟨g, 4, none⟩ (.slice none 0 0)).setCell ⟨g, 5, none⟩ (.int .i64 0)).setCell ⟨g, 6, none⟩ (.int .i64 0)).setCell ⟨g, 7, none⟩ (.int .u32 0)).setCell ⟨g, 8, none⟩ (.slice none 0 0)) g ((((((((((cmP 0 0).setIfInBounds 0 (.int .i64 K)).setIfInBounds 1 (.string ⟨#[]⟩)).setIfInBounds 2 (.int .u32 N)).setIfInBounds 3 (.bool false)).setIfInBounds 4 (.slice none 0 0)).setIfInBounds 5 (.int .i64 0)).setIfInBounds 6 (.int .i64 0)).setIfInBounds 7 (.int .u32 0)).setIfInBounds 8 (.slice none 0 0)) 36 := ((((((((h.set 0 _).set 1 _).set 2 _).set 3 _).set 4 _).set 5 _).set 6 _).set 7 _).set 8 _
  have e : ((((((((((cmP 0 0).setIfInBounds 0 (.int .i64 K)).setIfInBounds 1 (.string ⟨#[]⟩)).setIfInBounds 2 (.int .u32 N)).setIfInBounds 3 (.bool false)).setIfInBounds 4 (.slice none 0 0)).setIfInBounds 5 (.int .i64 0)).setIfInBounds 6 (.int .i64 0)).setIfInBounds 7 (.int .u32 0)).setIfInBounds 8 (.slice none 0 0)) = cmP K N := by simp [cmP]
  rw [e] at h9
  exact h9
theorem cmP_cells {W : World} {g : Nat} {K N : Int} (h : CmB W g K N) : W.cell? ⟨g, 0, none⟩ = some (.int .i64 K) ∧ W.cell? ⟨g, 1, none⟩ = some (.string ⟨#[]⟩) ∧ W.cell? ⟨g, 2, none⟩ = some (.int .u32 N) ∧ W.cell? ⟨g, 3, none⟩ = some (.bool false) ∧ W.cell? ⟨g, 4, none⟩ = some (.slice none 0 0) ∧ W.cell? ⟨g, 5, none⟩ = some (.int .i64 0) ∧ W.cell? ⟨g, 6, none⟩ = some (.int .i64 0) ∧ W.cell? ⟨g, 7, none⟩ = some (.int .u32 0) ∧ W.cell? ⟨g, 8, none⟩ = some (.slice none 0 0) :=
  ⟨h.cell 0, h.cell 1, h.cell 2, h.cell 3, h.cell 4, h.cell 5, h.cell 6, h.cell 7, h.cell 8⟩
theorem below9 {w W : World} {B g : Nat} (h : Below B w W) (hg : B ≤ g) (u0 u1 u2 u3 u4 u5 u6 u7 u8 : Value) : Below B w (((((((((W.setCell ⟨g, 0, none⟩ u0).setCell ⟨g, 1, none⟩ u1).setCell ⟨g, 2, none⟩ u2).setCell ⟨g, 3, none⟩ u3).setCell ⟨g, 4, none⟩ u4).setCell ⟨g, 5, none⟩ u5).setCell ⟨g, 6, none⟩ u6).setCell ⟨g, 7, none⟩ u7).setCell ⟨g, 8, none⟩ u8) :=
  ((((((((h.setCell (p := ⟨g, 0, none⟩) hg _).setCell (p := ⟨g, 1, none⟩) hg _).setCell (p := ⟨g, 2, none⟩) hg _).setCell (p := ⟨g, 3, none⟩) hg _).setCell (p := ⟨g, 4, none⟩) hg _).setCell (p := ⟨g, 5, none⟩) hg _).setCell (p := ⟨g, 6, none⟩) hg _).setCell (p := ⟨g, 7, none⟩) hg _).setCell (p := ⟨g, 8, none⟩) hg _
set_option maxRecDepth 20000 in
set_option maxHeartbeats 2000000 in
theorem implPop_any (a : Option Addr) (cap : Nat) (l : List Nat) (w : World) (hl : l.length ≤ 1048576) (hr : RowAt w a l) (hE : Env w) :
    Calls Tryd.prog 15 #[.slice a l.length cap] w fun e w' => ∃ K N : Int, e = .returned (.agg (cmP K N)) ∧ ImPop (strB l) (cmP K N) ∧ Below w.heap.size w w' := by
  have hcv := run_string_of (w.alloc (.cells (cmP 0 0) 36)) a cap l (hr.below ((Below.refl _ _).alloc (Nat.le_refl _) _))
  have hss : (strB l).size ≤ 1048576 := by rw [strB_size]; omega
  have HB := hide (popW_below w (strB l))
  have H0 := hide (popW_0 w (strB l))
  have H1 := hide (popW_1 w (strB l))
  have H2 := hide (popW_2 w (strB l))
  have HE := hide (fun (W : World) (h : Below w.heap.size w W) => hE.below h)
  clear hE hr
  generalize strB l = s at hcv hss HB H0 H1 H2 ⊢
  unfold popW at HB H0 H1 H2
  unfold cmP at hcv
  go_enter Tryd.func15, Tryd.ntmps15
  go_wp2_with fail
  generalize hW1 : ((w.alloc (.cells #[.int .i64 0, .string ⟨#[]⟩, .int .u32 0, .bool false, .slice none 0 0, .int .i64 0, .int .i64 0, .int .u32 0, .slice none 0 0] 36)).alloc (.cells #[.string s, .bool false] 59)).alloc (.cells #[.int .i64 0, .string ⟨#[]⟩, .int .u32 0, .bool false, .slice none 0 0, .int .i64 0, .int .i64 0, .int .u32 0, .slice none 0 0] 36) = W1
  have HB' := hide (show Below w.heap.size w W1 from hW1 ▸ HB.out)
  have H0' := hide (show CmB W1 w.heap.size 0 0 from hW1 ▸ H0.out)
  have H1' := hide (show RdB W1 (w.heap.size + 1) s false from hW1 ▸ H1.out)
  have H2' := hide (show CmB W1 (w.heap.size + 1 + 1) 0 0 from hW1 ▸ H2.out)
  clear hW1 HB H0 H1 H2 hcv
  have hs1 := HB'.out.size
  have hs2 := H2'.out.lt
  refine (popCommand_any (w.heap.size + 1) (w.heap.size + 1 + 1) s W1 hss H1'.out H2'.out (by omega) (fun X h => HE.out X (HB'.out.trans (h.below (by omega) (by omega) (by omega))))).mono ?_
  rintro e W2 ⟨⟨v2, rfl⟩, hP⟩
  obtain ⟨r, f, K, N, hr2, hc2, hI⟩ := pdone_blocks hP
  have h02 : CmB W2 w.heap.size 0 0 := H0'.out.two hP.1 (by omega) (by omega)
  have HB2 := hide (HB'.out.trans (hP.1.below (by omega) (by omega) (by omega)))
  obtain ⟨q0, q1, q2, q3, q4, q5, q6, q7, q8⟩ := cmP_cells hc2
  have HR2 := hide hr2
  have H02 := hide h02
  have HI := hide hI
  clear hP hr2 hc2 h02 hI H0' H1' H2' HB'
  go_wp2_with fail
  refine (whole_any (w.heap.size + 1) r f K N W2 HR2.out).mono ?_
  rintro e W3 ⟨rfl, hb3⟩
  obtain ⟨K', N', hcs⟩ := impop_size HI.out
  have HI' := hide (show ImPop s (cmP K' N') from hcs ▸ HI.out)
  rw [hcs]
  have h03 : CmB W3 w.heap.size 0 0 := H02.out.below hb3 H02.out.lt
  obtain ⟨p0, p1, p2, p3, p4, p5, p6, p7, p8⟩ := cmP_cells h03
  have fz := fun j => h03.fz j
  have HB3 := hide (HB2.out.trans (hb3.mono HB2.out.size))
  have H03 := hide h03
  clear h03 hb3 hcs HI HR2 H02 HB2 q0 q1 q2 q3 q4 q5 q6 q7 q8
  unfold cmP
  go_wp2
  exact bodyPost_ret (ret_cmd w.heap.size _ (cmP K' N') rfl rfl rfl (set9 H03.out)) rfl ⟨K', N', rfl, HI'.out, below9 HB3.out (Nat.le_refl _) _ _ _ _ _ _ _ _ _⟩
end Go.Proofs.YtledlicandlekaaDoor
