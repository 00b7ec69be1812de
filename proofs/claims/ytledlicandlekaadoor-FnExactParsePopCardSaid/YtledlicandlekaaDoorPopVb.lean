import Derived.Test.YtledlicandlekaaDoorPopMap
namespace Go.Proofs.YtledlicandlekaaDoor
open Go.RowKit
def vAlone (g : Nat) : Value := .func (.func 81) #[] #[.pointer (some ⟨g, 0, none⟩)]
def vNum (g : Nat) : Value := .func (.func 82) #[] #[.pointer (some ⟨g, 0, none⟩)]
def vNoa (g : Nat) : Value := .func (.func 85) #[] #[.pointer (some ⟨g, 0, none⟩)]
theorem alone_any (k : Int) (w : World) :
    Calls Tryd.prog 65 #[.int .i64 k] w fun e w' => e = .returned (vAlone w.heap.size) ∧ w' = w.alloc (.cells #[.int .i64 k] 3) := by
  have hmf : ∀ (fn : Fn) (first cap : Array Value) (w : World), (Instr.makeFunc fn first cap).run Tryd.prog w = .ok (.func fn first cap) w := fun _ _ _ _ => rfl
  go_enter Tryd.func65, Tryd.ntmps65
  go_wp2
  go_ret
  exact ⟨rfl, rfl⟩
theorem numbered_any (k : Int) (w : World) :
    Calls Tryd.prog 66 #[.int .i64 k] w fun e w' => e = .returned (vNum w.heap.size) ∧ w' = w.alloc (.cells #[.int .i64 k] 3) := by
  have hmf : ∀ (fn : Fn) (first cap : Array Value) (w : World), (Instr.makeFunc fn first cap).run Tryd.prog w = .ok (.func fn first cap) w := fun _ _ _ _ => rfl
  go_enter Tryd.func66, Tryd.ntmps66
  go_wp2
  go_ret
  exact ⟨rfl, rfl⟩
theorem numberedOrAlone_any (k : Int) (w : World) :
    Calls Tryd.prog 67 #[.int .i64 k] w fun e w' => e = .returned (vNoa w.heap.size) ∧ w' = w.alloc (.cells #[.int .i64 k] 3) := by
  have hmf : ∀ (fn : Fn) (first cap : Array Value) (w : World), (Instr.makeFunc fn first cap).run Tryd.prog w = .ok (.func fn first cap) w := fun _ _ _ _ => rfl
  go_enter Tryd.func67, Tryd.ntmps67
  go_wp2
  go_ret
  exact ⟨rfl, rfl⟩
/-- The verbs put in so far: the map's block, then a box for each. -/
structure PVs (w W : World) (es : List (ByteArray × Value)) (ks : List Int) : Prop where
  mp : MapF W w.heap.size es
  bx : ∀ i (h : i < ks.length), Blk W (w.heap.size + 1 + i) #[.int .i64 ks[i]] 3
  sz : W.heap.size = w.heap.size + 1 + ks.length
  bel : Below w.heap.size w W
theorem pvs_new (w : World) : PVs w (w.alloc (.map #[] 0)) [] [] := ⟨mapF_new w, fun i h => by simp at h, by simp, (Below.refl _ _).alloc (Nat.le_refl _) _⟩
theorem PVs.step {w W W2 : World} {es : List (ByteArray × Value)} {ks : List Int} (h : PVs w W es ks) (k : Int) (nm : ByteArray) (v : Value) (h1 : MapF W2 w.heap.size (es ++ [(nm, v)])) (h2 : ∀ g, g ≠ w.heap.size → W2.heap[g]? = (W.alloc (.cells #[.int .i64 k] 3)).heap[g]?) (h3 : W2.heap.size = (W.alloc (.cells #[.int .i64 k] 3)).heap.size)
    (h4 : W2.os = (W.alloc (.cells #[.int .i64 k] 3)).os ∧ W2.tape = (W.alloc (.cells #[.int .i64 k] 3)).tape ∧ W2.output = (W.alloc (.cells #[.int .i64 k] 3)).output) : PVs w W2 (es ++ [(nm, v)]) (ks ++ [k]) := by
  have hs := h.sz
  have hb := h.bel
  refine ⟨h1, fun i hi => ?_, by rw [h3, World.size_alloc, hs, List.length_append]; rfl, ?_⟩
  · rw [List.length_append, List.length_singleton] at hi
    unfold Blk
    rw [h2 _ (by omega)]
    by_cases e : i < ks.length
    · rw [List.getElem_append_left e]
      exact (Below.heap_alloc _ _ _ (by omega)).trans (h.bx i e)
    · have e2 : i = ks.length := by omega
      subst e2
      rw [List.getElem_concat_length rfl]
      have hn := heap_alloc_new W (.cells #[.int .i64 k] 3)
      rw [hs] at hn
      exact hn
  · exact ⟨h4.1.trans hb.os, h4.2.1.trans hb.tape, h4.2.2.trans hb.output, by rw [h3, World.size_alloc]; omega, fun g hg => (h2 g (by omega)).trans ((Below.heap_alloc _ _ _ (by omega)).trans (hb.block g hg))⟩
theorem PVs.mp1 {w W : World} {es : List (ByteArray × Value)} {ks : List Int} (h : PVs w W es ks) (o : Obj) : MapF (W.alloc o) w.heap.size es := h.mp.below ((Below.refl W.heap.size W).alloc (Nat.le_refl _) o) h.mp.lt
/-- The verbs of POP, their map in block s. -/
def popE (s : Nat) : List (ByteArray × Value) := [(⟨#[78, 79, 79, 80]⟩, vAlone (s + 1 + 0)), (⟨#[81, 85, 73, 84]⟩, vAlone (s + 1 + 1)), (⟨#[83, 84, 65, 84]⟩, vAlone (s + 1 + 2)), (⟨#[82, 83, 69, 84]⟩, vAlone (s + 1 + 3)), (⟨#[82, 69, 84, 82]⟩, vNum (s + 1 + 4)), (⟨#[68, 69, 76, 69]⟩, vNum (s + 1 + 5)), (⟨#[76, 73, 83, 84]⟩, vNoa (s + 1 + 6)), (⟨#[85, 73, 68, 76]⟩, vNoa (s + 1 + 7))]
def popK : List Int := [1, 2, 3, 8, 6, 7, 4, 5]
set_option maxRecDepth 20000 in
set_option maxHeartbeats 2000000 in
theorem popVerbs_any (w : World) :
    Calls Tryd.prog 50 #[] w fun e w' => e = .returned (.map (some w.heap.size)) ∧ PVs w w' (popE w.heap.size) popK := by
  have hmm := @run_makeMap Tryd.prog
  have H0 := hide (pvs_new w)
  go_enter Tryd.func50, Tryd.ntmps50
  go_wp2_with fail
  generalize w.alloc (.map #[] 0) = W0 at H0 ⊢
  refine (alone_any 1 W0).mono ?_
  rintro e X0 ⟨rfl, hX0⟩
  have M0 := hide (H0.out.mp1 (.cells #[.int .i64 1] 3))
  have Z0 := hide H0.out.sz
  rw [← hX0] at M0
  have HX0 := hide hX0
  clear hX0
  go_wp2_with (refine wpList_insert_f _ rfl _ _ _ 88 87 rfl Tryd.underlying88 Tryd.underlying9 w.heap.size _ ⟨#[78, 79, 79, 80]⟩ (vAlone W0.heap.size) rfl rfl rfl M0.out (lookF_none (by kernel_rfl)) ?_; intro W1 a1 a2 a3 a4; rw [HX0.out] at a2 a3 a4; have H1 := hide (H0.out.step 1 _ _ a1 a2 a3 a4); clear a1 a2 a3 a4)
  refine (alone_any 2 W1).mono ?_
  rintro e X1 ⟨rfl, hX1⟩
  have M1 := hide (H1.out.mp1 (.cells #[.int .i64 2] 3))
  have Z1 := hide H1.out.sz
  rw [← hX1] at M1
  have HX1 := hide hX1
  clear hX1
  go_wp2_with (refine wpList_insert_f _ rfl _ _ _ 88 87 rfl Tryd.underlying88 Tryd.underlying9 w.heap.size _ ⟨#[81, 85, 73, 84]⟩ (vAlone W1.heap.size) rfl rfl rfl M1.out (lookF_none (by kernel_rfl)) ?_; intro W2 a1 a2 a3 a4; rw [HX1.out] at a2 a3 a4; have H2 := hide (H1.out.step 2 _ _ a1 a2 a3 a4); clear a1 a2 a3 a4)
  refine (alone_any 3 W2).mono ?_
  rintro e X2 ⟨rfl, hX2⟩
  have M2 := hide (H2.out.mp1 (.cells #[.int .i64 3] 3))
  have Z2 := hide H2.out.sz
  rw [← hX2] at M2
  have HX2 := hide hX2
  clear hX2
  go_wp2_with (refine wpList_insert_f _ rfl _ _ _ 88 87 rfl Tryd.underlying88 Tryd.underlying9 w.heap.size _ ⟨#[83, 84, 65, 84]⟩ (vAlone W2.heap.size) rfl rfl rfl M2.out (lookF_none (by kernel_rfl)) ?_; intro W3 a1 a2 a3 a4; rw [HX2.out] at a2 a3 a4; have H3 := hide (H2.out.step 3 _ _ a1 a2 a3 a4); clear a1 a2 a3 a4)
  refine (alone_any 8 W3).mono ?_
  rintro e X3 ⟨rfl, hX3⟩
  have M3 := hide (H3.out.mp1 (.cells #[.int .i64 8] 3))
  have Z3 := hide H3.out.sz
  rw [← hX3] at M3
  have HX3 := hide hX3
  clear hX3
  go_wp2_with (refine wpList_insert_f _ rfl _ _ _ 88 87 rfl Tryd.underlying88 Tryd.underlying9 w.heap.size _ ⟨#[82, 83, 69, 84]⟩ (vAlone W3.heap.size) rfl rfl rfl M3.out (lookF_none (by kernel_rfl)) ?_; intro W4 a1 a2 a3 a4; rw [HX3.out] at a2 a3 a4; have H4 := hide (H3.out.step 8 _ _ a1 a2 a3 a4); clear a1 a2 a3 a4)
  refine (numbered_any 6 W4).mono ?_
  rintro e X4 ⟨rfl, hX4⟩
  have M4 := hide (H4.out.mp1 (.cells #[.int .i64 6] 3))
  have Z4 := hide H4.out.sz
  rw [← hX4] at M4
  have HX4 := hide hX4
  clear hX4
  go_wp2_with (refine wpList_insert_f _ rfl _ _ _ 88 87 rfl Tryd.underlying88 Tryd.underlying9 w.heap.size _ ⟨#[82, 69, 84, 82]⟩ (vNum W4.heap.size) rfl rfl rfl M4.out (lookF_none (by kernel_rfl)) ?_; intro W5 a1 a2 a3 a4; rw [HX4.out] at a2 a3 a4; have H5 := hide (H4.out.step 6 _ _ a1 a2 a3 a4); clear a1 a2 a3 a4)
  refine (numbered_any 7 W5).mono ?_
  rintro e X5 ⟨rfl, hX5⟩
  have M5 := hide (H5.out.mp1 (.cells #[.int .i64 7] 3))
  have Z5 := hide H5.out.sz
  rw [← hX5] at M5
  have HX5 := hide hX5
  clear hX5
  go_wp2_with (refine wpList_insert_f _ rfl _ _ _ 88 87 rfl Tryd.underlying88 Tryd.underlying9 w.heap.size _ ⟨#[68, 69, 76, 69]⟩ (vNum W5.heap.size) rfl rfl rfl M5.out (lookF_none (by kernel_rfl)) ?_; intro W6 a1 a2 a3 a4; rw [HX5.out] at a2 a3 a4; have H6 := hide (H5.out.step 7 _ _ a1 a2 a3 a4); clear a1 a2 a3 a4)
  refine (numberedOrAlone_any 4 W6).mono ?_
  rintro e X6 ⟨rfl, hX6⟩
  have M6 := hide (H6.out.mp1 (.cells #[.int .i64 4] 3))
  have Z6 := hide H6.out.sz
  rw [← hX6] at M6
  have HX6 := hide hX6
  clear hX6
  go_wp2_with (refine wpList_insert_f _ rfl _ _ _ 88 87 rfl Tryd.underlying88 Tryd.underlying9 w.heap.size _ ⟨#[76, 73, 83, 84]⟩ (vNoa W6.heap.size) rfl rfl rfl M6.out (lookF_none (by kernel_rfl)) ?_; intro W7 a1 a2 a3 a4; rw [HX6.out] at a2 a3 a4; have H7 := hide (H6.out.step 4 _ _ a1 a2 a3 a4); clear a1 a2 a3 a4)
  refine (numberedOrAlone_any 5 W7).mono ?_
  rintro e X7 ⟨rfl, hX7⟩
  have M7 := hide (H7.out.mp1 (.cells #[.int .i64 5] 3))
  have Z7 := hide H7.out.sz
  rw [← hX7] at M7
  have HX7 := hide hX7
  clear hX7
  go_wp2_with (refine wpList_insert_f _ rfl _ _ _ 88 87 rfl Tryd.underlying88 Tryd.underlying9 w.heap.size _ ⟨#[85, 73, 68, 76]⟩ (vNoa W7.heap.size) rfl rfl rfl M7.out (lookF_none (by kernel_rfl)) ?_; intro W8 a1 a2 a3 a4; rw [HX7.out] at a2 a3 a4; have H8 := hide (H7.out.step 5 _ _ a1 a2 a3 a4); clear a1 a2 a3 a4)
  go_ret
  refine ⟨rfl, ?_⟩
  have h := H8.out
  simp only [Z0.out, Z1.out, Z2.out, Z3.out, Z4.out, Z5.out, Z6.out, Z7.out] at h
  exact h
end Go.Proofs.YtledlicandlekaaDoor
