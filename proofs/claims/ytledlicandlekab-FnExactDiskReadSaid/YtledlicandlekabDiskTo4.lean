import Derived.Test.YtledlicandlekabDiskTo3
import Derived.Test.YtledlicandlekabDiskTo2
namespace Go.Proofs.Ytledlicandlekab
open Go.RowKit
theorem OwnB.set_low {w : World} {base : Nat} {v : Value} {l : List Nat} (h : OwnB w base v l) {p : Addr} (hp : p.block < base) (u : Value) : OwnB (w.setCell p u) base v l := by
  refine ⟨h.1, ?_⟩
  rcases h.2 with hn | ⟨g, cap, cur, hv, hbase, hg, rest⟩
  · exact .inl hn
  · exact .inr ⟨g, cap, cur, hv, hbase, (heap_setCell_other w p g u (by omega)).trans hg, rest⟩
theorem Laid.set {w : World} {g : Nat} {cs : Array Value} {t : TypeId} (h : Laid w g cs t) (j : Nat) (u : Value) : Laid (w.setCell ⟨g, j, none⟩ u) g (cs.setIfInBounds j u) t := heap_setCell_same w g j _ _ u h
theorem Laid.other {w : World} {g : Nat} {cs : Array Value} {t : TypeId} (h : Laid w g cs t) {p : Addr} (hp : g ≠ p.block) (u : Value) : Laid (w.setCell p u) g cs t := (heap_setCell_other w p g u hp).trans h
theorem toNode_any (a : Option Addr) (cap : Nat) (l : List Nat) (sf : Int) (w : World) (hl : l.length ≤ 1048576) (hr : RowAt w a l) :
    Calls Try.prog 57 #[.agg #[.slice a l.length cap, .int .i64 sf]] w fun e w' => ∃ x, e = .returned (.agg #[x, .int .i64 sf]) ∧ OwnB w' w.heap.size x l ∧ Below w.heap.size w w' := by
  go_enter Try.func57, Try.ntmps57
  go_wp2_with fail
  refine (toByteS_any a cap l _ hl (hr.below (((((Below.refl _ _).alloc (Nat.le_refl _) _).alloc (by simp) _).alloc (by simp; omega) _)))).mono ?_
  rintro e w2 ⟨rfl, ho, hb⟩
  have l0 : Laid w2 w.heap.size #[.slice a l.length cap, .int .i64 sf] 87 := Laid.below (by
    refine Laid.below (B := w.heap.size + 2) (Laid.below (B := w.heap.size + 1) (Laid.new w _ _) ((Below.refl _ _).alloc (by simp) _) (by omega)) ((Below.refl _ _).alloc (by simp) _) (by omega)) hb (by simp; omega)
  have l1 : Laid w2 (w.heap.size + 1) #[.slice none 0 0, .int .i64 0] 56 := Laid.below (by
    have h := Laid.new (w.alloc (.cells #[.slice a l.length cap, .int .i64 sf] 87)) #[.slice none 0 0, .int .i64 0] 56
    rw [show (w.alloc (.cells #[.slice a l.length cap, .int .i64 sf] 87)).heap.size = w.heap.size + 1 from by simp] at h
    exact Laid.below (B := w.heap.size + 2) h ((Below.refl _ _).alloc (by simp) _) (by omega)) hb (by simp)
  have l2 : Laid w2 (w.heap.size + 1 + 1) #[.slice none 0 0, .int .i64 0] 56 := Laid.below (by
    have h := Laid.new ((w.alloc (.cells #[.slice a l.length cap, .int .i64 sf] 87)).alloc (.cells #[.slice none 0 0, .int .i64 0] 56)) #[.slice none 0 0, .int .i64 0] 56
    rw [show ((w.alloc (.cells #[.slice a l.length cap, .int .i64 sf] 87)).alloc (.cells #[.slice none 0 0, .int .i64 0] 56)).heap.size = w.heap.size + 1 + 1 from by simp] at h
    exact h) hb (by simp)
  have hnx : Below w.heap.size w w2 := ((((Below.refl w.heap.size w).alloc (Nat.le_refl _) _).alloc (by simp) _).alloc (by simp; omega) _).trans (hb.mono (by simp; omega))
  have hG : w.heap.size + 3 = (((w.alloc (.cells #[.slice a l.length cap, .int .i64 sf] 87)).alloc (.cells #[.slice none 0 0, .int .i64 0] 56)).alloc (.cells #[.slice none 0 0, .int .i64 0] 56)).heap.size := by simp
  generalize (((w.alloc (.cells #[.slice a l.length cap, .int .i64 sf] 87)).alloc (.cells #[.slice none 0 0, .int .i64 0] 56)).alloc (.cells #[.slice none 0 0, .int .i64 0] 56)).heap.size = G at hG ho ⊢
  have c0 : w2.cell? ⟨w.heap.size, 1, none⟩ = some (.int .i64 sf) := by rw [l0.cell]; rfl
  have c10 : w2.cell? ⟨w.heap.size + 1, 0, none⟩ = some (.slice none 0 0) := by rw [l1.cell]; rfl
  have c11 : w2.cell? ⟨w.heap.size + 1, 1, none⟩ = some (.int .i64 0) := by rw [l1.cell]; rfl
  have c20 : w2.cell? ⟨w.heap.size + 1 + 1, 0, none⟩ = some (.slice none 0 0) := by rw [l2.cell]; rfl
  have c21 : w2.cell? ⟨w.heap.size + 1 + 1, 1, none⟩ = some (.int .i64 0) := by rw [l2.cell]; rfl
  have f10 := frozen_of_row w2 (w.heap.size + 1) 0 _ _ l1
  have f11 := frozen_of_row w2 (w.heap.size + 1) 1 _ _ l1
  have f20 := frozen_of_row w2 (w.heap.size + 1 + 1) 0 _ _ l2
  have f21 := frozen_of_row w2 (w.heap.size + 1 + 1) 1 _ _ l2
  have HO := hide ho
  have HN := hide hnx
  have HL1 := hide l1
  have HL2 := hide l2
  clear ho hnx hb l0 l1 l2 hr
  go_wp2
  have hl1 := (((HL1.out.other (p := ⟨w.heap.size + 1 + 1, 0, none⟩) (by simp) (.slice (some ⟨G, 0, none⟩) l.length l.length)).other (p := ⟨w.heap.size + 1 + 1, 1, none⟩) (by simp) (.int .i64 sf)).set 0 (.slice (some ⟨G, 0, none⟩) l.length l.length)).set 1 (.int .i64 sf)
  have r0 := hl1.cell 0
  have r1 := hl1.cell 1
  simp at r0 r1
  refine bodyPost_ret (v := .agg #[.slice (some ⟨G, 0, none⟩) l.length l.length, .int .i64 sf]) (by simp [results, Try.results57, go_sem, r0, r1]) rfl ⟨_, rfl, ?_, (((HN.out.setCell (by simp; omega) _).setCell (by simp; omega) _).setCell (by simp) _).setCell (by simp) _⟩
  exact ((((HO.out.set_low (by simp; omega) _).set_low (by simp; omega) _).set_low (by simp; omega) _).set_low (by simp; omega) _).mono (by omega)
end Go.Proofs.Ytledlicandlekab
