import Derived.Test.YtknnpgffdbkfnaaDoorBuilder
import Derived.Test.YtknnpgffdbkfnaaDoorSmall
namespace Go.Proofs.YtknnpgffdbkfnaaDoor
open Go.RowKit
theorem copyCheck_any (B b : Nat) (bs : List Value) (w : World) (h : Lib.IsBuilder 76 5 B b bs w) :
    Calls Tryd.prog 58 #[.pointer (some ⟨b, 0, none⟩)] w fun e w' => e = .returned (.tuple #[]) ∧ Lib.BuilderAt 76 5 B b (.pointer (some ⟨b, 0, none⟩)) bs w' ∧ Below B w w' := by
  rcases h with h | h
  · refine (copyCheck_fresh b w h.cell0 h.shape h.frozen0).mono ?_
    rintro e w' ⟨rfl, rfl⟩
    exact ⟨rfl, h.used _, (Below.refl B w).setCell (p := ⟨b, 0, none⟩) h.1 _⟩
  · refine (copyCheck_used b w h.cell0).mono ?_
    rintro e w' ⟨rfl, rfl⟩
    exact ⟨rfl, h, Below.refl B _⟩
/-- utf8.AppendRune at a rune of one byte. -/
theorem appendRune_ascii (B : Nat) (v : Value) (l : List Nat) (r : Nat) (w : World) (hr : r < 128) (hown : OwnB w B v l) (hl : l.length ≤ 1048576) (hB : B ≤ w.heap.size) :
    Calls Tryd.prog 59 #[v, .int .i32 (r : Int)] w fun e w' => ∃ v', e = .returned v' ∧ OwnB w' B v' (l ++ [r]) ∧ ∃ o, (w.alloc o).grownBy w' v.ownBlock := by
  have hr7 : (r : Int) ≤ 127 := by omega
  have hr0 : (0 : Int) ≤ (r : Int) := by omega
  have hrow := row_one w r
  have ho := hown.alloc1 (.cells #[.int .u8 (r : Int)] 5)
  go_enter Tryd.func59, Tryd.ntmps59
  go_wp2_with (at_builtin; refine wpList_append_bytes _ rfl _ _ rfl B v l [r] rfl ho _ _ rfl hrow (by simp) (by simp; omega) (by simp; omega) ?_; intro v5 w5 ho5 hg5)
  go_ret
  exact ⟨v5, rfl, ho5, _, hg5⟩
/-- A builder that holds the bytes l, in block b. -/
def BldAt (w : World) (b : Nat) (l : List Nat) : Prop := Lib.IsBuilder 76 5 b b (l.map bv) w ∧ (l = [] → w.cell? ⟨b, 1, none⟩ = some (.slice none 0 0))
theorem BldAt.lt {w : World} {b : Nat} {l : List Nat} (h : BldAt w b l) : b < w.heap.size := by
  rcases h.1 with h | h <;> exact h.lt
theorem BldAt.below {w w' : World} {b : Nat} {l : List Nat} (h : BldAt w b l) (hb : Below w.heap.size w w') : BldAt w' b l := by
  have hl := h.lt
  refine ⟨?_, fun e => (hb.cell (p := ⟨b, 1, none⟩) hl).trans (h.2 e)⟩
  rcases h.1 with ⟨h1, v, h2, h3, h4⟩ | ⟨h1, v, h2, h3, h4⟩
  · refine .inl ⟨h1, v, (hb.block b hl).trans h2, ?_, h4⟩
    have h5 : OwnB w b v l := by unfold OwnB; rw [List.length_map] at h3; exact h3
    have h6 := h5.below hb (Nat.le_refl _)
    rw [List.length_map]; exact h6
  · refine .inr ⟨h1, v, (hb.block b hl).trans h2, ?_, h4⟩
    have h5 : OwnB w b v l := by unfold OwnB; rw [List.length_map] at h3; exact h3
    have h6 := h5.below hb (Nat.le_refl _)
    rw [List.length_map]; exact h6
theorem writeRune_ascii (b : Nat) (l : List Nat) (r : Nat) (w : World) (hr : r < 128) (h : BldAt w b l) (hl : l.length ≤ 1048576) :
    Calls Tryd.prog 36 #[.pointer (some ⟨b, 0, none⟩), .int .i32 (r : Int)] w fun e w' => e = .returned (.tuple #[.int .i64 1, .nilIface]) ∧ BldAt w' b (l ++ [r]) ∧ Below b w w' := by
  have hbw := h.lt
  go_enter Tryd.func36, Tryd.ntmps36
  go_wp2_with fail
  refine (copyCheck_any b b _ w h.1).mono ?_
  rintro e w1 ⟨rfl, h1, hb1⟩
  obtain ⟨hB, v, hbk, hown0, hne⟩ := h1
  have hown : OwnB w1 b v l := by unfold OwnB; rw [List.length_map] at hown0; exact hown0
  clear hown0
  obtain ⟨a, cap, rfl⟩ := hown.slice
  have c0 : w1.cell? ⟨b, 0, none⟩ = some (.pointer (some ⟨b, 0, none⟩)) := by rw [Lib.cell_of_heap hbk]; rfl
  have c1 : w1.cell? ⟨b, 1, none⟩ = some (.slice a l.length cap) := by rw [Lib.cell_of_heap hbk]; rfl
  have hs1 := hb1.size
  go_wp2_with fail
  refine (appendRune_ascii b _ l r w1 hr hown hl (by omega)).mono ?_
  rintro e w2 ⟨v', rfl, hown', o, hgrow⟩
  have hlt : b < w1.heap.size := by omega
  have hb2 : w2.heap[b]? = some (.cells #[.pointer (some ⟨b, 0, none⟩), .slice a l.length cap] 76 (0, 0)) := by
    rw [hgrow.block b (by simp; omega) (fun e => hne e.symm), Lib.alloc_old w1 _ b hlt]
    exact hbk
  have d0 : w2.cell? ⟨b, 0, none⟩ = some (.pointer (some ⟨b, 0, none⟩)) := by rw [Lib.cell_of_heap hb2]; rfl
  have d1 : w2.cell? ⟨b, 1, none⟩ = some (.slice a l.length cap) := by rw [Lib.cell_of_heap hb2]; rfl
  have f1 : w2.frozen? ⟨b, 1, none⟩ = false := Lib.frozen_of_heap hb2 1
  obtain ⟨a', cap', rfl⟩ := hown'.slice
  rw [List.length_append] at hown' ⊢
  have hX := hide (And.intro hown' (And.intro hgrow hown))
  clear hgrow hown hown'
  simp only [List.length_cons, List.length_nil, Nat.zero_add] at hX ⊢
  go_wp2
  go_ret2
  obtain ⟨hown', hgrow, hown⟩ := hX.out
  refine ⟨?_, ⟨Or.inr ?_, fun e => by simp at e⟩, ?_⟩
  · have e : ((l.length : Int) + 1 - (l.length : Int)) = 1 := by omega
    simp [e]
  · exact Lib.BuilderAt.put (T := 76) (e := 5) hB hb2 (bs' := (l ++ [r]).map bv) (by rw [List.length_map]; exact hown') (by decide)
  · exact ((hb1.alloc (by omega) _).grown hgrow (by simp; omega) (fun k hk => (World.ownsRow.lt hown k hk).1)).setCell (p := ⟨b, 1, none⟩) hB _
theorem OwnB.cells8 {l : List UInt8} : (l.map UInt8.toNat).map bv = Lib.byteCells l := by simp [Lib.byteCells, bv]
set_option maxHeartbeats 2000000 in
set_option maxRecDepth 100000 in
theorem builderString_some (b : Nat) (l : List UInt8) (w : World) (h : BldAt w b (l.map UInt8.toNat)) (h0 : l ≠ []) :
    Calls Tryd.prog 37 #[.pointer (some ⟨b, 0, none⟩)] w fun e w' => e = .returned (.string ⟨l.toArray⟩) ∧ Below b w w' := by
  replace h := h.1
  rw [OwnB.cells8] at h
  obtain ⟨p, hB, v, hbk, hown, hne⟩ : ∃ p, Lib.BuilderAt 76 5 b b p (Lib.byteCells l) w := by
    rcases h with h | h
    · exact ⟨_, h⟩
    · exact ⟨_, h⟩
  have hl0 : l.length ≠ 0 := by simpa using h0
  rw [Lib.byteCells_length] at hown
  obtain ⟨g, cap, cur, rfl, hbg, hg, hnc, hcm, hcs, htake⟩ : ∃ g cap cur, v = .slice (some ⟨g, 0, none⟩) l.length cap ∧ b ≤ g ∧ w.heap[g]? = some (.cells cur 5 (0, 0)) ∧ l.length ≤ cap ∧ cap ≤ maxLen ∧ cur.size = cap * 1 ∧ cur.toList.take (l.length * 1) = Lib.byteCells l := by
    rcases hown.2 with ⟨_, hz⟩ | ⟨g, cap, cur, hv, r⟩
    · exact absurd hz hl0
    · exact ⟨g, cap, cur, hv, r⟩
  have c1 : w.drew.cell? ⟨b, 1, none⟩ = some (.slice (some ⟨g, 0, none⟩) l.length cap) := by
    have : w.drew.heap[b]? = some (.cells #[p, .slice (some ⟨g, 0, none⟩) l.length cap] 76 (0, 0)) := hbk
    rw [Lib.cell_of_heap this]; rfl
  have hSD : (Builtin.unsafeSliceData_ #[28] 101 #[.slice (some ⟨g, 0, none⟩) l.length cap]).run Tryd.prog w.drew = .ok (.pointer (some ⟨g, 0, none⟩)) w.drew :=
    Lib.run_unsafeSliceData_row _ _ _ _ _ _ (by omega)
  have hUS : (Builtin.unsafeString_ #[101, 3] 9 #[.pointer (some ⟨g, 0, none⟩), .int .i64 l.length]).run Tryd.prog w.drew = .ok (.string ⟨l.toArray⟩) (w.drew.freeze ⟨g, 0, none⟩ l.length) := by
    refine Lib.run_unsafeString_row w.drew 101 3 9 5 Tryd.underlying101 Tryd.cellsByte g cur.size (by have hg' : w.drew.heap[g]? = some (.cells cur 5 (0, 0)) := hg; simp [World.shape?, hg']) l h0 (by omega) (by unfold maxLen at hcm; omega) ?_
    intro j x hx
    have := World.ownsRow.cells hown (g := g) rfl j (.int .u8 x.toNat) (by simp [Lib.byteCells, hx])
    exact this
  have HB := hide (And.intro hbg (And.intro hB hbk))
  clear hbg hB hbk hown hne htake hcs hcm hg
  go_enter Tryd.func37, Tryd.ntmps37
  go_wp2
  go_region
  all_goals (go_wp2; go_ret; exact ⟨rfl, Lib.below_freeze (Below.drew (Below.refl b w)) (p := ⟨g, 0, none⟩) HB.out.1 _⟩)
set_option maxHeartbeats 2000000 in
set_option maxRecDepth 100000 in
theorem builderString_none (b : Nat) (w : World) (c0 : w.cell? ⟨b, 1, none⟩ = some (.slice none 0 0)) :
    Calls Tryd.prog 37 #[.pointer (some ⟨b, 0, none⟩)] w fun e w' => e = .returned (.string ⟨#[]⟩) ∧ Below b w w' := by
  have hUS : ∀ W q, (Builtin.unsafeString_ #[101, 3] 9 #[.pointer q, .int .i64 0]).run Tryd.prog W = .ok (.string .empty) W := fun W q => Lib.run_unsafeString_none W _ _ _ q
  have c1 : w.drew.cell? ⟨b, 1, none⟩ = some (.slice none 0 0) := c0
  have hSD : (Builtin.unsafeSliceData_ #[28] 101 #[.slice none 0 0]).run Tryd.prog w.drew = .ok (.pointer none) w.drew := rfl
  go_enter Tryd.func37, Tryd.ntmps37
  go_wp2
  go_region
  all_goals (go_wp2; go_ret; exact ⟨rfl, Below.drew (Below.refl b w)⟩)
theorem builderString_any (b : Nat) (l : List UInt8) (w : World) (h : BldAt w b (l.map UInt8.toNat)) :
    Calls Tryd.prog 37 #[.pointer (some ⟨b, 0, none⟩)] w fun e w' => e = .returned (.string ⟨l.toArray⟩) ∧ Below b w w' := by
  cases l with
  | nil => exact builderString_none b w (h.2 rfl)
  | cons x r => exact builderString_some b (x :: r) w h (by simp)
end Go.Proofs.YtknnpgffdbkfnaaDoor
