import Derived.Test.YtledlicandlekabDiskSz3
namespace Go.Proofs.Ytledlicandlekab
open Go.RowKit
/-- The block g holds the cells cs. -/
def Laid (w : World) (g : Nat) (cs : Array Value) (t : TypeId) : Prop := w.heap[g]? = some (.cells cs t (0, 0))
theorem Laid.cell {w : World} {g : Nat} {cs : Array Value} {t : TypeId} (h : Laid w g cs t) (j : Nat) : w.cell? ⟨g, j, none⟩ = cs[j]? := cell_of_row w g j _ _ (0, 0) h
theorem Laid.lt {w : World} {g : Nat} {cs : Array Value} {t : TypeId} (h : Laid w g cs t) : g < w.heap.size := by
  rcases Nat.lt_or_ge g w.heap.size with h' | h'
  · exact h'
  · simp [Laid, Array.getElem?_eq_none h'] at h
theorem Laid.below {w w' : World} {g B : Nat} {cs : Array Value} {t : TypeId} (h : Laid w g cs t) (hb : Below B w w') (hB : g < B) : Laid w' g cs t := (hb.block g hB).trans h
theorem Laid.new (w : World) (cs : Array Value) (t : TypeId) : Laid (w.alloc (.cells cs t)) w.heap.size cs t := heap_alloc_new w _
theorem szRest_nat {left n : Nat} (h : n ≤ left) : ∃ l : Nat, szRest left n = (l : Int) ∧ l + n = left := ⟨left - n, by rw [szRest_pos h]; omega, by omega⟩
/-- A disk's size. -/
def szD (ns : List (List Nat × Int)) (es ks : List (ByteArray × Int)) (os : List (Int × ByteArray × ByteArray × Int)) : Nat :=
  (ns.length + sumN ns) + (es.length + sumE es) + (ks.length + sumE ks) + (os.length + sumO os)
theorem szDisk_any (a1 a2 a3 a4 : Option Addr) (c1 c2 c3 c4 : Nat) (q : Int) (ns : List (List Nat × Int)) (es ks : List (ByteArray × Int)) (os : List (Int × ByteArray × ByteArray × Int)) (w : World)
    (hn1 : ns.length ≤ 9223372036854775807) (hn2 : es.length ≤ 9223372036854775807) (hn3 : ks.length ≤ 9223372036854775807) (hn4 : os.length ≤ 9223372036854775807)
    (h1 : ∀ e ∈ ns, e.1.length ≤ 9223372036854775807) (h2 : ∀ e ∈ es, e.1.size ≤ 9223372036854775807) (h3 : ∀ e ∈ ks, e.1.size ≤ 9223372036854775807) (h4 : ∀ e ∈ os, e.2.1.size ≤ 9223372036854775807 ∧ e.2.2.1.size ≤ 9223372036854775807)
    (r1 : NodeAt w a1 ns) (r2 : EntAt w a2 es) (r3 : EntAt w a3 ks) (r4 : OpAt w a4 os) :
    Calls Try.prog 5 #[.agg #[.slice a1 ns.length c1, .slice a2 es.length c2, .slice a3 ks.length c3, .slice a4 os.length c4, .int .i64 q], .int .i64 1048576] w fun e w' => e = .returned (.int .i64 (szRest 1048576 (szD ns es ks os))) ∧ Below w.heap.size w w' := by
  generalize hm1 : ns.length = m1 at hn1 ⊢
  generalize hm2 : es.length = m2 at hn2 ⊢
  generalize hm3 : ks.length = m3 at hn3 ⊢
  generalize hm4 : os.length = m4 at hn4 ⊢
  have HM1 := hide hm1
  have HM2 := hide hm2
  have HM3 := hide hm3
  have HM4 := hide hm4
  have HR1 := hide r1
  have HR2 := hide r2
  have HR3 := hide r3
  have HR4 := hide r4
  have HB1 := hide h1
  have HB2 := hide h2
  have HB3 := hide h3
  have HB4 := hide h4
  clear hm1 hm2 hm3 hm4 r1 r2 r3 r4 h1 h2 h3 h4
  go_enter Try.func5, Try.ntmps5
  go_wp2_with fail
  have HL := hide (Laid.new w #[.slice a1 m1 c1, .slice a2 m2 c2, .slice a3 m3 c3, .slice a4 m4 c4, .int .i64 q] 26)
  have hnx := (Below.refl w.heap.size w).alloc (Nat.le_refl _) (.cells #[.slice a1 m1 c1, .slice a2 m2 c2, .slice a3 m3 c3, .slice a4 m4 c4, .int .i64 q] 26)
  have HE : Hid (szD ns es ks os = (m1 + sumN ns) + (m2 + sumE es) + (m3 + sumE ks) + (m4 + sumO os)) := by
    unfold szD; rw [HM1.out, HM2.out, HM3.out, HM4.out]; exact rfl
  generalize hw1 : w.alloc (.cells #[.slice a1 m1 c1, .slice a2 m2 c2, .slice a3 m3 c3, .slice a4 m4 c4, .int .i64 q] 26) = w1 at HL hnx ⊢
  clear hw1
  have hB0 : w.heap.size < w1.heap.size := HL.out.lt
  have HNX := hide hnx
  clear hnx
  generalize hW : w.heap.size = B at HL HNX hB0 ⊢
  have HW := hide hW
  clear hW
  obtain rfl := HM1.out
  refine (szNodeS_any a1 c1 ns 1048576 w1 (by omega) hn1 HB1.out (HR1.out.below (by have h := HNX.out; have e := HW.out; rw [e]; exact h))).mono ?_
  rintro e w2 ⟨rfl, hb1⟩
  have HL1 := hide (HL.out.below hb1 hB0)
  have hB1 : B < w2.heap.size := Nat.lt_of_lt_of_le hB0 hb1.size
  have HNX1 := hide (HNX.out.trans (hb1.mono (Nat.le_of_lt hB0)))
  clear hb1
  by_cases hc1 : 1048576 < ns.length + sumN ns
  · rw [szRest_neg hc1]
    go_wp2
    go_ret
    exact ⟨by rw [szRest_neg (by have := HE.out; omega)]; rfl, by rw [HW.out]; exact HNX1.out⟩
  · obtain ⟨l1, e1, hl1⟩ := szRest_nat (Nat.le_of_not_lt hc1)
    rw [e1]
    clear e1
    have hq : w2.cell? ⟨B, 1, none⟩ = some (.slice a2 m2 c2) := by rw [HL1.out.cell]; rfl
    go_wp2_with fail
    clear hq
    obtain rfl := HM2.out
    refine (szEntryS_any a2 c2 es l1 w2 (by omega) hn2 HB2.out (HR2.out.below (by have h := HNX1.out; have e := HW.out; rw [e]; exact h))).mono ?_
    rintro e w3 ⟨rfl, hb2⟩
    have HL2 := hide (HL1.out.below hb2 hB1)
    have hB2 : B < w3.heap.size := Nat.lt_of_lt_of_le hB1 hb2.size
    have HNX2 := hide (HNX1.out.trans (hb2.mono (Nat.le_of_lt hB1)))
    clear hb2
    by_cases hc2 : l1 < es.length + sumE es
    · rw [szRest_neg hc2]
      go_wp2
      go_ret
      exact ⟨by rw [szRest_neg (by have := HE.out; omega)]; rfl, by rw [HW.out]; exact HNX2.out⟩
    · obtain ⟨l2, e2, hl2⟩ := szRest_nat (Nat.le_of_not_lt hc2)
      rw [e2]
      clear e2
      have hq : w3.cell? ⟨B, 2, none⟩ = some (.slice a3 m3 c3) := by rw [HL2.out.cell]; rfl
      go_wp2_with fail
      clear hq
      obtain rfl := HM3.out
      refine (szEntryS_any a3 c3 ks l2 w3 (by omega) hn3 HB3.out (HR3.out.below (by have h := HNX2.out; have e := HW.out; rw [e]; exact h))).mono ?_
      rintro e w4 ⟨rfl, hb3⟩
      have HL3 := hide (HL2.out.below hb3 hB2)
      have hB3 : B < w4.heap.size := Nat.lt_of_lt_of_le hB2 hb3.size
      have HNX3 := hide (HNX2.out.trans (hb3.mono (Nat.le_of_lt hB2)))
      clear hb3
      by_cases hc3 : l2 < ks.length + sumE ks
      · rw [szRest_neg hc3]
        go_wp2
        go_ret
        exact ⟨by rw [szRest_neg (by have := HE.out; omega)]; rfl, by rw [HW.out]; exact HNX3.out⟩
      · obtain ⟨l3, e3, hl3⟩ := szRest_nat (Nat.le_of_not_lt hc3)
        rw [e3]
        clear e3
        have hq : w4.cell? ⟨B, 3, none⟩ = some (.slice a4 m4 c4) := by rw [HL3.out.cell]; rfl
        go_wp2_with fail
        clear hq
        obtain rfl := HM4.out
        refine (szDirOpS_any a4 c4 os l3 w4 (by omega) hn4 HB4.out (HR4.out.below (by have h := HNX3.out; have e := HW.out; rw [e]; exact h))).mono ?_
        rintro e w5 ⟨rfl, hb4⟩
        have HL4 := hide (HL3.out.below hb4 hB3)
        have hB4 : B < w5.heap.size := Nat.lt_of_lt_of_le hB3 hb4.size
        have HNX4 := hide (HNX3.out.trans (hb4.mono (Nat.le_of_lt hB3)))
        clear hb4
        by_cases hc4 : l3 < os.length + sumO os
        · rw [szRest_neg hc4]
          go_wp2
          go_ret
          exact ⟨by rw [szRest_neg (by have := HE.out; omega)]; rfl, by rw [HW.out]; exact HNX4.out⟩
        · obtain ⟨l4, e4, hl4⟩ := szRest_nat (Nat.le_of_not_lt hc4)
          rw [e4]
          clear e4
          go_wp2
          go_ret
          exact ⟨by rw [szRest_pos (by have := HE.out; omega)]; exact congrArg Ending.returned (val_int (by have := HE.out; omega)), by rw [HW.out]; exact HNX4.out⟩
end Go.Proofs.Ytledlicandlekab
