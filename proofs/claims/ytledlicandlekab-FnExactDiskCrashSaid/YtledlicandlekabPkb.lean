import Derived.Test.YtledlicandlekabPka
namespace Go.Proofs.Ytledlicandlekab
open Go.RowKit
theorem szByteS_any (a : Option Addr) (n cap : Nat) (left : Int) (w : World) (h0 : 0 ≤ left) (h1 : left ≤ 1048576) (hn : n ≤ 9223372036854775807) :
    Calls Try.prog 77 #[.slice a n cap, .int .i64 left] w fun e w' => e = .returned (.int .i64 (if left < n then -1 else left - n)) ∧ w' = w := by
  by_cases h : left < n
  · rw [if_pos h]
    go_enter Try.func77, Try.ntmps77
    go_wp2
    go_ret
    exact ⟨rfl, rfl⟩
  · rw [if_neg h]
    go_enter Try.func77, Try.ntmps77
    go_wp2
    go_ret
    exact ⟨rfl, rfl⟩
end Go.Proofs.Ytledlicandlekab
namespace Go.Proofs.Ytledlicandlekab
open Go.RowKit
/-- The nodes 'es' (bytes, safe) lie at 'a'. -/
def NodeAt (w : World) (a : Option Addr) (es : List (List Nat × Int)) : Prop :=
  0 < es.length → ∃ b off, a = some ⟨b, off, none⟩ ∧ ∀ i (h : i < es.length), ∃ ai ci, w.cell? ⟨b, off + i * 2, none⟩ = some (.slice ai es[i].1.length ci) ∧ w.cell? ⟨b, off + i * 2 + 1, none⟩ = some (.int .i64 es[i].2) ∧ RowAt w ai es[i].1
theorem NodeAt.below {w w' : World} {a : Option Addr} {es : List (List Nat × Int)} (h : NodeAt w a es) (hb : Below w.heap.size w w') : NodeAt w' a es := fun hp => by
  obtain ⟨b, off, rfl, hc⟩ := h hp
  refine ⟨b, off, rfl, fun i hi => ?_⟩
  obtain ⟨ai, ci, h1, h2, h3⟩ := hc i hi
  exact ⟨ai, ci, by rw [hb.cell (p := ⟨b, off + i * 2, none⟩) (lt_of_cell0 h1)]; exact h1, by rw [hb.cell (p := ⟨b, off + i * 2 + 1, none⟩) (lt_of_cell0 h2)]; exact h2, h3.below hb⟩
theorem szNode_any (a : Option Addr) (n cap : Nat) (sf left : Int) (w : World) (hs : n ≤ 9223372036854775807) (h0 : 0 ≤ left) (h1 : left ≤ 1048576) :
    Calls Try.prog 52 #[.agg #[.slice a n cap, .int .i64 sf], .int .i64 left] w fun e w' => e = .returned (.int .i64 (if left < n then -1 else left - n)) ∧ Below w.heap.size w w' := by
  by_cases h : left < n
  · rw [if_pos h]
    go_enter Try.func52, Try.ntmps52
    go_wp2_with fail
    refine (szByteS_any a n cap _ _ (by omega) (by omega) hs).mono ?_
    rintro e w' ⟨rfl, rfl⟩
    rw [if_pos (by omega)]
    go_wp2
    go_ret
    exact ⟨rfl, (Below.refl _ _).alloc (Nat.le_refl _) _⟩
  · rw [if_neg h]
    go_enter Try.func52, Try.ntmps52
    go_wp2_with fail
    refine (szByteS_any a n cap _ _ (by omega) (by omega) hs).mono ?_
    rintro e w' ⟨rfl, rfl⟩
    rw [if_neg (by omega)]
    go_wp2
    go_ret
    exact ⟨rfl, (Below.refl _ _).alloc (Nat.le_refl _) _⟩
def sumN : List (List Nat × Int) → Nat
  | [] => 0
  | e :: es => e.1.length + sumN es
theorem sumN_append (a b : List (List Nat × Int)) : sumN (a ++ b) = sumN a + sumN b := by
  induction a with
  | nil => simp [sumN]
  | cons x r ih => simp [sumN, ih]; omega
theorem sumN_take_succ (es : List (List Nat × Int)) (k : Nat) (h : k < es.length) : sumN (es.take (k + 1)) = sumN (es.take k) + es[k].1.length := by
  rw [List.take_succ_eq_append_getElem h, sumN_append]; simp [sumN]
theorem sumN_take_le (es : List (List Nat × Int)) (k : Nat) : sumN (es.take k) ≤ sumN es := by
  have h := sumN_append (es.take k) (es.drop k)
  rw [List.take_append_drop] at h; omega
theorem szNodeS_any (a : Option Addr) (cap : Nat) (es : List (List Nat × Int)) (left : Nat) (w : World) (hl : left ≤ 1048576) (hn : es.length ≤ 9223372036854775807) (hes : ∀ e ∈ es, e.1.length ≤ 9223372036854775807) (hr : NodeAt w a es) :
    Calls Try.prog 20 #[.slice a es.length cap, .int .i64 (left : Int)] w fun e w' => e = .returned (.int .i64 (szRest left (es.length + sumN es))) ∧ Below w.heap.size w w' := by
  by_cases hbig : left < es.length
  · rw [szRest_neg (by omega)]
    go_enter Try.func20, Try.ntmps20
    go_wp2
    go_ret
    exact ⟨rfl, Below.refl _ _⟩
  · go_enter Try.func20, Try.ntmps20
    go_wp2
    go_loopw [1, 5] (fun s i wr => ∃ k : Nat, k ≤ es.length ∧ i = .int .i64 k ∧ es.length + sumN (es.take k) ≤ left ∧ s = .int .i64 ((left : Int) - (es.length : Int) - (sumN (es.take k) : Int)) ∧ Below w.heap.size w wr) (fun _ i _ => es.length - (intOf i).toNat)
    case atStart => exact ⟨0, Nat.zero_le _, rfl, by simp [sumN]; omega, val_int (by simp [sumN]), Below.refl _ _⟩
    case round =>
      obtain ⟨k, hk, rfl, hs, rfl, hnx⟩ := hrel
      by_cases hlt : k < es.length
      · obtain ⟨b, off, rfl, hc⟩ := (hr.below hnx) (by omega)
        obtain ⟨ai, ci, hc0, hc1, _⟩ := hc k hlt
        have hkl := hes _ (List.getElem_mem hlt)
        have HS := hide (sumN_take_succ es k hlt)
        have HT := hide (sumN_take_le es (k + 1))
        generalize sumN (es.take k) = s0 at hs HS ⊢
        clear hc hr hes
        generalize es[k].1.length = n0 at hc0 hkl HS
        generalize es[k].2 = nd at hc1
        by_cases hfit : es.length + s0 + n0 ≤ left
        · go_wp2_with fail
          refine (szNode_any ai n0 ci nd _ wr hkl (by omega) (by omega)).mono ?_
          rintro e w' ⟨rfl, hb⟩
          rw [if_neg (by omega)]
          have hnx' := hnx.trans (hb.mono hnx.size)
          clear hc0 hc1
          go_wp2
          go_round
          case rel => exact ⟨k + 1, by omega, by go_num, by rw [HS.out]; omega, val_int (by rw [HS.out]; omega), hnx'⟩
          case measure => simp [intOf]; omega
        · go_wp2_with fail
          refine (szNode_any ai n0 ci nd _ wr hkl (by omega) (by omega)).mono ?_
          rintro e w' ⟨rfl, hb⟩
          rw [if_pos (by omega)]
          have hnx' := hnx.trans (hb.mono hnx.size)
          clear hc0 hc1
          go_wp2
          go_ret
          exact ⟨by rw [szRest_neg (by have := HS.out; have := HT.out; omega)]; rfl, hnx'⟩
      · have he : es.take k = es := List.take_of_length_le (by omega)
        rw [he] at hs ⊢
        clear he
        go_wp2
        go_ret
        exact ⟨by rw [szRest_pos hs]; exact congrArg Ending.returned (val_int (by omega)), hnx⟩
end Go.Proofs.Ytledlicandlekab
namespace Go.Proofs.Ytledlicandlekab
open Go.RowKit
/-- The block g holds the cells cs. -/
def Laid (w : World) (g : Nat) (cs : Array Value) (t : TypeId) : Prop := w.heap[g]? = some (.cells cs t (0, 0))
theorem Laid.cell {w : World} {g : Nat} {cs : Array Value} {t : TypeId} (h : Laid w g cs t) (j : Nat) : w.cell? ⟨g, j, none⟩ = cs[j]? := cell_of_row w g j _ _ (0, 0) h
theorem Laid.lt {w : World} {g : Nat} {cs : Array Value} {t : TypeId} (h : Laid w g cs t) : g < w.heap.size := by
  rcases Nat.lt_or_ge g w.heap.size with h' | h'
  · exact h'
  · simp [Laid, Array.getElem?_eq_none h'] at h
theorem Laid.below {w w' : World} {g B : Nat} {cs : Array Value} {t : TypeId} (h : Laid w g cs t) (hb : Below B w w') (hB : g < B) : Laid w' g cs t := (hb.block g hB).trans h
theorem Laid.new (w : World) (cs : Array Value) (t : TypeId) : Laid (w.alloc (.cells cs t)) w.heap.size cs t := heap_alloc_new w _
theorem szRest_nat {left n : Nat} (h : n ≤ left) : ∃ l : Nat, szRest left n = (l : Int) ∧ l + n = left := ⟨left - n, by rw [szRest_pos h]; omega, by omega⟩
/-- A disk's size. -/
def szD (ns : List (List Nat × Int)) (es ks : List (ByteArray × Int)) (os : List (Int × ByteArray × ByteArray × Int)) : Nat :=
  (ns.length + sumN ns) + (es.length + sumE es) + (ks.length + sumE ks) + (os.length + sumO os)
theorem szDisk_any (a1 a2 a3 a4 : Option Addr) (c1 c2 c3 c4 : Nat) (q : Int) (ns : List (List Nat × Int)) (es ks : List (ByteArray × Int)) (os : List (Int × ByteArray × ByteArray × Int)) (w : World)
    (hn1 : ns.length ≤ 9223372036854775807) (hn2 : es.length ≤ 9223372036854775807) (hn3 : ks.length ≤ 9223372036854775807) (hn4 : os.length ≤ 9223372036854775807)
    (h1 : ∀ e ∈ ns, e.1.length ≤ 9223372036854775807) (h2 : ∀ e ∈ es, e.1.size ≤ 9223372036854775807) (h3 : ∀ e ∈ ks, e.1.size ≤ 9223372036854775807) (h4 : ∀ e ∈ os, e.2.1.size ≤ 9223372036854775807 ∧ e.2.2.1.size ≤ 9223372036854775807)
    (r1 : NodeAt w a1 ns) (r2 : EntAt w a2 es) (r3 : EntAt w a3 ks) (r4 : OpAt w a4 os) :
    Calls Try.prog 5 #[.agg #[.slice a1 ns.length c1, .slice a2 es.length c2, .slice a3 ks.length c3, .slice a4 os.length c4, .int .i64 q], .int .i64 1048576] w fun e w' => e = .returned (.int .i64 (szRest 1048576 (szD ns es ks os))) ∧ Below w.heap.size w w' := by
  generalize hm1 : ns.length = m1 at hn1 ⊢
  generalize hm2 : es.length = m2 at hn2 ⊢
  generalize hm3 : ks.length = m3 at hn3 ⊢
  generalize hm4 : os.length = m4 at hn4 ⊢
  have HM1 := hide hm1
  have HM2 := hide hm2
  have HM3 := hide hm3
  have HM4 := hide hm4
  have HR1 := hide r1
  have HR2 := hide r2
  have HR3 := hide r3
  have HR4 := hide r4
  have HB1 := hide h1
  have HB2 := hide h2
  have HB3 := hide h3
  have HB4 := hide h4
  clear hm1 hm2 hm3 hm4 r1 r2 r3 r4 h1 h2 h3 h4
  go_enter Try.func5, Try.ntmps5
  go_wp2_with fail
  have HL := hide (Laid.new w #[.slice a1 m1 c1, .slice a2 m2 c2, .slice a3 m3 c3, .slice a4 m4 c4, .int .i64 q] 26)
  have hnx := (Below.refl w.heap.size w).alloc (Nat.le_refl _) (.cells #[.slice a1 m1 c1, .slice a2 m2 c2, .slice a3 m3 c3, .slice a4 m4 c4, .int .i64 q] 26)
  have HE : Hid (szD ns es ks os = (m1 + sumN ns) + (m2 + sumE es) + (m3 + sumE ks) + (m4 + sumO os)) := by
    unfold szD; rw [HM1.out, HM2.out, HM3.out, HM4.out]; exact rfl
  generalize hw1 : w.alloc (.cells #[.slice a1 m1 c1, .slice a2 m2 c2, .slice a3 m3 c3, .slice a4 m4 c4, .int .i64 q] 26) = w1 at HL hnx ⊢
  clear hw1
  have hB0 : w.heap.size < w1.heap.size := HL.out.lt
  have HNX := hide hnx
  clear hnx
  generalize hW : w.heap.size = B at HL HNX hB0 ⊢
  have HW := hide hW
  clear hW
  obtain rfl := HM1.out
  refine (szNodeS_any a1 c1 ns 1048576 w1 (by omega) hn1 HB1.out (HR1.out.below (by have h := HNX.out; have e := HW.out; rw [e]; exact h))).mono ?_
  rintro e w2 ⟨rfl, hb1⟩
  have HL1 := hide (HL.out.below hb1 hB0)
  have hB1 : B < w2.heap.size := Nat.lt_of_lt_of_le hB0 hb1.size
  have HNX1 := hide (HNX.out.trans (hb1.mono (Nat.le_of_lt hB0)))
  clear hb1
  by_cases hc1 : 1048576 < ns.length + sumN ns
  · rw [szRest_neg hc1]
    go_wp2
    go_ret
    exact ⟨by rw [szRest_neg (by have := HE.out; omega)]; rfl, by rw [HW.out]; exact HNX1.out⟩
  · obtain ⟨l1, e1, hl1⟩ := szRest_nat (Nat.le_of_not_lt hc1)
    rw [e1]
    clear e1
    have hq : w2.cell? ⟨B, 1, none⟩ = some (.slice a2 m2 c2) := by rw [HL1.out.cell]; rfl
    go_wp2_with fail
    clear hq
    obtain rfl := HM2.out
    refine (szEntryS_any a2 c2 es l1 w2 (by omega) hn2 HB2.out (HR2.out.below (by have h := HNX1.out; have e := HW.out; rw [e]; exact h))).mono ?_
    rintro e w3 ⟨rfl, hb2⟩
    have HL2 := hide (HL1.out.below hb2 hB1)
    have hB2 : B < w3.heap.size := Nat.lt_of_lt_of_le hB1 hb2.size
    have HNX2 := hide (HNX1.out.trans (hb2.mono (Nat.le_of_lt hB1)))
    clear hb2
    by_cases hc2 : l1 < es.length + sumE es
    · rw [szRest_neg hc2]
      go_wp2
      go_ret
      exact ⟨by rw [szRest_neg (by have := HE.out; omega)]; rfl, by rw [HW.out]; exact HNX2.out⟩
    · obtain ⟨l2, e2, hl2⟩ := szRest_nat (Nat.le_of_not_lt hc2)
      rw [e2]
      clear e2
      have hq : w3.cell? ⟨B, 2, none⟩ = some (.slice a3 m3 c3) := by rw [HL2.out.cell]; rfl
      go_wp2_with fail
      clear hq
      obtain rfl := HM3.out
      refine (szEntryS_any a3 c3 ks l2 w3 (by omega) hn3 HB3.out (HR3.out.below (by have h := HNX2.out; have e := HW.out; rw [e]; exact h))).mono ?_
      rintro e w4 ⟨rfl, hb3⟩
      have HL3 := hide (HL2.out.below hb3 hB2)
      have hB3 : B < w4.heap.size := Nat.lt_of_lt_of_le hB2 hb3.size
      have HNX3 := hide (HNX2.out.trans (hb3.mono (Nat.le_of_lt hB2)))
      clear hb3
      by_cases hc3 : l2 < ks.length + sumE ks
      · rw [szRest_neg hc3]
        go_wp2
        go_ret
        exact ⟨by rw [szRest_neg (by have := HE.out; omega)]; rfl, by rw [HW.out]; exact HNX3.out⟩
      · obtain ⟨l3, e3, hl3⟩ := szRest_nat (Nat.le_of_not_lt hc3)
        rw [e3]
        clear e3
        have hq : w4.cell? ⟨B, 3, none⟩ = some (.slice a4 m4 c4) := by rw [HL3.out.cell]; rfl
        go_wp2_with fail
        clear hq
        obtain rfl := HM4.out
        refine (szDirOpS_any a4 c4 os l3 w4 (by omega) hn4 HB4.out (HR4.out.below (by have h := HNX3.out; have e := HW.out; rw [e]; exact h))).mono ?_
        rintro e w5 ⟨rfl, hb4⟩
        have HL4 := hide (HL3.out.below hb4 hB3)
        have hB4 : B < w5.heap.size := Nat.lt_of_lt_of_le hB3 hb4.size
        have HNX4 := hide (HNX3.out.trans (hb4.mono (Nat.le_of_lt hB3)))
        clear hb4
        by_cases hc4 : l3 < os.length + sumO os
        · rw [szRest_neg hc4]
          go_wp2
          go_ret
          exact ⟨by rw [szRest_neg (by have := HE.out; omega)]; rfl, by rw [HW.out]; exact HNX4.out⟩
        · obtain ⟨l4, e4, hl4⟩ := szRest_nat (Nat.le_of_not_lt hc4)
          rw [e4]
          clear e4
          go_wp2
          go_ret
          exact ⟨by rw [szRest_pos (by have := HE.out; omega)]; exact congrArg Ending.returned (val_int (by have := HE.out; omega)), by rw [HW.out]; exact HNX4.out⟩
end Go.Proofs.Ytledlicandlekab
namespace Go.Proofs.Ytledlicandlekab
open Go.RowKit
theorem toEntry_any (s : ByteArray) (n : Int) (w : World) :
    Calls Try.prog 58 #[.agg #[.string s, .int .i64 n]] w fun e w' => e = .returned (.agg #[.string s, .int .i64 n]) ∧ Below w.heap.size w w' := by
  go_enter Try.func58, Try.ntmps58
  go_wp2
  refine bodyPost_ret (v := .agg #[.string s, .int .i64 n]) (by simp [results, Try.results58, go_sem]) rfl ⟨rfl, ?_⟩
  exact (((Below.refl _ _).alloc (Nat.le_refl _) _).alloc (by simp) _).alloc (by simp; omega) _
theorem toDirOp_any (k : Int) (s t : ByteArray) (n : Int) (w : World) :
    Calls Try.prog 59 #[.agg #[.int .i64 k, .string s, .string t, .int .i64 n]] w fun e w' => e = .returned (.agg #[.int .i64 k, .string s, .string t, .int .i64 n]) ∧ Below w.heap.size w w' := by
  go_enter Try.func59, Try.ntmps59
  go_wp2
  refine bodyPost_ret (v := .agg #[.int .i64 k, .string s, .string t, .int .i64 n]) (by simp [results, Try.results59, go_sem]) rfl ⟨rfl, ?_⟩
  exact (((Below.refl _ _).alloc (Nat.le_refl _) _).alloc (by simp) _).alloc (by simp; omega) _
end Go.Proofs.Ytledlicandlekab
namespace Go.Proofs.Ytledlicandlekab
open Go.RowKit
/-- The cells of a list of pairs. -/
def two (l : List (Value × Value)) : List Value := l.flatMap fun p => [p.1, p.2]
theorem two_cons (p : Value × Value) (l : List (Value × Value)) : two (p :: l) = p.1 :: p.2 :: two l := rfl
theorem two_length (l : List (Value × Value)) : (two l).length = l.length * 2 := by
  induction l with
  | nil => rfl
  | cons p l ih => rw [two_cons]; simp [ih]; omega
theorem two_get0 (l : List (Value × Value)) (i : Nat) (h : i < l.length) : (two l)[i * 2]? = some l[i].1 := by
  induction l generalizing i with
  | nil => simp at h
  | cons p l ih =>
    cases i with
    | zero => simp [two_cons]
    | succ i =>
      rw [two_cons, show (i + 1) * 2 = i * 2 + 1 + 1 from by omega]
      simp only [List.getElem?_cons_succ, List.getElem_cons_succ]
      exact ih i (by simpa using h)
theorem two_get1 (l : List (Value × Value)) (i : Nat) (h : i < l.length) : (two l)[i * 2 + 1]? = some l[i].2 := by
  induction l generalizing i with
  | nil => simp at h
  | cons p l ih =>
    cases i with
    | zero => simp [two_cons]
    | succ i =>
      rw [two_cons, show (i + 1) * 2 + 1 = (i * 2 + 1) + 1 + 1 from by omega]
      simp only [List.getElem?_cons_succ, List.getElem_cons_succ]
      exact ih i (by simpa using h)
theorem two_set (l : List (Value × Value)) (i : Nat) (x y : Value) : ((two l).set (i * 2) x).set (i * 2 + 1) y = two (l.set i (x, y)) := by
  induction l generalizing i with
  | nil => simp [two]
  | cons p l ih =>
    cases i with
    | zero => simp [two_cons]
    | succ i =>
      rw [two_cons, show (i + 1) * 2 + 1 = (i * 2 + 1) + 1 + 1 from by omega, show (i + 1) * 2 = i * 2 + 1 + 1 from by omega]
      simp only [List.set_cons_succ, two_cons]
      rw [ih i]
theorem two_made (z0 z1 : Value) (n : Nat) : (madeCells #[z0, z1] (n * 2)).toList = two (List.replicate n (z0, z1)) := by
  apply List.ext_getElem?
  intro j
  by_cases hj : j < n * 2
  · obtain ⟨i, rfl | rfl⟩ : ∃ i, j = i * 2 ∨ j = i * 2 + 1 := ⟨j / 2, by omega⟩
    · rw [two_get0 _ _ (by simp; omega)]
      simp [madeCells, hj]
    · rw [two_get1 _ _ (by simp; omega)]
      simp [madeCells, hj]
  · rw [List.getElem?_eq_none (by simp [size_madeCells]; omega), List.getElem?_eq_none (by rw [two_length]; simp; omega)]
/-- A slice of the call's own whose elements are pairs of cells. -/
def Own2 (w : World) (base : Nat) (e : TypeId) (v : Value) (l : List (Value × Value)) : Prop := w.ownsRow base e 2 v l.length (two l)
theorem Own2.slice {w : World} {base : Nat} {e : TypeId} {v : Value} {l : List (Value × Value)} (h : Own2 w base e v l) : ∃ a cap, v = .slice a l.length cap := by
  rcases h.2 with ⟨rfl, hn⟩ | ⟨g, cap, cur, rfl, _⟩
  · exact ⟨none, 0, by rw [hn]⟩
  · exact ⟨_, cap, rfl⟩
theorem Own2.store {w : World} {base e g n cap : Nat} {l : List (Value × Value)} (h : Own2 w base e (.slice (some ⟨g, 0, none⟩) n cap) l) (k : Nat) (x y : Value) :
    Own2 ((w.setCell ⟨g, k * 2, none⟩ x).setCell ⟨g, k * 2 + 1, none⟩ y) base e (.slice (some ⟨g, 0, none⟩) n cap) (l.set k (x, y)) := by
  obtain ⟨a, c, e1⟩ := h.slice
  simp only [Value.slice.injEq] at e1
  obtain ⟨_, rfl, rfl⟩ := e1
  have h1 := (World.ownsRow.stored (World.ownsRow.stored h (k * 2) x).1 (k * 2 + 1) y).1
  unfold Own2
  rw [List.length_set, ← two_set]
  exact h1
theorem Own2.cells {w : World} {base e g n cap : Nat} {l : List (Value × Value)} (h : Own2 w base e (.slice (some ⟨g, 0, none⟩) n cap) l) (k : Nat) (hk : k < l.length) : w.cell? ⟨g, k * 2, none⟩ = some l[k].1 ∧ w.cell? ⟨g, k * 2 + 1, none⟩ = some l[k].2 := by
  have h0 := World.ownsRow.cells h (g := g) rfl (k * 2) _ (two_get0 l k hk)
  have h1 := World.ownsRow.cells h (g := g) rfl (k * 2 + 1) _ (two_get1 l k hk)
  rw [addr_add, Nat.zero_add] at h0 h1
  exact ⟨h0, h1⟩
theorem Own2.frozen {w : World} {base e g n cap : Nat} {l : List (Value × Value)} (h : Own2 w base e (.slice (some ⟨g, 0, none⟩) n cap) l) (k : Nat) : w.frozen? ⟨g, k, none⟩ = false := by
  obtain ⟨a, c, e1⟩ := h.slice
  simp only [Value.slice.injEq] at e1
  obtain ⟨_, rfl, rfl⟩ := e1
  exact World.ownsRow.frozenAt h k
theorem Own2.below {B base e : Nat} {w w' : World} {v : Value} {l : List (Value × Value)} (h : Own2 w base e v l) (hb : Below B w w') (hB : w.heap.size ≤ B) : Own2 w' base e v l := by
  refine ⟨h.1, ?_⟩
  rcases h.2 with hn | ⟨g, cap, cur, hv, hg0, hg, rest⟩
  · exact .inl hn
  · refine .inr ⟨g, cap, cur, hv, hg0, ?_, rest⟩
    have hlt : g < w.heap.size := by
      rcases Nat.lt_or_ge g w.heap.size with h' | h'
      · exact h'
      · simp [Array.getElem?_eq_none h'] at hg
    rw [hb.block g (Nat.lt_of_lt_of_le hlt hB)]; exact hg
/-- What a copy has written behind k rounds. -/
def halfA {α : Type} (z : α) (l : List α) (k : Nat) : List α := l.take k ++ List.replicate (l.length - k) z
theorem halfA_zero {α : Type} (z : α) (l : List α) : halfA z l 0 = List.replicate l.length z := by simp [halfA]
theorem halfA_len {α : Type} (z : α) (l : List α) : halfA z l l.length = l := by simp [halfA]
theorem halfA_length {α : Type} (z : α) (l : List α) (k : Nat) (h : k ≤ l.length) : (halfA z l k).length = l.length := by simp [halfA]; omega
theorem halfA_set {α : Type} (z : α) (l : List α) (k : Nat) (h : k < l.length) : (halfA z l k).set k l[k] = halfA z l (k + 1) := by
  unfold halfA
  rw [List.set_append_right _ _ (by simp; omega)]
  have e : k - (l.take k).length = 0 := by simp; omega
  rw [e, show l.length - k = (l.length - (k + 1)) + 1 from by omega, List.replicate_succ, List.set_cons_zero, List.take_succ_eq_append_getElem h]
  simp only [List.append_assoc, List.cons_append, List.nil_append]
end Go.Proofs.Ytledlicandlekab
namespace Go.Proofs.Ytledlicandlekab
open Go.RowKit
abbrev V4 := Value × Value × Value × Value
/-- The cells of a list of fours. -/
def four (l : List V4) : List Value := l.flatMap fun p => [p.1, p.2.1, p.2.2.1, p.2.2.2]
theorem four_cons (p : V4) (l : List V4) : four (p :: l) = p.1 :: p.2.1 :: p.2.2.1 :: p.2.2.2 :: four l := rfl
theorem four_length (l : List V4) : (four l).length = l.length * 4 := by
  induction l with
  | nil => rfl
  | cons p l ih => rw [four_cons]; simp [ih]; omega
theorem four_get0 (l : List V4) (i : Nat) (h : i < l.length) : (four l)[i * 4]? = some l[i].1 := by
  induction l generalizing i with
  | nil => simp at h
  | cons p l ih =>
    cases i with
    | zero => simp [four_cons]
    | succ i =>
      rw [four_cons, show (i + 1) * 4 = (i * 4) + 1 + 1 + 1 + 1 from by omega]
      simp only [List.getElem?_cons_succ, List.getElem_cons_succ]
      exact ih i (by simpa using h)
theorem four_get1 (l : List V4) (i : Nat) (h : i < l.length) : (four l)[i * 4 + 1]? = some l[i].2.1 := by
  induction l generalizing i with
  | nil => simp at h
  | cons p l ih =>
    cases i with
    | zero => simp [four_cons]
    | succ i =>
      rw [four_cons, show (i + 1) * 4 + 1 = (i * 4 + 1) + 1 + 1 + 1 + 1 from by omega]
      simp only [List.getElem?_cons_succ, List.getElem_cons_succ]
      exact ih i (by simpa using h)
theorem four_get2 (l : List V4) (i : Nat) (h : i < l.length) : (four l)[i * 4 + 2]? = some l[i].2.2.1 := by
  induction l generalizing i with
  | nil => simp at h
  | cons p l ih =>
    cases i with
    | zero => simp [four_cons]
    | succ i =>
      rw [four_cons, show (i + 1) * 4 + 2 = (i * 4 + 2) + 1 + 1 + 1 + 1 from by omega]
      simp only [List.getElem?_cons_succ, List.getElem_cons_succ]
      exact ih i (by simpa using h)
theorem four_get3 (l : List V4) (i : Nat) (h : i < l.length) : (four l)[i * 4 + 3]? = some l[i].2.2.2 := by
  induction l generalizing i with
  | nil => simp at h
  | cons p l ih =>
    cases i with
    | zero => simp [four_cons]
    | succ i =>
      rw [four_cons, show (i + 1) * 4 + 3 = (i * 4 + 3) + 1 + 1 + 1 + 1 from by omega]
      simp only [List.getElem?_cons_succ, List.getElem_cons_succ]
      exact ih i (by simpa using h)
theorem four_set (l : List V4) (i : Nat) (x y z u : Value) : ((((four l).set (i * 4) x).set (i * 4 + 1) y).set (i * 4 + 2) z).set (i * 4 + 3) u = four (l.set i (x, y, z, u)) := by
  induction l generalizing i with
  | nil => simp [four]
  | cons p l ih =>
    cases i with
    | zero => simp [four_cons]
    | succ i =>
      rw [four_cons, show (i + 1) * 4 + 3 = (i * 4 + 3) + 1 + 1 + 1 + 1 from by omega, show (i + 1) * 4 + 2 = (i * 4 + 2) + 1 + 1 + 1 + 1 from by omega, show (i + 1) * 4 + 1 = (i * 4 + 1) + 1 + 1 + 1 + 1 from by omega, show (i + 1) * 4 = i * 4 + 1 + 1 + 1 + 1 from by omega]
      simp only [List.set_cons_succ, four_cons]
      rw [ih i]
theorem four_made (z0 z1 z2 z3 : Value) (n : Nat) : (madeCells #[z0, z1, z2, z3] (n * 4)).toList = four (List.replicate n (z0, z1, z2, z3)) := by
  apply List.ext_getElem?
  intro j
  by_cases hj : j < n * 4
  · obtain ⟨i, rfl | rfl | rfl | rfl⟩ : ∃ i, j = i * 4 ∨ j = i * 4 + 1 ∨ j = i * 4 + 2 ∨ j = i * 4 + 3 := ⟨j / 4, by omega⟩
    · rw [four_get0 _ _ (by simp; omega)]
      simp [madeCells, hj]
    · rw [four_get1 _ _ (by simp; omega)]
      simp [madeCells, hj]
    · rw [four_get2 _ _ (by simp; omega)]
      simp [madeCells, hj]
    · rw [four_get3 _ _ (by simp; omega)]
      simp [madeCells, hj]
  · rw [List.getElem?_eq_none (by simp [size_madeCells]; omega), List.getElem?_eq_none (by rw [four_length]; simp; omega)]
/-- A slice of the call's own whose elements are fours of cells. -/
def Own4 (w : World) (base : Nat) (e : TypeId) (v : Value) (l : List V4) : Prop := w.ownsRow base e 4 v l.length (four l)
theorem Own4.slice {w : World} {base : Nat} {e : TypeId} {v : Value} {l : List V4} (h : Own4 w base e v l) : ∃ a cap, v = .slice a l.length cap := by
  rcases h.2 with ⟨rfl, hn⟩ | ⟨g, cap, cur, rfl, _⟩
  · exact ⟨none, 0, by rw [hn]⟩
  · exact ⟨_, cap, rfl⟩
theorem Own4.store {w : World} {base e g n cap : Nat} {l : List V4} (h : Own4 w base e (.slice (some ⟨g, 0, none⟩) n cap) l) (k : Nat) (x y z u : Value) :
    Own4 ((((w.setCell ⟨g, k * 4, none⟩ x).setCell ⟨g, k * 4 + 1, none⟩ y).setCell ⟨g, k * 4 + 2, none⟩ z).setCell ⟨g, k * 4 + 3, none⟩ u) base e (.slice (some ⟨g, 0, none⟩) n cap) (l.set k (x, y, z, u)) := by
  obtain ⟨a, c, e1⟩ := h.slice
  simp only [Value.slice.injEq] at e1
  obtain ⟨_, rfl, rfl⟩ := e1
  have h1 := (World.ownsRow.stored (World.ownsRow.stored (World.ownsRow.stored (World.ownsRow.stored h (k * 4) x).1 (k * 4 + 1) y).1 (k * 4 + 2) z).1 (k * 4 + 3) u).1
  unfold Own4
  rw [List.length_set, ← four_set]
  exact h1
theorem Own4.cells {w : World} {base e g n cap : Nat} {l : List V4} (h : Own4 w base e (.slice (some ⟨g, 0, none⟩) n cap) l) (k : Nat) (hk : k < l.length) : w.cell? ⟨g, k * 4, none⟩ = some l[k].1 ∧ w.cell? ⟨g, k * 4 + 1, none⟩ = some l[k].2.1 ∧ w.cell? ⟨g, k * 4 + 2, none⟩ = some l[k].2.2.1 ∧ w.cell? ⟨g, k * 4 + 3, none⟩ = some l[k].2.2.2 := by
  have h0 := World.ownsRow.cells h (g := g) rfl (k * 4) _ (four_get0 l k hk)
  have h1 := World.ownsRow.cells h (g := g) rfl (k * 4 + 1) _ (four_get1 l k hk)
  have h2 := World.ownsRow.cells h (g := g) rfl (k * 4 + 2) _ (four_get2 l k hk)
  have h3 := World.ownsRow.cells h (g := g) rfl (k * 4 + 3) _ (four_get3 l k hk)
  rw [addr_add, Nat.zero_add] at h0 h1 h2 h3
  exact ⟨h0, h1, h2, h3⟩
theorem Own4.frozen {w : World} {base e g n cap : Nat} {l : List V4} (h : Own4 w base e (.slice (some ⟨g, 0, none⟩) n cap) l) (k : Nat) : w.frozen? ⟨g, k, none⟩ = false := by
  obtain ⟨a, c, e1⟩ := h.slice
  simp only [Value.slice.injEq] at e1
  obtain ⟨_, rfl, rfl⟩ := e1
  exact World.ownsRow.frozenAt h k
theorem Own4.below {B base e : Nat} {w w' : World} {v : Value} {l : List V4} (h : Own4 w base e v l) (hb : Below B w w') (hB : w.heap.size ≤ B) : Own4 w' base e v l := by
  refine ⟨h.1, ?_⟩
  rcases h.2 with hn | ⟨g, cap, cur, hv, hg0, hg, rest⟩
  · exact .inl hn
  · refine .inr ⟨g, cap, cur, hv, hg0, ?_, rest⟩
    have hlt : g < w.heap.size := by
      rcases Nat.lt_or_ge g w.heap.size with h' | h'
      · exact h'
      · simp [Array.getElem?_eq_none h'] at hg
    rw [hb.block g (Nat.lt_of_lt_of_le hlt hB)]; exact hg
end Go.Proofs.Ytledlicandlekab
