import Derived.Test.YtpbpidfjecejcaaGreatDoorPka
namespace Go.Proofs.YtpbpidfjecejcaaGreatDoor
open Go.RowKit
/-- What a copy has written behind k rounds. -/
def half (l : List Nat) (k : Nat) : List Nat := l.take k ++ List.replicate (l.length - k) 0
theorem half_zero (l : List Nat) : half l 0 = List.replicate l.length 0 := by simp [half]
theorem half_len (l : List Nat) : half l l.length = l := by simp [half]
theorem half_length (l : List Nat) (k : Nat) (h : k ≤ l.length) : (half l k).length = l.length := by simp [half]; omega
theorem half_set (l : List Nat) (k : Nat) (h : k < l.length) : (half l k).set k l[k] = half l (k + 1) := by
  unfold half
  rw [List.set_append_right _ _ (by simp; omega)]
  have e : k - (l.take k).length = 0 := by simp; omega
  rw [e, show l.length - k = (l.length - (k + 1)) + 1 from by omega, List.replicate_succ, List.set_cons_zero, List.take_succ_eq_append_getElem h]
  simp only [List.append_assoc, List.cons_append, List.nil_append]
theorem toByteS_any (a : Option Addr) (cap : Nat) (l : List Nat) (w : World) (hl : l.length ≤ 1048576) (hr : RowAt w a l) :
    Calls Tryz.prog 84 #[.slice a l.length cap] w fun e w' => e = .returned (.slice (some ⟨w.heap.size, 0, none⟩) l.length l.length) ∧ OwnB w' w.heap.size (.slice (some ⟨w.heap.size, 0, none⟩) l.length l.length) l ∧ Below w.heap.size w w' := by
  go_enter Tryz.func84, Tryz.ntmps84
  go_wp2_with (at_make; refine wpList_make_bytes _ rfl _ _ rfl l.length rfl rfl (by omega) ?_; intro w1 hown hbel)
  have hown' : OwnB w1 w.heap.size (.slice (some ⟨w.heap.size, 0, none⟩) l.length l.length) (half l 0) := by rw [half_zero]; exact hown
  clear hown
  go_loopw [4] (fun i wr => ∃ k : Nat, k ≤ l.length ∧ i = .int .i64 k ∧ OwnB wr w.heap.size (.slice (some ⟨w.heap.size, 0, none⟩) l.length l.length) (half l k) ∧ Below w.heap.size w wr) (fun i _ => l.length - (intOf i).toNat)
  case atStart => exact ⟨0, Nat.zero_le _, rfl, hown', hbel⟩
  case round =>
    obtain ⟨k, hk, rfl, hown, hnx⟩ := hrel
    clear hown' hbel
    by_cases hlt : k < l.length
    · obtain ⟨b, off, rfl, hc⟩ := (hr.below hnx) (by omega)
      have hck := hc k hlt
      have hcell := hown.cellAt k (by rw [half_length l k hk]; exact hlt)
      have hfz := hown.frozenAt k
      have hst := (hown.store k l[k]).1
      rw [half_set l k hlt] at hst
      have HX : Hid (OwnB (wr.setCell ⟨w.heap.size, k, none⟩ (bv l[k])) w.heap.size (.slice (some ⟨w.heap.size, 0, none⟩) l.length l.length) (half l (k + 1)) ∧ Below w.heap.size w (wr.setCell ⟨w.heap.size, k, none⟩ (bv l[k]))) := ⟨hst, hnx.setCell (Nat.le_refl _) _⟩
      generalize (half l k)[k]'(by rw [half_length l k hk]; exact hlt) = y at hcell
      clear hst hown hnx hc hr
      go_wp2
      go_roundw
      case rel => exact ⟨k + 1, by omega, by go_num, HX.out.1, HX.out.2⟩
      case measure => simp [intOf]; omega
    · obtain rfl : k = l.length := by omega
      rw [half_len] at hown
      go_wp2
      go_ret
      exact ⟨rfl, hown, hnx⟩
theorem eqByteS_any (a a' : Option Addr) (cap cap' : Nat) (l m : List Nat) (w : World) (hl : l.length ≤ 9223372036854775807) (hr : RowAt w a l) (hr' : RowAt w a' m) :
    Calls Tryz.prog 96 #[.slice a l.length cap, .slice a' m.length cap'] w fun e w' => e = .returned (.bool (decide (l = m))) ∧ ∃ n, w' = w.drewN n := by
  by_cases hlen : l.length = m.length
  · have hne : ((l.length : Int) != (m.length : Int)) = false := by simp; omega
    have HL : Hid (l.length = m.length) := hlen
    clear hlen
    go_enter Tryz.func96, Tryz.ntmps96
    go_wp2
    go_loopw [5] (fun i wr => ∃ k : Nat, k ≤ l.length ∧ i = .int .i64 k ∧ l.take k = m.take k ∧ ∃ n, wr = w.drewN n) (fun i _ => l.length - (intOf i).toNat)
    case atStart => exact ⟨0, Nat.zero_le _, rfl, rfl, 0, rfl⟩
    case round =>
      obtain ⟨k, hk, rfl, htk, n, rfl⟩ := hrel
      by_cases hlt : k < l.length
      · obtain ⟨b, off, rfl, hc⟩ := hr (by omega)
        obtain ⟨b', off', rfl, hc'⟩ := hr' (by have := HL.out; omega)
        have hlt' : k < m.length := by have := HL.out; omega
        have hck := hc k hlt
        have hck' := hc' k hlt'
        have HT : Hid (l.take k = m.take k) := htk
        clear hc hc' htk hr hr'
        by_cases hx : l[k] = m[k]
        · have hxe : (((l[k] : Nat) : Int) != ((m[k] : Nat) : Int)) = false := by simp [hx]
          have HX : Hid (l[k] = m[k]) := hx
          clear hx
          go_wp2
          go_quiet (fail)
          go_wp2
          go_roundw
          case rel => exact ⟨k + 1, by omega, by go_num, take_eq_succ hlt hlt' HT.out HX.out, _, rfl⟩
          case measure => simp [intOf]; omega
        · have hxe : (((l[k] : Nat) : Int) != ((m[k] : Nat) : Int)) = true := by simp; omega
          have HX : Hid (¬ l[k] = m[k]) := hx
          clear hx
          go_wp2
          go_quiet (fail)
          go_wp2
          go_ret
          exact ⟨ret_bool (decide_eq_false (ne_of_at hlt hlt' HX.out)).symm, _, World.drewN_drewN _ _ _⟩
      · go_wp2
        go_ret
        have he : l = m := by
          have h1 : l.take k = l := List.take_of_length_le (by omega)
          have h2 : m.take k = m := List.take_of_length_le (by have := HL.out; omega)
          rw [← h1, ← h2, htk]
        exact ⟨ret_bool (decide_eq_true he).symm, n, rfl⟩
  · have hne : ((l.length : Int) != (m.length : Int)) = true := by simp; omega
    go_enter Tryz.func96, Tryz.ntmps96
    go_wp2
    go_ret
    exact ⟨ret_bool (decide_eq_false (fun h => hlen (by rw [h]))).symm, 0, rfl⟩
end Go.Proofs.YtpbpidfjecejcaaGreatDoor
namespace Go.Proofs.YtpbpidfjecejcaaGreatDoor
open Go.RowKit
theorem szByteS_any (a : Option Addr) (n cap : Nat) (left : Int) (w : World) (h0 : 0 ≤ left) (h1 : left ≤ 1048576) (hn : n ≤ 9223372036854775807) :
    Calls Tryz.prog 70 #[.slice a n cap, .int .i64 left] w fun e w' => e = .returned (.int .i64 (if left < n then -1 else left - n)) ∧ w' = w := by
  by_cases h : left < n
  · rw [if_pos h]
    go_enter Tryz.func70, Tryz.ntmps70
    go_wp2
    go_ret
    exact ⟨rfl, rfl⟩
  · rw [if_neg h]
    go_enter Tryz.func70, Tryz.ntmps70
    go_wp2
    go_ret
    exact ⟨rfl, rfl⟩
end Go.Proofs.YtpbpidfjecejcaaGreatDoor
namespace Go.Proofs.YtpbpidfjecejcaaGreatDoor
open Go.RowKit
/-- The nodes 'es' (bytes, safe) lie at 'a'. -/
def NodeAt (w : World) (a : Option Addr) (es : List (List Nat × Int)) : Prop :=
  0 < es.length → ∃ b off, a = some ⟨b, off, none⟩ ∧ ∀ i (h : i < es.length), ∃ ai ci, w.cell? ⟨b, off + i * 2, none⟩ = some (.slice ai es[i].1.length ci) ∧ w.cell? ⟨b, off + i * 2 + 1, none⟩ = some (.int .i64 es[i].2) ∧ RowAt w ai es[i].1
theorem NodeAt.below {w w' : World} {a : Option Addr} {es : List (List Nat × Int)} (h : NodeAt w a es) (hb : Below w.heap.size w w') : NodeAt w' a es := fun hp => by
  obtain ⟨b, off, rfl, hc⟩ := h hp
  refine ⟨b, off, rfl, fun i hi => ?_⟩
  obtain ⟨ai, ci, h1, h2, h3⟩ := hc i hi
  exact ⟨ai, ci, by rw [hb.cell (p := ⟨b, off + i * 2, none⟩) (lt_of_cell0 h1)]; exact h1, by rw [hb.cell (p := ⟨b, off + i * 2 + 1, none⟩) (lt_of_cell0 h2)]; exact h2, h3.below hb⟩
theorem szNode_any (a : Option Addr) (n cap : Nat) (sf left : Int) (w : World) (hs : n ≤ 9223372036854775807) (h0 : 0 ≤ left) (h1 : left ≤ 1048576) :
    Calls Tryz.prog 67 #[.agg #[.slice a n cap, .int .i64 sf], .int .i64 left] w fun e w' => e = .returned (.int .i64 (if left < n then -1 else left - n)) ∧ Below w.heap.size w w' := by
  by_cases h : left < n
  · rw [if_pos h]
    go_enter Tryz.func67, Tryz.ntmps67
    go_wp2_with fail
    refine (szByteS_any a n cap _ _ (by omega) (by omega) hs).mono ?_
    rintro e w' ⟨rfl, rfl⟩
    rw [if_pos (by omega)]
    go_wp2
    go_ret
    exact ⟨rfl, (Below.refl _ _).alloc (Nat.le_refl _) _⟩
  · rw [if_neg h]
    go_enter Tryz.func67, Tryz.ntmps67
    go_wp2_with fail
    refine (szByteS_any a n cap _ _ (by omega) (by omega) hs).mono ?_
    rintro e w' ⟨rfl, rfl⟩
    rw [if_neg (by omega)]
    go_wp2
    go_ret
    exact ⟨rfl, (Below.refl _ _).alloc (Nat.le_refl _) _⟩
def sumN : List (List Nat × Int) → Nat
  | [] => 0
  | e :: es => e.1.length + sumN es
theorem sumN_append (a b : List (List Nat × Int)) : sumN (a ++ b) = sumN a + sumN b := by
  induction a with
  | nil => simp [sumN]
  | cons x r ih => simp [sumN, ih]; omega
theorem sumN_take_succ (es : List (List Nat × Int)) (k : Nat) (h : k < es.length) : sumN (es.take (k + 1)) = sumN (es.take k) + es[k].1.length := by
  rw [List.take_succ_eq_append_getElem h, sumN_append]; simp [sumN]
theorem sumN_take_le (es : List (List Nat × Int)) (k : Nat) : sumN (es.take k) ≤ sumN es := by
  have h := sumN_append (es.take k) (es.drop k)
  rw [List.take_append_drop] at h; omega
theorem szNodeS_any (a : Option Addr) (cap : Nat) (es : List (List Nat × Int)) (left : Nat) (w : World) (hl : left ≤ 1048576) (hn : es.length ≤ 9223372036854775807) (hes : ∀ e ∈ es, e.1.length ≤ 9223372036854775807) (hr : NodeAt w a es) :
    Calls Tryz.prog 37 #[.slice a es.length cap, .int .i64 (left : Int)] w fun e w' => e = .returned (.int .i64 (szRest left (es.length + sumN es))) ∧ Below w.heap.size w w' := by
  by_cases hbig : left < es.length
  · rw [szRest_neg (by omega)]
    go_enter Tryz.func37, Tryz.ntmps37
    go_wp2
    go_ret
    exact ⟨rfl, Below.refl _ _⟩
  · go_enter Tryz.func37, Tryz.ntmps37
    go_wp2
    go_loopw [1, 5] (fun s i wr => ∃ k : Nat, k ≤ es.length ∧ i = .int .i64 k ∧ es.length + sumN (es.take k) ≤ left ∧ s = .int .i64 ((left : Int) - (es.length : Int) - (sumN (es.take k) : Int)) ∧ Below w.heap.size w wr) (fun _ i _ => es.length - (intOf i).toNat)
    case atStart => exact ⟨0, Nat.zero_le _, rfl, by simp [sumN]; omega, val_int (by simp [sumN]), Below.refl _ _⟩
    case round =>
      obtain ⟨k, hk, rfl, hs, rfl, hnx⟩ := hrel
      by_cases hlt : k < es.length
      · obtain ⟨b, off, rfl, hc⟩ := (hr.below hnx) (by omega)
        obtain ⟨ai, ci, hc0, hc1, _⟩ := hc k hlt
        have hkl := hes _ (List.getElem_mem hlt)
        have HS := hide (sumN_take_succ es k hlt)
        have HT := hide (sumN_take_le es (k + 1))
        generalize sumN (es.take k) = s0 at hs HS ⊢
        clear hc hr hes
        generalize es[k].1.length = n0 at hc0 hkl HS
        generalize es[k].2 = nd at hc1
        by_cases hfit : es.length + s0 + n0 ≤ left
        · go_wp2_with fail
          refine (szNode_any ai n0 ci nd _ wr hkl (by omega) (by omega)).mono ?_
          rintro e w' ⟨rfl, hb⟩
          rw [if_neg (by omega)]
          have hnx' := hnx.trans (hb.mono hnx.size)
          clear hc0 hc1
          go_wp2
          go_round
          case rel => exact ⟨k + 1, by omega, by go_num, by rw [HS.out]; omega, val_int (by rw [HS.out]; omega), hnx'⟩
          case measure => simp [intOf]; omega
        · go_wp2_with fail
          refine (szNode_any ai n0 ci nd _ wr hkl (by omega) (by omega)).mono ?_
          rintro e w' ⟨rfl, hb⟩
          rw [if_pos (by omega)]
          have hnx' := hnx.trans (hb.mono hnx.size)
          clear hc0 hc1
          go_wp2
          go_ret
          exact ⟨by rw [szRest_neg (by have := HS.out; have := HT.out; omega)]; rfl, hnx'⟩
      · have he : es.take k = es := List.take_of_length_le (by omega)
        rw [he] at hs ⊢
        clear he
        go_wp2
        go_ret
        exact ⟨by rw [szRest_pos hs]; exact congrArg Ending.returned (val_int (by omega)), hnx⟩
end Go.Proofs.YtpbpidfjecejcaaGreatDoor
namespace Go.Proofs.YtpbpidfjecejcaaGreatDoor
open Go.RowKit
/-- The block g holds the cells cs. -/
def Laid (w : World) (g : Nat) (cs : Array Value) (t : TypeId) : Prop := w.heap[g]? = some (.cells cs t (0, 0))
theorem Laid.cell {w : World} {g : Nat} {cs : Array Value} {t : TypeId} (h : Laid w g cs t) (j : Nat) : w.cell? ⟨g, j, none⟩ = cs[j]? := cell_of_row w g j _ _ (0, 0) h
theorem Laid.lt {w : World} {g : Nat} {cs : Array Value} {t : TypeId} (h : Laid w g cs t) : g < w.heap.size := by
  rcases Nat.lt_or_ge g w.heap.size with h' | h'
  · exact h'
  · simp [Laid, Array.getElem?_eq_none h'] at h
theorem Laid.below {w w' : World} {g B : Nat} {cs : Array Value} {t : TypeId} (h : Laid w g cs t) (hb : Below B w w') (hB : g < B) : Laid w' g cs t := (hb.block g hB).trans h
theorem Laid.new (w : World) (cs : Array Value) (t : TypeId) : Laid (w.alloc (.cells cs t)) w.heap.size cs t := heap_alloc_new w _
theorem szRest_nat {left n : Nat} (h : n ≤ left) : ∃ l : Nat, szRest left n = (l : Int) ∧ l + n = left := ⟨left - n, by rw [szRest_pos h]; omega, by omega⟩
/-- A disk's size. -/
def szD (ns : List (List Nat × Int)) (es ks : List (ByteArray × Int)) (os : List (Int × ByteArray × ByteArray × Int)) : Nat :=
  (ns.length + sumN ns) + (es.length + sumE es) + (ks.length + sumE ks) + (os.length + sumO os)
theorem szDisk_any (a1 a2 a3 a4 : Option Addr) (c1 c2 c3 c4 : Nat) (q : Int) (ns : List (List Nat × Int)) (es ks : List (ByteArray × Int)) (os : List (Int × ByteArray × ByteArray × Int)) (w : World)
    (hn1 : ns.length ≤ 9223372036854775807) (hn2 : es.length ≤ 9223372036854775807) (hn3 : ks.length ≤ 9223372036854775807) (hn4 : os.length ≤ 9223372036854775807)
    (h1 : ∀ e ∈ ns, e.1.length ≤ 9223372036854775807) (h2 : ∀ e ∈ es, e.1.size ≤ 9223372036854775807) (h3 : ∀ e ∈ ks, e.1.size ≤ 9223372036854775807) (h4 : ∀ e ∈ os, e.2.1.size ≤ 9223372036854775807 ∧ e.2.2.1.size ≤ 9223372036854775807)
    (r1 : NodeAt w a1 ns) (r2 : EntAt w a2 es) (r3 : EntAt w a3 ks) (r4 : OpAt w a4 os) :
    Calls Tryz.prog 10 #[.agg #[.slice a1 ns.length c1, .slice a2 es.length c2, .slice a3 ks.length c3, .slice a4 os.length c4, .int .i64 q], .int .i64 1048576] w fun e w' => e = .returned (.int .i64 (szRest 1048576 (szD ns es ks os))) ∧ Below w.heap.size w w' := by
  generalize hm1 : ns.length = m1 at hn1 ⊢
  generalize hm2 : es.length = m2 at hn2 ⊢
  generalize hm3 : ks.length = m3 at hn3 ⊢
  generalize hm4 : os.length = m4 at hn4 ⊢
  have HM1 := hide hm1
  have HM2 := hide hm2
  have HM3 := hide hm3
  have HM4 := hide hm4
  have HR1 := hide r1
  have HR2 := hide r2
  have HR3 := hide r3
  have HR4 := hide r4
  have HB1 := hide h1
  have HB2 := hide h2
  have HB3 := hide h3
  have HB4 := hide h4
  clear hm1 hm2 hm3 hm4 r1 r2 r3 r4 h1 h2 h3 h4
  go_enter Tryz.func10, Tryz.ntmps10
  go_wp2_with fail
  have HL := hide (Laid.new w #[.slice a1 m1 c1, .slice a2 m2 c2, .slice a3 m3 c3, .slice a4 m4 c4, .int .i64 q] 36)
  have hnx := (Below.refl w.heap.size w).alloc (Nat.le_refl _) (.cells #[.slice a1 m1 c1, .slice a2 m2 c2, .slice a3 m3 c3, .slice a4 m4 c4, .int .i64 q] 36)
  have HE : Hid (szD ns es ks os = (m1 + sumN ns) + (m2 + sumE es) + (m3 + sumE ks) + (m4 + sumO os)) := by
    unfold szD; rw [HM1.out, HM2.out, HM3.out, HM4.out]; exact rfl
  generalize hw1 : w.alloc (.cells #[.slice a1 m1 c1, .slice a2 m2 c2, .slice a3 m3 c3, .slice a4 m4 c4, .int .i64 q] 36) = w1 at HL hnx ⊢
  clear hw1
  have hB0 : w.heap.size < w1.heap.size := HL.out.lt
  have HNX := hide hnx
  clear hnx
  generalize hW : w.heap.size = B at HL HNX hB0 ⊢
  have HW := hide hW
  clear hW
  obtain rfl := HM1.out
  refine (szNodeS_any a1 c1 ns 1048576 w1 (by omega) hn1 HB1.out (HR1.out.below (by have h := HNX.out; have e := HW.out; rw [e]; exact h))).mono ?_
  rintro e w2 ⟨rfl, hb1⟩
  have HL1 := hide (HL.out.below hb1 hB0)
  have hB1 : B < w2.heap.size := Nat.lt_of_lt_of_le hB0 hb1.size
  have HNX1 := hide (HNX.out.trans (hb1.mono (Nat.le_of_lt hB0)))
  clear hb1
  by_cases hc1 : 1048576 < ns.length + sumN ns
  · rw [szRest_neg hc1]
    go_wp2
    go_ret
    exact ⟨by rw [szRest_neg (by have := HE.out; omega)]; rfl, by rw [HW.out]; exact HNX1.out⟩
  · obtain ⟨l1, e1, hl1⟩ := szRest_nat (Nat.le_of_not_lt hc1)
    rw [e1]
    clear e1
    have hq : w2.cell? ⟨B, 1, none⟩ = some (.slice a2 m2 c2) := by rw [HL1.out.cell]; rfl
    go_wp2_with fail
    clear hq
    obtain rfl := HM2.out
    refine (szEntryS_any a2 c2 es l1 w2 (by omega) hn2 HB2.out (HR2.out.below (by have h := HNX1.out; have e := HW.out; rw [e]; exact h))).mono ?_
    rintro e w3 ⟨rfl, hb2⟩
    have HL2 := hide (HL1.out.below hb2 hB1)
    have hB2 : B < w3.heap.size := Nat.lt_of_lt_of_le hB1 hb2.size
    have HNX2 := hide (HNX1.out.trans (hb2.mono (Nat.le_of_lt hB1)))
    clear hb2
    by_cases hc2 : l1 < es.length + sumE es
    · rw [szRest_neg hc2]
      go_wp2
      go_ret
      exact ⟨by rw [szRest_neg (by have := HE.out; omega)]; rfl, by rw [HW.out]; exact HNX2.out⟩
    · obtain ⟨l2, e2, hl2⟩ := szRest_nat (Nat.le_of_not_lt hc2)
      rw [e2]
      clear e2
      have hq : w3.cell? ⟨B, 2, none⟩ = some (.slice a3 m3 c3) := by rw [HL2.out.cell]; rfl
      go_wp2_with fail
      clear hq
      obtain rfl := HM3.out
      refine (szEntryS_any a3 c3 ks l2 w3 (by omega) hn3 HB3.out (HR3.out.below (by have h := HNX2.out; have e := HW.out; rw [e]; exact h))).mono ?_
      rintro e w4 ⟨rfl, hb3⟩
      have HL3 := hide (HL2.out.below hb3 hB2)
      have hB3 : B < w4.heap.size := Nat.lt_of_lt_of_le hB2 hb3.size
      have HNX3 := hide (HNX2.out.trans (hb3.mono (Nat.le_of_lt hB2)))
      clear hb3
      by_cases hc3 : l2 < ks.length + sumE ks
      · rw [szRest_neg hc3]
        go_wp2
        go_ret
        exact ⟨by rw [szRest_neg (by have := HE.out; omega)]; rfl, by rw [HW.out]; exact HNX3.out⟩
      · obtain ⟨l3, e3, hl3⟩ := szRest_nat (Nat.le_of_not_lt hc3)
        rw [e3]
        clear e3
        have hq : w4.cell? ⟨B, 3, none⟩ = some (.slice a4 m4 c4) := by rw [HL3.out.cell]; rfl
        go_wp2_with fail
        clear hq
        obtain rfl := HM4.out
        refine (szDirOpS_any a4 c4 os l3 w4 (by omega) hn4 HB4.out (HR4.out.below (by have h := HNX3.out; have e := HW.out; rw [e]; exact h))).mono ?_
        rintro e w5 ⟨rfl, hb4⟩
        have HL4 := hide (HL3.out.below hb4 hB3)
        have hB4 : B < w5.heap.size := Nat.lt_of_lt_of_le hB3 hb4.size
        have HNX4 := hide (HNX3.out.trans (hb4.mono (Nat.le_of_lt hB3)))
        clear hb4
        by_cases hc4 : l3 < os.length + sumO os
        · rw [szRest_neg hc4]
          go_wp2
          go_ret
          exact ⟨by rw [szRest_neg (by have := HE.out; omega)]; rfl, by rw [HW.out]; exact HNX4.out⟩
        · obtain ⟨l4, e4, hl4⟩ := szRest_nat (Nat.le_of_not_lt hc4)
          rw [e4]
          clear e4
          go_wp2
          go_ret
          exact ⟨by rw [szRest_pos (by have := HE.out; omega)]; exact congrArg Ending.returned (val_int (by have := HE.out; omega)), by rw [HW.out]; exact HNX4.out⟩
end Go.Proofs.YtpbpidfjecejcaaGreatDoor
namespace Go.Proofs.YtpbpidfjecejcaaGreatDoor
open Go.RowKit
theorem toEntry_any (s : ByteArray) (n : Int) (w : World) :
    Calls Tryz.prog 82 #[.agg #[.string s, .int .i64 n]] w fun e w' => e = .returned (.agg #[.string s, .int .i64 n]) ∧ Below w.heap.size w w' := by
  go_enter Tryz.func82, Tryz.ntmps82
  go_wp2
  refine bodyPost_ret (v := .agg #[.string s, .int .i64 n]) (by simp [results, Tryz.results82, go_sem]) rfl ⟨rfl, ?_⟩
  exact (((Below.refl _ _).alloc (Nat.le_refl _) _).alloc (by simp) _).alloc (by simp; omega) _
theorem toDirOp_any (k : Int) (s t : ByteArray) (n : Int) (w : World) :
    Calls Tryz.prog 83 #[.agg #[.int .i64 k, .string s, .string t, .int .i64 n]] w fun e w' => e = .returned (.agg #[.int .i64 k, .string s, .string t, .int .i64 n]) ∧ Below w.heap.size w w' := by
  go_enter Tryz.func83, Tryz.ntmps83
  go_wp2
  refine bodyPost_ret (v := .agg #[.int .i64 k, .string s, .string t, .int .i64 n]) (by simp [results, Tryz.results83, go_sem]) rfl ⟨rfl, ?_⟩
  exact (((Below.refl _ _).alloc (Nat.le_refl _) _).alloc (by simp) _).alloc (by simp; omega) _
end Go.Proofs.YtpbpidfjecejcaaGreatDoor
