import Derived.Test.YtledlicandlekabPka
import Derived.Test.YtledlicandlekabPkb
import Derived.Test.YtledlicandlekabPkc
import Derived.Test.YtledlicandlekabPkd
import Derived.Test.YtledlicandlekabPke
import Derived.Test.YtledlicandlekabPkf
import Derived.Test.YtledlicandlekabPkg
import Derived.Test.YtledlicandlekabShelfI
import Derived.Test.YtledlicandlekabPkh
import Derived.Test.YtledlicandlekabPki
import Derived.Test.YtledlicandlekabPkj
import Derived.Test.YtledlicandlekabPkk
namespace Go.Proofs.Ytledlicandlekab
open Go.RowKit
/-- What marking writes: k, k + 1, .. as bytes. -/
def marks (k n : Nat) : List Nat := (List.range n).map fun i => (k + i) % 256
theorem marks_length (k n : Nat) : (marks k n).length = n := by simp [marks]
theorem marks_at (k n i : Nat) (h : i < (marks k n).length) : (marks k n)[i] = (k + i) % 256 := by simp [marks]
theorem marks_succ (k n : Nat) : marks k (n + 1) = marks k n ++ [(k + n) % 256] := by simp [marks, List.range_succ]
def marked (k : Nat) (l : List Nat) (i : Nat) : List Nat := marks k i ++ l.drop i
theorem marked_zero (k : Nat) (l : List Nat) : marked k l 0 = l := by simp [marked, marks]
theorem marked_len (k : Nat) (l : List Nat) : marked k l l.length = marks k l.length := by simp [marked]
theorem marked_length (k : Nat) (l : List Nat) (i : Nat) (h : i ≤ l.length) : (marked k l i).length = l.length := by simp [marked, marks_length]; omega
theorem marked_set (k : Nat) (l : List Nat) (i : Nat) (h : i < l.length) : (marked k l i).set i ((k + i) % 256) = marked k l (i + 1) := by
  unfold marked
  rw [List.set_append_right _ _ (by simp [marks_length])]
  have e : i - (marks k i).length = 0 := by simp [marks_length]
  rw [e, List.drop_eq_getElem_cons h, List.set_cons_zero, marks_succ]
  simp
theorem bv_mark (k j : Nat) : bv ((k + j) % 256) = .int .u8 (((k : Int) + (j : Int)) % 256) := val_int (by omega)
theorem markByteS_any (base : Nat) (a : Option Addr) (cap k : Nat) (l : List Nat) (w : World) (hk : k ≤ 4503599627370496) (hl : l.length ≤ 4503599627370496) (hown : OwnB w base (.slice a l.length cap) l) :
    Calls Try.prog 39 #[.slice a l.length cap, .int .i64 (k : Int)] w fun e w' => e = .returned (.int .i64 ((k + l.length : Nat) : Int)) ∧ OwnB w' base (.slice a l.length cap) (marks k l.length) ∧ w.grownBy w' (Value.slice a l.length cap).ownBlock ∧ w'.heap.size = w.heap.size := by
  go_enter Try.func39, Try.ntmps39
  go_wp2
  go_loopw [1, 5] (fun s i wr => ∃ j : Nat, j ≤ l.length ∧ i = .int .i64 j ∧ s = .int .i64 ((k + j : Nat) : Int) ∧ OwnB wr base (.slice a l.length cap) (marked k l j) ∧ w.grownBy wr (Value.slice a l.length cap).ownBlock ∧ wr.heap.size = w.heap.size) (fun _ i _ => l.length - (intOf i).toNat)
  case atStart => exact ⟨0, Nat.zero_le _, rfl, rfl, by rw [marked_zero]; exact hown, grown_refl _ _, rfl⟩
  case round =>
    obtain ⟨j, hj, rfl, rfl, hown', hg, hsz⟩ := hrel
    clear hown
    by_cases hlt : j < l.length
    · have hml := marked_length k l j hj
      obtain ⟨b, off, rfl, hc⟩ := hown'.row (by omega)
      have hg0 : off = 0 := by
        rcases hown'.2 with ⟨h, _⟩ | ⟨g, c, cur, h, _⟩
        · simp at h
        · simp at h; exact h.1.2
      subst hg0
      have hcell := hown'.cellAt j (by omega)
      have hfz := hown'.frozenAt j
      have hst := hown'.store j ((k + j) % 256)
      rw [marked_set k l j hlt] at hst
      have HX : Hid (OwnB (wr.setCell ⟨b, j, none⟩ (bv ((k + j) % 256))) base (.slice (some ⟨b, 0, none⟩) l.length cap) (marked k l (j + 1)) ∧ w.grownBy (wr.setCell ⟨b, j, none⟩ (bv ((k + j) % 256))) (some b) ∧ (wr.setCell ⟨b, j, none⟩ (bv ((k + j) % 256))).heap.size = w.heap.size) := ⟨hst.1, grown_trans hg hst.2, by rw [← hsz]; simp⟩
      generalize (marked k l j)[j]'(by omega) = y at hcell
      clear hst hown' hg hc hml hsz
      rw [bv_mark] at HX
      go_wp2
      go_roundw
      case rel => exact ⟨j + 1, by omega, by go_num, val_int (by omega), HX.out.1, HX.out.2.1, HX.out.2.2⟩
      case measure => simp [intOf]; omega
    · obtain rfl : j = l.length := by omega
      rw [marked_len] at hown'
      go_wp2
      go_ret
      exact ⟨rfl, hown', hg, hsz⟩
theorem heldByteS_any (a : Option Addr) (cap k n : Nat) (w : World) (hk : k ≤ 4503599627370496) (hl : n ≤ 4503599627370496) (hr : RowAt w a (marks k n)) :
    Calls Try.prog 40 #[.slice a n cap, .int .i64 (k : Int)] w fun e w' => e = .returned (.int .i64 ((k + n : Nat) : Int)) ∧ w' = w := by
  go_enter Try.func40, Try.ntmps40
  go_wp2
  go_loop [1, 5] (fun s i => ∃ j : Nat, j ≤ n ∧ i = .int .i64 j ∧ s = .int .i64 ((k + j : Nat) : Int)) (fun _ i => n - (intOf i).toNat)
  case atStart => exact ⟨0, Nat.zero_le _, rfl, rfl⟩
  case round =>
    obtain ⟨j, hj, rfl, rfl⟩ := hrel
    by_cases hlt : j < n
    · have hml := marks_length k n
      obtain ⟨b, off, rfl, hc⟩ := hr (by omega)
      have hcell := hc j (by omega)
      rw [marks_at k n j (by omega)] at hcell
      have e : (((k + j) % 256 : Nat) : Int) = ((k : Int) + (j : Int)) % 256 := by omega
      rw [e] at hcell
      have hne : ((((k : Int) + (j : Int)) % 256) != (((k : Int) + (j : Int)) % 256)) = false := by simp
      clear hc hr hml e
      go_wp2
      go_round
      case rel => exact ⟨j + 1, by omega, by go_num, val_int (by omega)⟩
      case measure => simp [intOf]; omega
    · obtain rfl : j = n := by omega
      go_wp2
      go_ret
      exact ⟨rfl, rfl⟩
end Go.Proofs.Ytledlicandlekab
namespace Go.Proofs.Ytledlicandlekab
open Go.RowKit
theorem eqContent_any (a a' : Option Addr) (cap cap' : Nat) (f : Bool) (l : List Nat) (w : World) (hl : l.length ≤ 9223372036854775807) (hr : RowAt w a l) (hr' : RowAt w a' l) :
    Calls Try.prog 9 #[.agg #[.bool f, .slice a l.length cap], .agg #[.bool f, .slice a' l.length cap']] w fun e w' => e = .returned (.bool true) ∧ Below w.heap.size w w' := by
  have hb1 : Below w.heap.size w ((w.alloc (.cells #[.bool f, .slice a l.length cap] 30)).alloc (.cells #[.bool f, .slice a' l.length cap'] 30)) := ((Below.refl _ _).alloc (Nat.le_refl _) _).alloc (by simp) _
  have h1 := hr.below hb1
  have h2 := hr'.below hb1
  have hne : (f != f) = false := by simp
  go_enter Try.func9, Try.ntmps9
  go_wp2_with fail
  refine (eqByteS_any a a' cap cap' l l _ hl h1 h2).mono ?_
  rintro e w2 ⟨rfl, n2, rfl⟩
  rw [decide_eq_true (rfl : l = l)]
  go_wp2
  go_ret
  exact ⟨rfl, below_drewN hb1 _⟩
theorem markContent_any (base hi k : Nat) (a : Option Addr) (cap : Nat) (f : Bool) (l : List Nat) (w : World) (hk : k ≤ 4503599627370496) (hl : l.length ≤ 4503599627370496) (hown : OwnB w base (.slice a l.length cap) l) (hin : ∀ j, (Value.slice a l.length cap).ownBlock = some j → j < hi) :
    Calls Try.prog 12 #[.agg #[.bool f, .slice a l.length cap], .int .i64 (k : Int)] w fun e w' => e = .returned (.int .i64 ((k + l.length : Nat) : Int)) ∧ OwnB w' base (.slice a l.length cap) (marks k l.length) ∧ Out base hi w w' := by
  have hb1 : Below w.heap.size w (w.alloc (.cells #[.bool f, .slice a l.length cap] 30)) := (Below.refl _ _).alloc (Nat.le_refl _) _
  have HLT := hide (fun j hj => And.intro (World.ownsRow.lt hown j hj).1 (hin j hj))
  clear hin
  go_enter Try.func12, Try.ntmps12
  go_wp2_with fail
  refine (markByteS_any base a cap k l _ hk hl (hown.below hb1 (Nat.le_refl _))).mono ?_
  rintro e w2 ⟨rfl, o2, t2, _⟩
  go_wp2
  go_ret
  exact ⟨rfl, o2, (Out.of_below hb1).trans (Out.of_grown t2 (fun j hj => HLT.out j hj))⟩
theorem heldContent_any (a : Option Addr) (cap k n : Nat) (f : Bool) (w : World) (hk : k ≤ 4503599627370496) (hl : n ≤ 4503599627370496) (hr : RowAt w a (marks k n)) :
    Calls Try.prog 13 #[.agg #[.bool f, .slice a n cap], .int .i64 (k : Int)] w fun e w' => e = .returned (.int .i64 ((k + n : Nat) : Int)) ∧ Below w.heap.size w w' := by
  have hb1 : Below w.heap.size w (w.alloc (.cells #[.bool f, .slice a n cap] 30)) := (Below.refl _ _).alloc (Nat.le_refl _) _
  have h1 := hr.below hb1
  have hpos : ¬ (((k + n : Nat) : Int)) < 0 := by omega
  go_enter Try.func13, Try.ntmps13
  go_wp2_with fail
  refine (heldByteS_any a cap k n _ hk hl h1).mono ?_
  rintro e w2 ⟨rfl, rfl⟩
  generalize hz : ((k + n : Nat) : Int) = z at hpos ⊢
  have HZ := hide hz
  clear hz
  go_wp2
  go_ret
  exact ⟨by rw [HZ.out]; rfl, hb1⟩
end Go.Proofs.Ytledlicandlekab
namespace Go.Proofs.Ytledlicandlekab
open Go.RowKit
theorem drewn_below {w w1 : World} {n : Nat} (h : w1 = w.drewN n) : Below w.heap.size w w1 := by rw [h]; exact below_drewN (Below.refl _ _) n
theorem below_new (w : World) (o : Obj) : Below w.heap.size w (w.alloc o) := (Below.refl _ _).alloc (Nat.le_refl _) _
theorem Laid.out {lo hi : Nat} {w w' : World} {g : Nat} {cs : Array Value} {t : TypeId} (h : Laid w g cs t) (ho : Out lo hi w w') (hg : g < lo ∨ hi ≤ g) : Laid w' g cs t := (ho.block g h.lt hg).trans h
set_option maxRecDepth 20000 in
set_option maxHeartbeats 1000000 in
theorem read_law {w : World} {v : Value} {D : MDisk} (nm : ByteArray) (h : InDisk w v D) :
    Calls Try.prog 3 #[v, .string nm] w fun e w' => e = .returned (.bool true) ∧ Below w.heap.size w w' := by
  have HSZ := hide (fun w' (hb : Below w.heap.size w w') => szDisk_v (h.below hb))
  have HAT := hide (fun w' (hb : Below w.heap.size w w') => h.at_.below hb)
  have HWF := hide h.wf
  obtain ⟨a1, m1, c1, a2, m2, c2, a3, m3, c3, a4, m4, c4, q, hv⟩ := h.shape
  clear h
  subst hv
  have hA := (Below.refl w.heap.size w).alloc (Nat.le_refl _) (.cells #[.slice a1 m1 c1, .slice a2 m2 c2, .slice a3 m3 c3, .slice a4 m4 c4, .int .i64 q] 26)
  have L0 := Laid.new w #[.slice a1 m1 c1, .slice a2 m2 c2, .slice a3 m3 c3, .slice a4 m4 c4, .int .i64 q] 26
  by_cases hnm : 1048576 < nm.size
  · have hnmi : (1048576 : Int) < (nm.size : Int) := by omega
    go_enter Try.func3, Try.ntmps3
    go_wp2
    go_ret
    exact ⟨rfl, hA⟩
  have hnmi : ¬ (1048576 : Int) < (nm.size : Int) := by omega
  go_enter Try.func3, Try.ntmps3
  go_wp2_with fail
  generalize w.alloc (.cells #[.slice a1 m1 c1, .slice a2 m2 c2, .slice a3 m3 c3, .slice a4 m4 c4, .int .i64 q] 26) = w0 at hA L0 ⊢
  refine (HSZ.out w0 hA).mono ?_
  rintro e w1 ⟨rfl, hb1⟩
  have HB1 := hide (hA.trans (hb1.mono hA.size))
  have L1 := L0.below hb1 L0.lt
  have t0 : w1.cell? ⟨w.heap.size, 0, none⟩ = some (.slice a1 m1 c1) := L1.cell 0
  have t1 : w1.cell? ⟨w.heap.size, 1, none⟩ = some (.slice a2 m2 c2) := L1.cell 1
  have t2 : w1.cell? ⟨w.heap.size, 2, none⟩ = some (.slice a3 m3 c3) := L1.cell 2
  have t3 : w1.cell? ⟨w.heap.size, 3, none⟩ = some (.slice a4 m4 c4) := L1.cell 3
  have t4 : w1.cell? ⟨w.heap.size, 4, none⟩ = some (.int .i64 q) := L1.cell 4
  clear L0 hA hb1
  by_cases hbig : 1048576 < szOf D
  · rw [szRest_neg hbig]
    go_wp2
    go_ret
    exact ⟨rfl, HB1.out⟩
  have hsm : szOf D ≤ 1048576 := by omega
  have HM := hide (modest_of hsm)
  have HNS := hide (nodes_small hsm)
  rw [szRest_pos hsm]
  have hpos : ¬ ((1048576 : Nat) : Int) - (szOf D : Int) < 0 := by omega
  generalize ((1048576 : Nat) : Int) - (szOf D : Int) = rest at hpos ⊢
  have HTO := hide (fun (X : World) (hX : Below w.heap.size w X) => toDisk_any _ D X HM.out.n1 HM.out.n2 HM.out.n3 HM.out.n4 HNS.out (HAT.out X hX))
  have HSR := hide (fun (x : Value) (X : World) (hx : DiskAt X x D) => specRead_any x D nm X HM.out hx)
  have HIR := hide (fun (x : Value) (X : World) (hx : DiskAt X x D) => implRead_any x D nm X HM.out HWF.out hx)
  have HEQ := hide (fun (x y : Value) (X : World) (hx : DiskAt X x D) (hy : DiskAt X y D) => eqDisk_same x y D X HM.out.n1 HM.out.n2 HM.out.n3 HM.out.n4 HNS.out hx hy)
  have hrl : (rdOf D nm).2.length ≤ 1048576 := by
    by_cases hvd : ValidD D
    · rw [rdOf_yes hvd]; exact readD_len HM.out
    · rw [rdOf_no hvd]; simp
  generalize rdOf D nm = R at HSR HIR hrl
  obtain ⟨f, l⟩ := R
  unfold ReadPost at HSR HIR
  simp only at HSR HIR hrl
  clear hbig hsm HSZ HAT HWF HNS
  go_wp2_with fail
  refine (HTO.out w1 HB1.out).mono ?_
  rintro e w2 ⟨x, rfl, ho2, hb2⟩
  have L2 := L1.below hb2 L1.lt
  have HB2 := hide (HB1.out.trans (hb2.mono HB1.out.size))
  have HD2 := hide ho2.at
  clear ho2 hb2 t0 t1 t2 t3 t4 L1
  go_wp2_with fail
  refine (HSR.out x w2 HD2.out).mono ?_
  rintro e w3 ⟨v3, rfl, ho3, hb3⟩
  obtain ⟨a5, c5, rfl⟩ := ho3.slice
  have L3 := L2.below hb3 L2.lt
  have HB3 := hide (HB2.out.trans (hb3.mono HB2.out.size))
  clear L2 hb3 HD2
  have n4 := below_new w3 (.cells #[.bool f, .slice a5 l.length c5] 30)
  have S4 := Laid.new w3 #[.bool f, .slice a5 l.length c5] 30
  have L4 := L3.below n4 L3.lt
  have o4 := ho3.below n4 (Nat.le_refl _)
  have HB4 := hide (HB3.out.trans (n4.mono HB3.out.size))
  have s4 := n4.size
  have hz4 : (w3.alloc (.cells #[.bool f, .slice a5 l.length c5] 30)).heap.size = w3.heap.size + 1 := World.size_alloc ..
  generalize hW4 : w3.alloc (.cells #[.bool f, .slice a5 l.length c5] 30) = w4 at n4 S4 L4 o4 HB4 s4 hz4
  have t0 : w4.cell? ⟨w.heap.size, 0, none⟩ = some (.slice a1 m1 c1) := L4.cell 0
  have t1 : w4.cell? ⟨w.heap.size, 1, none⟩ = some (.slice a2 m2 c2) := L4.cell 1
  have t2 : w4.cell? ⟨w.heap.size, 2, none⟩ = some (.slice a3 m3 c3) := L4.cell 2
  have t3 : w4.cell? ⟨w.heap.size, 3, none⟩ = some (.slice a4 m4 c4) := L4.cell 3
  have t4 : w4.cell? ⟨w.heap.size, 4, none⟩ = some (.int .i64 q) := L4.cell 4
  go_wp2_with fail
  have H4 := hide (fun (W : World) (hW : Below w4.heap.size w4 W) => And.intro (S4.below hW (by omega)) (And.intro (L4.below hW (by have := L4.lt; omega)) (o4.below hW (Nat.le_refl _))))
  refine (HTO.out w4 HB4.out).mono ?_
  rintro e w5 ⟨x5, rfl, ho5, hb5⟩
  have L5 := L4.below hb5 L4.lt
  have S5 := S4.below hb5 S4.lt
  have o5 := o4.below hb5 (Nat.le_refl _)
  have HB5 := hide (HB4.out.trans (hb5.mono HB4.out.size))
  have X5 := ho5.at
  have R5 := ownD_raw ho5 HM.out
  have s5 := hb5.size
  have C5 := hide hb5
  obtain ⟨e1, k1, d1, e2, k2, d2, e3, k3, d3, e4, k4, d4, q4, hx5⟩ := ho5.at.shape
  subst hx5
  clear ho5 hb5 t0 t1 t2 t3 t4 L4 S4 o4 n4 hW4
  have n6 := below_new w5 (.cells #[.slice e1 k1 d1, .slice e2 k2 d2, .slice e3 k3 d3, .slice e4 k4 d4, .int .i64 q4] 36)
  have B6 := Laid.new w5 #[.slice e1 k1 d1, .slice e2 k2 d2, .slice e3 k3 d3, .slice e4 k4 d4, .int .i64 q4] 36
  have L6 := L5.below n6 L5.lt
  have S6 := S5.below n6 S5.lt
  have o6 := o5.below n6 (Nat.le_refl _)
  have X6 := X5.below n6
  have R6 := R5.below n6
  have C6 := hide (C5.out.trans (n6.mono C5.out.size))
  have HB6 := hide (HB5.out.trans (n6.mono HB5.out.size))
  have hz6 : (w5.alloc (.cells #[.slice e1 k1 d1, .slice e2 k2 d2, .slice e3 k3 d3, .slice e4 k4 d4, .int .i64 q4] 36)).heap.size = w5.heap.size + 1 := World.size_alloc ..
  generalize hW6 : w5.alloc (.cells #[.slice e1 k1 d1, .slice e2 k2 d2, .slice e3 k3 d3, .slice e4 k4 d4, .int .i64 q4] 36) = w6 at n6 B6 L6 S6 o6 X6 R6 HB6 hz6 C6
  clear L5 S5 o5 X5 R5
  have b0 : w6.cell? ⟨w5.heap.size, 0, none⟩ = some (.slice e1 k1 d1) := B6.cell 0
  have b1 : w6.cell? ⟨w5.heap.size, 1, none⟩ = some (.slice e2 k2 d2) := B6.cell 1
  have b2 : w6.cell? ⟨w5.heap.size, 2, none⟩ = some (.slice e3 k3 d3) := B6.cell 2
  have b3 : w6.cell? ⟨w5.heap.size, 3, none⟩ = some (.slice e4 k4 d4) := B6.cell 3
  have b4 : w6.cell? ⟨w5.heap.size, 4, none⟩ = some (.int .i64 q4) := B6.cell 4
  go_wp2_with fail
  refine (HIR.out _ w6 X6).mono ?_
  rintro e w7 ⟨v7, rfl, ho7, hb7⟩
  obtain ⟨a7, c7, rfl⟩ := ho7.slice
  have L7 := L6.below hb7 L6.lt
  have S7 := S6.below hb7 S6.lt
  have o7 := o6.below hb7 (Nat.le_refl _)
  have X7 := X6.below hb7
  have R7 := R6.below hb7
  have B7 := B6.below hb7 B6.lt
  have HB7 := hide (HB6.out.trans (hb7.mono HB6.out.size))
  have s7 := hb7.size
  have C7 := hide (C6.out.trans (hb7.mono C6.out.size))
  have HIN := hide (fun j hj => (World.ownsRow.lt ho7 j hj).2)
  clear hb7 L6 S6 o6 X6 R6 B6 n6 hW6 b0 b1 b2 b3 b4
  have n8 := below_new w7 (.cells #[.bool f, .slice a7 l.length c7] 30)
  have G8 := Laid.new w7 #[.bool f, .slice a7 l.length c7] 30
  have L8 := L7.below n8 L7.lt
  have S8 := S7.below n8 S7.lt
  have o8 := o7.below n8 (Nat.le_refl _)
  have X8 := X7.below n8
  have R8 := R7.below n8
  have B8 := B7.below n8 B7.lt
  have g8 := ho7.below n8 (Nat.le_refl _)
  have C8 := hide (C7.out.trans (n8.mono C7.out.size))
  have HB8 := hide (HB7.out.trans (n8.mono HB7.out.size))
  have hz8 : (w7.alloc (.cells #[.bool f, .slice a7 l.length c7] 30)).heap.size = w7.heap.size + 1 := World.size_alloc ..
  generalize hW8 : w7.alloc (.cells #[.bool f, .slice a7 l.length c7] 30) = w8 at n8 G8 L8 S8 o8 X8 R8 B8 g8 HB8 hz8 C8
  clear L7 S7 o7 X7 R7 B7 ho7
  have u0 : w8.cell? ⟨w3.heap.size, 0, none⟩ = some (.bool f) := S8.cell 0
  have u1 : w8.cell? ⟨w3.heap.size, 1, none⟩ = some (.slice a5 l.length c5) := S8.cell 1
  have v0 : w8.cell? ⟨w7.heap.size, 0, none⟩ = some (.bool f) := G8.cell 0
  have v1 : w8.cell? ⟨w7.heap.size, 1, none⟩ = some (.slice a7 l.length c7) := G8.cell 1
  go_wp2_with fail
  refine (eqContent_any a7 a5 c7 c5 f l w8 (by omega) g8.row o8.row).mono ?_
  rintro e w9 ⟨rfl, hb9⟩
  have L9 := L8.below hb9 L8.lt
  have S9 := S8.below hb9 S8.lt
  have o9 := o8.below hb9 (Nat.le_refl _)
  have X9 := X8.below hb9
  have R9 := R8.below hb9
  have B9 := B8.below hb9 B8.lt
  have G9 := G8.below hb9 G8.lt
  have g9 := g8.below hb9 (Nat.le_refl _)
  have HB9 := hide (HB8.out.trans (hb9.mono HB8.out.size))
  have s9 := hb9.size
  have C9 := hide (C8.out.trans (hb9.mono C8.out.size))
  clear hb9 L8 S8 o8 X8 R8 B8 G8 g8 n8 hW8 u0 u1 v0 v1
  have t0 : w9.cell? ⟨w.heap.size, 0, none⟩ = some (.slice a1 m1 c1) := L9.cell 0
  have t1 : w9.cell? ⟨w.heap.size, 1, none⟩ = some (.slice a2 m2 c2) := L9.cell 1
  have t2 : w9.cell? ⟨w.heap.size, 2, none⟩ = some (.slice a3 m3 c3) := L9.cell 2
  have t3 : w9.cell? ⟨w.heap.size, 3, none⟩ = some (.slice a4 m4 c4) := L9.cell 3
  have t4 : w9.cell? ⟨w.heap.size, 4, none⟩ = some (.int .i64 q) := L9.cell 4
  have b0 : w9.cell? ⟨w5.heap.size, 0, none⟩ = some (.slice e1 k1 d1) := B9.cell 0
  have b1 : w9.cell? ⟨w5.heap.size, 1, none⟩ = some (.slice e2 k2 d2) := B9.cell 1
  have b2 : w9.cell? ⟨w5.heap.size, 2, none⟩ = some (.slice e3 k3 d3) := B9.cell 2
  have b3 : w9.cell? ⟨w5.heap.size, 3, none⟩ = some (.slice e4 k4 d4) := B9.cell 3
  have b4 : w9.cell? ⟨w5.heap.size, 4, none⟩ = some (.int .i64 q4) := B9.cell 4
  go_wp2
  have HTD := hide (fun (X : World) (hX : Below w9.heap.size w9 X) => HTO.out X (HB9.out.trans (hX.mono HB9.out.size)))
  have HX9 := hide X9
  have HKP := hide (And.intro R9 (And.intro B9 (And.intro G9 g9)))
  clear L9 S9 o9 X9 R9 B9 G9 g9
  go_region_with (first
    | (go_at_call 7; refine (HTD.out _ (Below.refl _ _).drew).mono ?_; rintro e w10 ⟨x10, rfl, ho10, hb10⟩; have z0 : w10.cell? ⟨w5.heap.size, 0, none⟩ = some (.slice e1 k1 d1) := (hb10.cell (p := ⟨w5.heap.size, 0, none⟩) (lt_of_cell0 b0)).trans b0; have z1 : w10.cell? ⟨w5.heap.size, 1, none⟩ = some (.slice e2 k2 d2) := (hb10.cell (p := ⟨w5.heap.size, 1, none⟩) (lt_of_cell0 b1)).trans b1; have z2 : w10.cell? ⟨w5.heap.size, 2, none⟩ = some (.slice e3 k3 d3) := (hb10.cell (p := ⟨w5.heap.size, 2, none⟩) (lt_of_cell0 b2)).trans b2; have z3 : w10.cell? ⟨w5.heap.size, 3, none⟩ = some (.slice e4 k4 d4) := (hb10.cell (p := ⟨w5.heap.size, 3, none⟩) (lt_of_cell0 b3)).trans b3; have z4 : w10.cell? ⟨w5.heap.size, 4, none⟩ = some (.int .i64 q4) := (hb10.cell (p := ⟨w5.heap.size, 4, none⟩) (lt_of_cell0 b4)).trans b4; have HB10 := hide (((Below.refl w9.heap.size w9).drew).trans hb10); have HO10 := hide ho10.at; clear ho10 hb10)
    | (go_at_call 10; refine (HEQ.out _ _ w10 (HX9.out.below HB10.out) HO10.out).mono ?_; rintro e w11 ⟨rfl, hb11⟩; have HB11 := hide hb11; clear hb11))
  all_goals
    have hb911 := HB10.out.trans (HB11.out.mono HB10.out.size)
    obtain ⟨R9, B9, G9, g9⟩ := HKP.out
    have R11 := R9.below hb911
    have B11 := B9.below hb911 B9.lt
    have G11 := G9.below hb911 G9.lt
    have g11 := g9.below hb911 (Nat.le_refl _)
    have C11 := hide (C9.out.trans (hb911.mono C9.out.size))
    have hsz11 := hb911.size
    clear R9 B9 G9 g9 HKP HTD HX9 HEQ HB10 HB11 HO10 t0 t1 t2 t3 t4 b0 b1 b2 b3 b4 z0 z1 z2 z3 z4 hb911
    have b0 : w11.cell? ⟨w5.heap.size, 0, none⟩ = some (.slice e1 k1 d1) := B11.cell 0
    have b1 : w11.cell? ⟨w5.heap.size, 1, none⟩ = some (.slice e2 k2 d2) := B11.cell 1
    have b2 : w11.cell? ⟨w5.heap.size, 2, none⟩ = some (.slice e3 k3 d3) := B11.cell 2
    have b3 : w11.cell? ⟨w5.heap.size, 3, none⟩ = some (.slice e4 k4 d4) := B11.cell 3
    have b4 : w11.cell? ⟨w5.heap.size, 4, none⟩ = some (.int .i64 q4) := B11.cell 4
    go_wp2_with fail
    refine (markDisk_raw w4.heap.size w5.heap.size _ w11 (by omega) R11).mono ?_
    rintro e w12 ⟨⟨kk, rfl⟩, ho12⟩
    have C12 := hide (C11.out.trans (ho12.below (Nat.le_refl _) C11.out.size))
    obtain ⟨S12, L12, o12⟩ := H4.out w12 C12.out
    have G12 := G11.out ho12 (.inr (by omega))
    have g12 := g11.out ho12 (by omega)
    have hkk : ¬ ((kk : Nat) : Int) < 0 := by omega
    have hsz12 := ho12.size
    clear R11 B11 G11 g11 ho12 C11 b0 b1 b2 b3 b4
    have u0 : w12.cell? ⟨w3.heap.size, 0, none⟩ = some (.bool f) := S12.cell 0
    have u1 : w12.cell? ⟨w3.heap.size, 1, none⟩ = some (.slice a5 l.length c5) := S12.cell 1
    have v0 : w12.cell? ⟨w7.heap.size, 0, none⟩ = some (.bool f) := G12.cell 0
    have v1 : w12.cell? ⟨w7.heap.size, 1, none⟩ = some (.slice a7 l.length c7) := G12.cell 1
    go_wp2_with fail
    refine (eqContent_any a7 a5 c7 c5 f l w12 (by omega) g12.row o12.row).mono ?_
    rintro e w13 ⟨rfl, hb13⟩
    have C13 := hide (C12.out.trans (hb13.mono C12.out.size))
    have G13 := G12.below hb13 G12.lt
    have g13 := g12.below hb13 (Nat.le_refl _)
    have hsz13 := hb13.size
    clear hb13 C12 S12 L12 o12 G12 g12 u0 u1 v0 v1
    have v0 : w13.cell? ⟨w7.heap.size, 0, none⟩ = some (.bool f) := G13.cell 0
    have v1 : w13.cell? ⟨w7.heap.size, 1, none⟩ = some (.slice a7 l.length c7) := G13.cell 1
    go_wp2_with fail
    refine (markContent_any w6.heap.size w7.heap.size 1 a7 c7 f l w13 (by omega) (by omega) g13 HIN.out).mono ?_
    rintro e w14 ⟨rfl, g14, ho14⟩
    have C14 := hide (C13.out.trans (ho14.below (by omega) (by omega)))
    have G14 := G13.out ho14 (.inr (Nat.le_refl _))
    have hsz14 := ho14.size
    clear ho14 C13 G13 g13 v0 v1
    have v0 : w14.cell? ⟨w7.heap.size, 0, none⟩ = some (.bool f) := G14.cell 0
    have v1 : w14.cell? ⟨w7.heap.size, 1, none⟩ = some (.slice a7 l.length c7) := G14.cell 1
    have gr14 : RowAt w14 a7 (marks 1 l.length) := g14.row
    generalize hML : ((1 + l.length : Nat) : Int) = ML
    have hMLp : ¬ ML < 0 := by omega
    have HML := hide hML
    clear hML g14
    go_wp2_with fail
    refine (heldContent_any a7 c7 1 l.length f w14 (by omega) (by omega) gr14).mono ?_
    rintro e w15 ⟨rfl, hb15⟩
    rw [HML.out]
    have C15 := hide (C14.out.trans (hb15.mono C14.out.size))
    have G15 := G14.below hb15 G14.lt
    have gr15 := gr14.below hb15
    have hsz15 := hb15.size
    have HBB := hide (fun (W : World) (hW : Below w4.heap.size w4 W) => HB4.out.trans (hW.mono HB4.out.size))
    clear hb15 C14 G14 gr14 v0 v1
    obtain ⟨S15, L15, o15⟩ := H4.out w15 C15.out
    have t0 : w15.cell? ⟨w.heap.size, 0, none⟩ = some (.slice a1 m1 c1) := L15.cell 0
    have t1 : w15.cell? ⟨w.heap.size, 1, none⟩ = some (.slice a2 m2 c2) := L15.cell 1
    have t2 : w15.cell? ⟨w.heap.size, 2, none⟩ = some (.slice a3 m3 c3) := L15.cell 2
    have t3 : w15.cell? ⟨w.heap.size, 3, none⟩ = some (.slice a4 m4 c4) := L15.cell 3
    have t4 : w15.cell? ⟨w.heap.size, 4, none⟩ = some (.int .i64 q) := L15.cell 4
    clear S15 L15 o15
    go_wp2_with fail
    refine (HTO.out w15 (HBB.out w15 C15.out)).mono ?_
    rintro e w16 ⟨x16, rfl, ho16, hb16⟩
    have C16 := hide (C15.out.trans (hb16.mono C15.out.size))
    have G16 := G15.below hb16 G15.lt
    have gr16 := gr15.below hb16
    have X16 := ho16.at
    have hsz16 := hb16.size
    clear hb16 C15 G15 gr15 ho16 t0 t1 t2 t3 t4
    go_wp2_with fail
    refine (HIR.out _ w16 X16).mono ?_
    rintro e w17 ⟨v17, rfl, ho17, hb17⟩
    obtain ⟨a17, c17, rfl⟩ := ho17.slice
    have C17 := hide (C16.out.trans (hb17.mono C16.out.size))
    have G17 := G16.below hb17 G16.lt
    have gr17 := gr16.below hb17
    have hsz17 := hb17.size
    clear hb17 C16 G16 gr16 X16
    have n18 := below_new w17 (.cells #[.bool f, .slice a17 l.length c17] 30)
    have K18 := Laid.new w17 #[.bool f, .slice a17 l.length c17] 30
    have C18 := hide (C17.out.trans (n18.mono C17.out.size))
    have G18 := G17.below n18 G17.lt
    have gr18 := gr17.below n18
    have h18 := ho17.below n18 (Nat.le_refl _)
    have hz18 : (w17.alloc (.cells #[.bool f, .slice a17 l.length c17] 30)).heap.size = w17.heap.size + 1 := World.size_alloc ..
    generalize hW18 : w17.alloc (.cells #[.bool f, .slice a17 l.length c17] 30) = w18 at n18 K18 C18 G18 gr18 h18 hz18
    clear C17 G17 gr17 ho17 n18
    obtain ⟨S18, L18, o18⟩ := H4.out w18 C18.out
    have u0 : w18.cell? ⟨w3.heap.size, 0, none⟩ = some (.bool f) := S18.cell 0
    have u1 : w18.cell? ⟨w3.heap.size, 1, none⟩ = some (.slice a5 l.length c5) := S18.cell 1
    have y0 : w18.cell? ⟨w17.heap.size, 0, none⟩ = some (.bool f) := K18.cell 0
    have y1 : w18.cell? ⟨w17.heap.size, 1, none⟩ = some (.slice a17 l.length c17) := K18.cell 1
    clear S18 L18 K18
    go_wp2_with fail
    refine (eqContent_any a17 a5 c17 c5 f l w18 (by omega) h18.row o18.row).mono ?_
    rintro e w19 ⟨rfl, hb19⟩
    have C19 := hide (C18.out.trans (hb19.mono C18.out.size))
    have G19 := G18.below hb19 G18.lt
    have gr19 := gr18.below hb19
    clear hb19 C18 G18 gr18 h18 o18 u0 u1 y0 y1 hW18
    have v0 : w19.cell? ⟨w7.heap.size, 0, none⟩ = some (.bool f) := G19.cell 0
    have v1 : w19.cell? ⟨w7.heap.size, 1, none⟩ = some (.slice a7 l.length c7) := G19.cell 1
    go_wp2_with fail
    refine (heldContent_any a7 c7 1 l.length f w19 (by omega) (by omega) gr19).mono ?_
    rintro e w20 ⟨rfl, hb20⟩
    rw [HML.out]
    have C20 := hide (C19.out.trans (hb20.mono C19.out.size))
    clear hb20 C19 G19 gr19 v0 v1
    go_wp2
    go_ret
    exact ⟨rfl, HBB.out w20 C20.out⟩
end Go.Proofs.Ytledlicandlekab
namespace Go.Proofs.Ytledlicandlekab.RdRow
open Go.ChangeShapes Go.WideShapes Go.ChangeAt Go.RowKit
set_option linter.unusedVariables false
theorem own : ownKnob Try.prog.godebug = none := by kernel_rfl
theorem laidOut : laidOutB Try.prog = true := by kernel_rfl
set_option maxRecDepth 100000 in
theorem lifted (os : Os) (started : os.Started) (H : Type) (enc : TypeId × Value → H) :
    ReturnsInHanded {} Try.checked os 3 .any (Rows.fnExactDiskReadSpec.pre6 enc Try.prog Try.f3 Rows.fnExactDiskReadRow.domain false) (Rows.fnExactDiskReadSpec.post enc Try.prog Try.f3 false true false false) := by
  refine returnsInHanded_of_change (C := Try.checked) own started (by kernel_rfl) Try.func3
    (ChangeSpec.witness6 (enc := enc) (C := Try.checked) false ⟨#[], #[.agg #[.slice none 0 0, .slice none 0 0, .slice none 0 0, .slice none 0 0, .int .i64 0], .string ⟨#[]⟩], []⟩ 8 (by kernel_rfl) (by kernel_rfl) (by kernel_rfl) (by kernel_rfl)) ?_
  intro W base args ds gs before hval0 hW hcnd _
  have hval : ∀ (j : Nat) t v, Try.f3.params[j]? = some t → args[j]? = some v → Value.okWide Try.prog W .any base t v := hval0
  have hW' := hW
  obtain ⟨p, q, hA0, hV, rfl, hfz, hnd⟩ := hW
  have hA : DataW.TrodAll enc Try.prog W 0 (fun _ => true) true Try.f3.params.toList args.toList ds p := hA0
  rw [Try.params3] at hA hval
  obtain ⟨v0, vs0, d0, ds0, p0, q0, hargs, rfl, rfl, h0, r0⟩ := trodAll_cons hA
  obtain ⟨v1, vs1, d1, ds1, p1, q1, hargs1, rfl, rfl, h1, r1⟩ := trodAll_cons r0
  obtain ⟨rfl, rfl, rfl⟩ := trodAll_nil r1
  obtain rfl : args = #[v0, v1] := by cases args; simp_all
  obtain ⟨rfl, rfl⟩ := trodVars_none hV
  have k0 := h0
  have k1 := h1
  have lt1 : ∀ x ∈ p1, x.block < W.heap.size := by obtain ⟨m, hm⟩ := k1; exact DataW.trod_lt m _ _ _ hm
  obtain ⟨nm, rfl⟩ := okWide_string Try.underlying9 (hval 1 9 v1 rfl rfl)
  have lt0 : ∀ x ∈ p0, x.block < W.heap.size := by obtain ⟨m, hm⟩ := k0; exact DataW.trod_lt m _ _ _ hm
  obtain ⟨D, hD⟩ := disk_open (hval 0 26 v0 rfl rfl) h0
  clear hA0 hval0
  refine (read_law nm hD).mono fun e W' ⟨he, bel⟩ => ?_
  subst he
  exact ⟨_, rfl, _, _, _, [], _, [], hW', trodAll_mk1 (shut_bool Try.underlying4 _), (trodAll_cons_mk (Below.trod laidOut (by kernel_rfl) (of_decide_eq_true (by kernel_rfl)) k0 bel lt0) (trodAll_cons_mk (Below.trod laidOut (by kernel_rfl) (of_decide_eq_true (by kernel_rfl)) k1 bel lt1) trodAll_mk0)), rfl, bel.frame _, fun h => by cases h⟩
theorem over : Rows.fnExactDiskReadRow.holds Try.pinned (OpenSpec.ofChange Rows.fnExactDiskReadSpec) :=
  OpenClaim.holds_of_wide 3 Try.f3 rfl rfl rfl rfl rfl rfl rfl ⟨rfl, rfl, rfl, rfl, rfl⟩ rfl rfl rfl rfl rfl (by kernel_rfl) Try.func3 (by kernel_rfl)
    (of_decide_eq_true (by kernel_rfl)) (by unfold Func.isWrapper; first | (rw [if_pos (by decide +kernel)]; kernel_rfl) | (rw [if_neg (by decide +kernel)]; exact ⟨rfl, rfl⟩))
    (fun os started H enc _ => lifted os started H enc)
end Go.Proofs.Ytledlicandlekab.RdRow
namespace Go.Proofs.Ytledlicandlekab
theorem fnExactDiskRead_holds : Rows.FnExactDiskReadSaid := RdRow.over
end Go.Proofs.Ytledlicandlekab
