import Derived.Test.YtknnpgffdbkfnaaDoorPairMarks
import Derived.Test.YtknnpgffdbkfnaaDoorSpecSet3
import Derived.Test.YtknnpgffdbkfnaaDoorImplSet2
namespace Go.Proofs.YtknnpgffdbkfnaaDoor
open Go.RowKit
theorem setCell_box {w : World} (x y : Value) : BlkQ (w.alloc (.cells #[x, y] 39)) w.heap.size x y := blkQ_new w x y
set_option maxHeartbeats 1000000 in
theorem eqSet_same (b : Bool) (a a' : Option Addr) (n cap cap' : Nat) (es : List (Int × Int)) (w : World) (hn : es.length = n) (hl : es.length ≤ 1048576) (hr : PrAt w a es) (hr' : PrAt w a' es) :
    Calls Tryd.prog 17 #[.agg #[.bool b, .slice a n cap], .agg #[.bool b, .slice a' n cap']] w fun e w' => e = .returned (.bool true) ∧ Below w.heap.size w w' := by
  have hbb : (b != b) = false := by simp
  have hw2 := ((Below.refl w.heap.size w).alloc (Nat.le_refl _) (.cells #[.bool b, .slice a n cap] 39)).alloc (by simp) (.cells #[.bool b, .slice a' n cap'] 39)
  have HQ := hide (fun W (h : Below w.heap.size w W) => eqPairS_same a a' cap cap' es W (by omega) (hr.below h) (hr'.below h))
  rw [hn] at HQ
  have HW2 := hide hw2
  clear hw2 hr hr' hl hn
  go_enter Tryd.func17, Tryd.ntmps17
  go_wp2_with fail
  refine (HQ.out _ HW2.out).mono ?_
  rintro e w3 ⟨rfl, hb3⟩
  have HB3 := hide (HW2.out.trans (hb3.mono HW2.out.size))
  clear hb3
  go_wp2
  go_ret
  exact ⟨rfl, HB3.out⟩
theorem markSet_any (base : Nat) (b : Bool) (a : Option Addr) (n cap k : Nat) (l : List (Int × Int)) (w : World) (hn : l.length = n) (hk : k + 2 * n ≤ 4294967295) (hown : OwnP w base (.slice a n cap) l) :
    Calls Tryd.prog 18 #[.agg #[.bool b, .slice a n cap], .int .i64 (k : Int)] w fun e w' => e = .returned (.int .i64 ((k + 2 * n : Nat) : Int)) ∧ OwnP w' base (.slice a n cap) (marksP k n) ∧ w.grownBy w' (Value.slice a n cap).ownBlock := by
  have hw2 := (Below.refl w.heap.size w).alloc (Nat.le_refl _) (.cells #[.bool b, .slice a n cap] 39)
  have ho2 := hown.below hw2 (Nat.le_refl _)
  subst hn
  have HM := hide (markPairS_any base a cap k l _ hk ho2)
  have HW := hide (show w.grownBy (w.alloc (.cells #[.bool b, .slice a l.length cap] 39)) (Value.slice a l.length cap).ownBlock from ⟨hw2.os, hw2.tape, hw2.output, hw2.size, fun g hg _ => hw2.block g hg⟩)
  clear hw2 ho2 hown
  go_enter Tryd.func18, Tryd.ntmps18
  go_wp2_with fail
  refine HM.out.mono ?_
  rintro e w3 ⟨rfl, ho3, hb3, _⟩
  have HO := hide ho3
  have HB := hide (grown_trans HW.out hb3)
  clear ho3 hb3 HM HW
  generalize hr : ((k + 2 * l.length : Nat) : Int) = r
  have HR := hide hr
  clear hr
  go_wp2
  go_ret
  exact ⟨by rw [HR.out]; rfl, HO.out, HB.out⟩
theorem heldSet_any (b : Bool) (a : Option Addr) (n cap k : Nat) (w : World) (hk : k + 2 * n ≤ 4294967295) (hr : PrAt w a (marksP k n)) :
    Calls Tryd.prog 19 #[.agg #[.bool b, .slice a n cap], .int .i64 (k : Int)] w fun e w' => e = .returned (.int .i64 ((k + 2 * n : Nat) : Int)) ∧ Below w.heap.size w w' := by
  have hw2 := (Below.refl w.heap.size w).alloc (Nat.le_refl _) (.cells #[.bool b, .slice a n cap] 39)
  have HM := hide (heldPairS_any a cap k n _ hk (hr.below hw2))
  have HW := hide hw2
  have hr0 : ¬ ((k + 2 * n : Nat) : Int) < 0 := by omega
  clear hw2 hr
  go_enter Tryd.func19, Tryd.ntmps19
  go_wp2_with fail
  refine HM.out.mono ?_
  rintro e w3 ⟨rfl, rfl⟩
  clear HM
  generalize hr : ((k + 2 * n : Nat) : Int) = r at hr0 ⊢
  have HR := hide hr
  clear hr
  go_wp2
  go_ret
  exact ⟨by rw [HR.out]; rfl, HW.out⟩
set_option maxRecDepth 20000 in
set_option maxHeartbeats 2000000 in
theorem set_small (s : ByteArray) (w : World) (hs : s.size ≤ 1048576) (hE : Env w) :
    Calls Tryd.prog 5 #[.string s] w fun e w' => e = .returned (.bool true) ∧ Below w.heap.size w w' := by
  have hi : ¬ (1048576 : Int) < (s.size : Int) := by omega
  have SL := hide (fun W => specSet_any s W hs)
  have IL := hide (fun W h => implSet_any s W h hs)
  unfold SetPost at SL IL
  have hlen : ((setOf s.data.toList).getD []).length ≤ 50 := by
    unfold setOf
    split
    · next h => simp only [Option.getD_some, List.length_map]; exact h.1
    · simp
  generalize (setOf s.data.toList).isSome = ok at SL IL
  have hlen2 : (((setOf s.data.toList).getD []).map prI).length ≤ 50 := by rw [List.length_map]; exact hlen
  generalize ((setOf s.data.toList).getD []).map prI = es at SL IL hlen2
  have HEN := hide (fun (W : World) (h : Below w.heap.size w W) => hE.below h)
  clear hE hlen
  go_enter Tryd.func5, Tryd.ntmps5
  go_wp2_with fail
  refine (SL.out w).mono ?_
  rintro e w1 ⟨v1, rfl, ho1, hb1⟩
  obtain ⟨a1, c1, rfl⟩ := ho1.slice
  obtain ⟨n, hn⟩ : ∃ n, es.length = n := ⟨_, rfl⟩
  rw [hn] at ho1 ⊢
  have hn50 : n ≤ 50 := by omega
  have hq2 := blkQ_new w1 (.bool ok) (.slice a1 n c1)
  have hb2 := hb1.alloc hb1.size (.cells #[.bool ok, .slice a1 n c1] 39)
  have ho2 := ho1.below ((Below.refl w1.heap.size w1).alloc (Nat.le_refl _) (.cells #[.bool ok, .slice a1 n c1] 39)) (Nat.le_refl _)
  have hz2 : w1.heap.size < (w1.alloc (.cells #[.bool ok, .slice a1 n c1] 39)).heap.size := by rw [World.size_alloc]; omega
  go_wp2_with fail
  generalize w1.alloc (.cells #[.bool ok, .slice a1 n c1] 39) = w2 at hq2 hb2 ho2 hz2 ⊢
  generalize w1.heap.size = g1 at hq2 hz2 ⊢
  refine (IL.out w2 (HEN.out w2 hb2)).mono ?_
  rintro e w3 ⟨v3, rfl, ho3, hb3⟩
  obtain ⟨a3, c3, rfl⟩ := ho3.slice
  rw [hn] at ho3 ⊢
  have hq4 := blkQ_new w3 (.bool ok) (.slice a3 n c3)
  have hal := (Below.refl w3.heap.size w3).alloc (Nat.le_refl _) (.cells #[.bool ok, .slice a3 n c3] 39)
  have hb24 := hb3.trans (hal.mono hb3.size)
  have ho4 := ho3.below hal (Nat.le_refl _)
  have hz4 : w3.heap.size < (w3.alloc (.cells #[.bool ok, .slice a3 n c3] 39)).heap.size := by rw [World.size_alloc]; omega
  have hz3 := hb3.size
  have p40 := hq4.c0
  have p41 := hq4.c1
  have q4 := hq2.below hb24 (by omega)
  have p20 := q4.c0
  have p21 := q4.c1
  have HNE := hide (fun b (h : (Value.slice a3 n c3).ownBlock = some b) => (World.ownsRow.lt ho3 b h).2)
  have H4 := hide ho4
  have H2 := hide ho2
  have HB2 := hide hb2
  have HB24 := hide hb24
  have HQ4 := hide hq4
  have HQ2 := hide hq2
  clear ho4 ho3 ho2 ho1 hb1 hb2 hb3 hb24 hal hq2 hq4 q4
  go_wp2_with fail
  generalize w3.alloc (.cells #[.bool ok, .slice a3 n c3] 39) = w4 at p40 p41 p20 p21 H4 HB24 HQ4 hz4 ⊢
  generalize w3.heap.size = g3 at p40 p41 HQ4 hz4 hz3 HNE ⊢
  refine (eqSet_same ok a3 a1 n c3 c1 es w4 hn (by omega) H4.out.at (H2.out.below HB24.out (Nat.le_refl _)).at).mono ?_
  rintro e w5 ⟨rfl, hb5⟩
  have HB25 := hide (HB24.out.trans (hb5.mono HB24.out.size))
  have ho5 := H4.out.below hb5 (Nat.le_refl _)
  have hq5 := HQ4.out.below hb5 hz4
  have r50 := hq5.c0
  have r51 := hq5.c1
  have HO5 := hide ho5
  have HQ5 := hide hq5
  have hz5 := hb5.size
  clear ho5 hq5 hb5 p40 p41 p20 p21 HB24 H4 HQ4
  go_wp2_with fail
  refine (show Calls _ _ #[_, .int .i64 ((1 : Nat) : Int)] _ _ from markSet_any w2.heap.size ok a3 n c3 1 es w5 hn (by omega) HO5.out).mono ?_
  rintro e w6 ⟨rfl, ho6, hg6⟩
  have hlo6 : ∀ b, (Value.slice a3 n c3).ownBlock = some b → w2.heap.size ≤ b := fun b h => (World.ownsRow.lt HO5.out b h).1
  have hq6 : BlkQ w6 g3 (.bool ok) (.slice a3 n c3) := HQ5.out.grown hg6 (fun e => by have := HNE.out _ e.symm; omega)
  have HB26 := hide (HB25.out.grown hg6 HB25.out.size hlo6)
  have r60 := hq6.c0
  have r61 := hq6.c1
  have HO6 := hide ho6
  have HQ6 := hide hq6
  have hz6 := hg6.size
  obtain ⟨r, hr⟩ : ∃ r : Int, ((1 + 2 * n : Nat) : Int) = r := ⟨_, rfl⟩
  have hr0 : ¬ r < 0 := by omega
  have hrr : (r != r) = false := by simp
  have HH := hide (fun W (h : PrAt W a3 (marksP 1 n)) => heldSet_any ok a3 n c3 1 W (by omega) h)
  rw [hr] at HH ⊢
  clear ho6 hq6 hg6 r50 r51 HB25 HO5 HQ5 hr hlo6 HNE
  go_wp2_with fail
  refine (show Calls _ _ #[_, .int .i64 ((1 : Nat) : Int)] _ _ from HH.out w6 HO6.out.at).mono ?_
  rintro e w7 ⟨rfl, hb7⟩
  have HB27 := hide (HB26.out.trans (hb7.mono HB26.out.size))
  have HO7 := hide (HO6.out.below hb7 (Nat.le_refl _))
  have hz7 := hb7.size
  have HQ7 := hide (HQ6.out.below hb7 (by omega))
  clear hb7 HO6 HQ6 r60 r61 HB26
  go_wp2_with fail
  refine (IL.out w7 (HEN.out w7 (HB2.out.trans (HB27.out.mono HB2.out.size)))).mono ?_
  rintro e w8 ⟨v8, rfl, ho8, hb8⟩
  obtain ⟨a8, c8, rfl⟩ := ho8.slice
  rw [hn] at ho8 ⊢
  have hq9 := blkQ_new w8 (.bool ok) (.slice a8 n c8)
  have hal := (Below.refl w8.heap.size w8).alloc (Nat.le_refl _) (.cells #[.bool ok, .slice a8 n c8] 39)
  have hb79 := hb8.trans (hal.mono hb8.size)
  have HB29 := hide (HB27.out.trans (hb79.mono HB27.out.size))
  have HO9 := hide (HO7.out.below hb79 (Nat.le_refl _))
  have HQ9 := hide (HQ7.out.below hb79 (by omega))
  have H8 := hide (ho8.below hal (Nat.le_refl _))
  have s90 := hq9.c0
  have s91 := hq9.c1
  have q9 := HQ2.out.below HB29.out (by omega)
  have t90 := q9.c0
  have t91 := q9.c1
  have hz8 := hb8.size
  have hz9 : w8.heap.size < (w8.alloc (.cells #[.bool ok, .slice a8 n c8] 39)).heap.size := by rw [World.size_alloc]; omega
  clear ho8 hq9 hal hb79 hb8 HO7 HQ7 HB27 q9
  go_wp2_with fail
  generalize w8.alloc (.cells #[.bool ok, .slice a8 n c8] 39) = w9 at s90 s91 t90 t91 H8 HB29 HO9 HQ9 hz9 ⊢
  refine (eqSet_same ok a8 a1 n c8 c1 es w9 hn (by omega) H8.out.at (H2.out.below HB29.out (Nat.le_refl _)).at).mono ?_
  rintro e w10 ⟨rfl, hb10⟩
  have HB210 := hide (HB29.out.trans (hb10.mono HB29.out.size))
  have HO10 := hide (HO9.out.below hb10 (Nat.le_refl _))
  have hq10 := HQ9.out.below hb10 (by omega)
  have r100 := hq10.c0
  have r101 := hq10.c1
  clear hb10 HO9 HQ9 HB29 s90 s91 t90 t91 H8 hq10
  go_wp2_with fail
  refine (show Calls _ _ #[_, .int .i64 ((1 : Nat) : Int)] _ _ from HH.out w10 HO10.out.at).mono ?_
  rintro e w11 ⟨rfl, hb11⟩
  have HB211 := hide (HB2.out.trans ((HB210.out.trans (hb11.mono HB210.out.size)).mono HB2.out.size))
  clear hb11 HO10 HB210 r100 r101
  go_wp2
  go_ret
  exact ⟨rfl, HB211.out⟩
end Go.Proofs.YtknnpgffdbkfnaaDoor
