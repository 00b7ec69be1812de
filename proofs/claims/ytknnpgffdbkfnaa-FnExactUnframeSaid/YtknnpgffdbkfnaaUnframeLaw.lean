import Derived.Test.YtknnpgffdbkfnaaLogWalks
import Derived.Test.YtknnpgffdbkfnaaSpecUnf2
namespace Go.Proofs.Ytknnpgffdbkfnaa
open Go.RowKit
theorem unfGo_bound (d : List Nat) (f : Nat) (rs : List (List Nat)) (g : Nat) (h1 : rs.length + sumL rs ≤ g) (h2 : g ≤ d.length) : (unfGo d f rs g).1.length + sumL (unfGo d f rs g).1 ≤ d.length := by
  induction f generalizing rs g with
  | zero => simp only [unfGo]; omega
  | succ f ih =>
    simp only [unfGo]
    split
    · simp only; omega
    · next r hr =>
      have hl := firstOf_len hr
      simp at hl
      refine ih _ _ ?_ (by omega)
      rw [List.length_append, sumL_append]
      simp [sumL]
      omega
theorem unf_bound (d : List Nat) : (unfOf d).1.length + sumL (unfOf d).1 ≤ 40000 := by
  unfold unfOf
  split
  · simp [sumL]
  · have := unfGo_bound d d.length [] 0 (by simp [sumL]) (by omega)
    omega
theorem specUnf (b off cap : Nat) (d : List Nat) (w : World) (hcap : d.length ≤ cap) (hr : RowAt w (some ⟨b, off, none⟩) d) (hb : ∀ x ∈ d, x < 256) :
    Calls Try.prog 15 #[.slice (some ⟨b, off, none⟩) d.length cap] w fun e w' => ∃ a c vs, e = .returned (.agg #[.slice a (unfOf d).1.length c, .int .i64 ((unfOf d).2 : Int)]) ∧ OwnBV w' w.heap.size (.slice a (unfOf d).1.length c) vs (unfOf d).1 ∧ Below w.heap.size w w' := by
  have h : Calls Try.prog 15 #[.slice (some ⟨b, off, none⟩) d.length cap] w fun e w' => ∃ v, e = .returned v ∧ LogOf w' w.heap.size v (unfOf d) ∧ Below w.heap.size w w' := by
    by_cases hl : 40000 < d.length
    · exact specUnframe_long b off cap d w hl
    · exact specUnframe_any b off cap d w (by omega) hcap hr hb
  refine h.mono ?_
  rintro e w' ⟨v, rfl, ⟨vr, vs, rfl, ho⟩, hb'⟩
  obtain ⟨a, c, rfl⟩ := ho.slice
  exact ⟨a, c, vs, rfl, ho, hb'⟩
theorem implUnf (b off cap : Nat) (d : List Nat) (w : World) (hcap : d.length ≤ cap) (hcm : cap ≤ 9223372036854775807) (hr : RowAt w (some ⟨b, off, none⟩) d) (hb : ∀ x ∈ d, x < 256) :
    Calls Try.prog 17 #[.slice (some ⟨b, off, none⟩) d.length cap] w fun e w' => ∃ a c vs, e = .returned (.agg #[.slice a (unfOf d).1.length c, .int .i64 ((unfOf d).2 : Int)]) ∧ OwnBV w' w.heap.size (.slice a (unfOf d).1.length c) vs (unfOf d).1 ∧ Below w.heap.size w w' := by
  have h : Calls Try.prog 17 #[.slice (some ⟨b, off, none⟩) d.length cap] w fun e w' => ∃ v, e = .returned v ∧ LogOf w' w.heap.size v (unfOf d) ∧ Below w.heap.size w w' := by
    by_cases hl : 40000 < d.length
    · exact implUnframe_long b off cap d w hl
    · exact implUnframe_any b off cap d w (by omega) hcap hcm hr hb
  refine h.mono ?_
  rintro e w' ⟨v, rfl, ⟨vr, vs, rfl, ho⟩, hb'⟩
  obtain ⟨a, c, rfl⟩ := ho.slice
  exact ⟨a, c, vs, rfl, ho, hb'⟩
theorem below_more {w w1 w2 : World} (h : Below w.heap.size w w1) (k : Below w1.heap.size w1 w2) : Below w.heap.size w w2 := h.trans (k.mono h.size)
theorem drewn_below {w w1 : World} {n : Nat} (h : w1 = w.drewN n) : Below w.heap.size w w1 := by rw [h]; exact below_drewN (Below.refl _ _) n
theorem blk2_new (w : World) (x y : Value) : Blk2 (w.alloc (.cells #[x, y] 32)) w.heap.size x y := heap_alloc_new w _
theorem below_new (w : World) (o : Obj) : Below w.heap.size w (w.alloc o) := (Below.refl _ _).alloc (Nat.le_refl _) _
theorem Blk2.out {lo hi : Nat} {w w' : World} {g : Nat} {x y : Value} (h : Blk2 w g x y) (ho : Out lo hi w w') (hg : hi ≤ g) : Blk2 w' g x y := (ho.block g h.lt (.inr hg)).trans h
theorem OwnBV.out {lo hi base : Nat} {w w' : World} {v : Value} {vs : List Value} {ls : List (List Nat)} (h : OwnBV w base v vs ls) (ho : Out lo hi w w') (hb : hi ≤ base) : OwnBV w' base v vs ls := by
  obtain ⟨h1, h2, h3⟩ := h
  have hk : ∀ g, base ≤ g → g < w.heap.size → w'.heap[g]? = w.heap[g]? := fun g hg hs => ho.block g hs (.inr (by omega))
  refine ⟨own_keep h1 hk, fun i hi => ?_, h3⟩
  obtain ⟨x, hx, ho⟩ := h2 i hi
  exact ⟨x, hx, own_keep ho hk⟩
theorem marks_fit {w : World} {lo k : Nat} {a : Option Addr} {cap : Nat} {vs : List Value} {ls : List (List Nat)} (h : OwnBV w lo (.slice a ls.length cap) vs (marksS k ls)) : OwnBV w lo (.slice a (marksS k ls).length cap) vs (marksS k ls) := by rw [marksS_length]; exact h
set_option maxHeartbeats 1000000 in
theorem unframe_small (a0 : Option Addr) (cap0 : Nat) (d : List Nat) (w : World) (hd : d.length ≤ 1048576) (hr : RowAt w a0 d) (hb : ∀ x ∈ d, x < 256) :
    Calls Try.prog 4 #[.slice a0 d.length cap0] w fun e w' => e = .returned (.bool true) ∧ Below w.heap.size w w' := by
  have hbd := unf_bound d
  have SU := @specUnf
  have IU := @implUnf
  have SU' := hide (fun b w hr => specUnf b 0 d.length d w (Nat.le_refl _) hr hb)
  have IU' := hide (fun b w hr => implUnf b 0 d.length d w (Nat.le_refl _) (by omega) hr hb)
  clear SU IU
  generalize unfOf d = L at hbd SU' IU'
  obtain ⟨ls, g⟩ := L
  simp only at hbd SU' IU'
  have hl9 : ls.length ≤ 9223372036854775807 := by omega
  have hls9 : ∀ l ∈ ls, l.length ≤ 9223372036854775807 := fun l h => by have := len_le_sum ls l h; omega
  have hk0 : ¬ (1 : Int) + d.length < 0 := by omega
  go_enter Try.func4, Try.ntmps4
  go_wp2_with fail
  refine (toByteS_any a0 cap0 d w hd hr).mono ?_
  rintro e w1 ⟨rfl, ho1, hb1⟩
  go_wp2_with fail
  refine (unhide SU' _ w1 ho1.row).mono ?_
  rintro e w2 ⟨a2, c2, vs2, rfl, ho2, hb2⟩
  go_wp2_with fail
  have q2 := blk2_new w2 (.slice a2 ls.length c2) (.int .i64 (g : Int))
  have n2 := below_new w2 (.cells #[.slice a2 ls.length c2, .int .i64 (g : Int)] 32)
  generalize w2.alloc (.cells #[.slice a2 ls.length c2, .int .i64 (g : Int)] 32) = W2 at q2 n2 ⊢
  have hw2 := below_more (below_more hb1 hb2) n2
  have s2 := n2.size
  refine (toByteS_any a0 cap0 d W2 hd (hr.below hw2)).mono ?_
  rintro e w3 ⟨rfl, ho3, hb3⟩
  have hw3 := below_more hw2 hb3
  have s3 := hb3.size
  go_wp2_with fail
  refine (unhide IU' _ w3 ho3.row).mono ?_
  rintro e w4 ⟨a4, c4, vs4, rfl, ho4, hb4⟩
  have hw4 := below_more hw3 hb4
  have s4 := hb4.size
  have q24 : Blk2 w4 w2.heap.size (.slice a2 ls.length c2) (.int .i64 (g : Int)) := (q2.below (below_more hb3 hb4) q2.lt)
  have c20 := q24.c0
  have c21 := q24.c1
  have l24 := q24.lt
  go_wp2_with fail
  have q4 := blk2_new w4 (.slice a4 ls.length c4) (.int .i64 (g : Int))
  have n4 := below_new w4 (.cells #[.slice a4 ls.length c4, .int .i64 (g : Int)] 32)
  generalize w4.alloc (.cells #[.slice a4 ls.length c4, .int .i64 (g : Int)] 32) = W4 at q4 n4 ⊢
  clear c20 c21
  have hw44 := below_more hw4 n4
  have k2 := below_more n2 (below_more (below_more hb3 hb4) n4)
  have s44 := n4.size
  refine (eqLog_any a4 a2 c4 c2 g ls W4 hl9 hls9 (OwnBB.rows ⟨vs4, ho4.below n4 (Nat.le_refl _)⟩) (OwnBB.rows ⟨vs2, ho2.below k2 (Nat.le_refl _)⟩)).mono ?_
  rintro e w5 ⟨rfl, hb5⟩
  have hw5 := below_more hw44 hb5
  go_wp2_with fail
  refine (toByteS_any a0 cap0 d w5 hd (hr.below hw5)).mono ?_
  rintro e w6 ⟨rfl, ho6, hb6⟩
  have hw6 := below_more hw5 hb6
  have k36 := below_more (below_more (below_more hb4 n4) hb5) hb6
  go_wp2_with fail
  refine (eqByteS_any _ _ _ _ d d w6 (by omega) (ho3.below k36 (Nat.le_refl _)).row ho6.row).mono ?_
  rintro e w7 ⟨rfl, n7, e7⟩
  have hb7 := drewn_below e7
  clear e7
  have hw7 := below_more hw6 hb7
  have k37 := below_more k36 hb7
  rw [decide_eq_true (rfl : d = d)]
  go_wp2_with fail
  have ho7 := ho3.below k37 (Nat.le_refl _)
  refine (markByteS_any W2.heap.size _ _ 1 d w7 (by omega) (by omega) ho7).mono ?_
  rintro e w8 ⟨rfl, _, hg8, z8⟩
  have l3 : W2.heap.size < w3.heap.size := (World.ownsRow.lt ho3 _ rfl).2
  have o8 : Out W2.heap.size (W2.heap.size + 1) w7 w8 := Out.of_grown hg8 (fun k h => by simp [Value.ownBlock] at h; omega)
  have b27 := below_more hb3 k37
  have b28 : Below W2.heap.size W2 w8 := b27.trans (o8.below (Nat.le_refl _) b27.size)
  have b22 := below_more n2 b28
  have b47 := below_more (below_more hb5 hb6) hb7
  have q48 : Blk2 w8 w4.heap.size (.slice a4 ls.length c4) (.int .i64 (g : Int)) := (q4.below b47 q4.lt).out o8 (by omega)
  have q28 : Blk2 w8 w2.heap.size (.slice a2 ls.length c2) (.int .i64 (g : Int)) := q2.below b28 q2.lt
  have r48 : OwnBV w8 w3.heap.size (.slice a4 ls.length c4) vs4 ls := (ho4.below (below_more n4 b47) (Nat.le_refl _)).out o8 (by omega)
  have c0 := q48.c0
  have c1 := q48.c1
  have c2' := q28.c0
  have c3 := q28.c1
  have hw8 := below_more hw2 b28
  clear hg8 z8 o8
  go_wp2_with fail
  refine (eqLog_any a4 a2 c4 c2 g ls w8 hl9 hls9 (OwnBB.rows ⟨vs4, r48⟩) (OwnBB.rows ⟨vs2, ho2.below b22 (Nat.le_refl _)⟩)).mono ?_
  rintro e w9 ⟨rfl, hb9⟩
  clear c0 c1 c2' c3
  have q49 := q48.below hb9 q48.lt
  have c0 := q49.c0
  have c1 := q49.c1
  go_wp2_with fail
  refine (markLog_any w3.heap.size w4.heap.size 1 a4 c4 g ls vs4 w9 (by omega) (by omega) (r48.below hb9 (Nat.le_refl _)) ho4.lt).mono ?_
  rintro e w10 ⟨rfl, r10, o10⟩
  clear c0 c1
  have s8 := b28.size
  have s9 := hb9.size
  have t47 := b47.size
  have b210 : Below W2.heap.size W2 w10 := (below_more b28 hb9).trans (o10.below (by omega) (by omega))
  have b2210 := below_more n2 b210
  have hw10 := below_more hw2 b210
  have q410 := q49.out o10 (Nat.le_refl _)
  have c0 := q410.c0
  have c1 := q410.c1
  clear o10
  go_wp2_with fail
  refine (heldLog_any 1 a4 c4 g ls w10 (by omega) (by omega) (by have h := OwnBB.rows ⟨vs4, marks_fit r10⟩; exact h)).mono ?_
  rintro e w11 ⟨rfl, hb11⟩
  clear c0 c1
  have hw11 := below_more hw10 hb11
  have hq0 : (((1 + sumL ls : Nat) : Int) != ((1 + sumL ls : Nat) : Int)) = false := by simp
  go_wp2_with fail
  refine (toByteS_any a0 cap0 d w11 hd (hr.below hw11)).mono ?_
  rintro e w12 ⟨rfl, ho12, hb12⟩
  go_wp2_with fail
  refine (unhide IU' _ w12 ho12.row).mono ?_
  rintro e w13 ⟨a13, c13, vs13, rfl, ho13, hb13⟩
  have b1013 := below_more (below_more hb11 hb12) hb13
  have b2213 := below_more b2210 b1013
  have q213 : Blk2 w13 w2.heap.size (.slice a2 ls.length c2) (.int .i64 (g : Int)) := q2.below (below_more b210 b1013) q2.lt
  have q413 := q410.below b1013 q410.lt
  have d0 := q213.c0
  have d1 := q213.c1
  have e0 := q413.c0
  have e1 := q413.c1
  have l213 := q213.lt
  have l413 := q413.lt
  go_wp2_with fail
  have q13 := blk2_new w13 (.slice a13 ls.length c13) (.int .i64 (g : Int))
  have n13 := below_new w13 (.cells #[.slice a13 ls.length c13, .int .i64 (g : Int)] 32)
  generalize w13.alloc (.cells #[.slice a13 ls.length c13, .int .i64 (g : Int)] 32) = W13 at q13 n13 ⊢
  clear d0 d1 e0 e1
  have b22W := below_more b2213 n13
  have b10W := below_more b1013 n13
  refine (eqLog_any a13 a2 c13 c2 g ls W13 hl9 hls9 (OwnBB.rows ⟨vs13, ho13.below n13 (Nat.le_refl _)⟩) (OwnBB.rows ⟨vs2, ho2.below b22W (Nat.le_refl _)⟩)).mono ?_
  rintro e w14 ⟨rfl, hb14⟩
  have b1014 := below_more b10W hb14
  have q414 := q410.below b1014 q410.lt
  have c0 := q414.c0
  have c1 := q414.c1
  have hw14 := below_more hw10 b1014
  go_wp2_with fail
  refine (heldLog_any 1 a4 c4 g ls w14 (by omega) (by omega) (by have h := OwnBB.rows ⟨vs4, marks_fit (r10.below b1014 (Nat.le_refl _))⟩; exact h)).mono ?_
  rintro e w15 ⟨rfl, hb15⟩
  go_wp2
  go_ret
  exact ⟨rfl, below_more hw14 hb15⟩
end Go.Proofs.Ytknnpgffdbkfnaa
