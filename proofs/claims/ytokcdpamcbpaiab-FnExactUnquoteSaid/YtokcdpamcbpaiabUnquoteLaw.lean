import Derived.Test.YtokcdpamcbpaiabLawSmall
import Derived.Test.YtokcdpamcbpaiabSpecUnquote
import Derived.Test.YtokcdpamcbpaiabImplUnquote
namespace Go.Proofs.Ytokcdpamcbpaiab
open Go.RowKit
set_option maxHeartbeats 1000000 in
theorem unquote_small (a0 : Option Addr) (cap0 : Nat) (d : List Nat) (w : World) (hd : d.length ≤ 1048576) (hr : RowAt w a0 d) (hb : ∀ x ∈ d, x < 256) :
    Calls Try.prog 3 #[.slice a0 d.length cap0] w fun e w' => e = .returned (.bool true) ∧ Below w.heap.size w w' := by
  have hql := unquote_len d
  have SQ := hide (fun g W (h : TextAt W g 0 d) (hg : g < W.heap.size) => specUnquote_any g 0 d.length d W hd (Nat.le_refl _) h hg hb)
  have IQ := hide (fun g W (h : TextAt W g 0 d) (hg : g < W.heap.size) => implUnquote_any g 0 d.length d W hd (Nat.le_refl _) (by omega) h hg hb)
  generalize unquoteOf d = R at hql SQ IQ
  have hR9 : R.length ≤ 9223372036854775807 := by omega
  have hk0 : ¬ (1 : Int) + d.length < 0 := by omega
  have hk1 : ¬ (1 : Int) + R.length < 0 := by omega
  go_enter Try.func3, Try.ntmps3
  go_wp2_with fail
  refine (toByteS_any a0 cap0 d w hd hr).mono ?_
  rintro e w1 ⟨rfl, ho1, hb1⟩
  have l1 : w.heap.size < w1.heap.size := (World.ownsRow.lt ho1 _ rfl).2
  go_wp2_with fail
  refine (SQ.out _ w1 (text_of_own ho1) l1).mono ?_
  rintro e w2 ⟨v2, rfl, ho2, hb2⟩
  obtain ⟨a2, c2, rfl⟩ := ho2.slice
  have hw2 := below_more hb1 hb2
  go_wp2_with fail
  refine (toByteS_any a0 cap0 d w2 hd (hr.below hw2)).mono ?_
  rintro e w3 ⟨rfl, ho3, hb3⟩
  have l3 : w2.heap.size < w3.heap.size := (World.ownsRow.lt ho3 _ rfl).2
  go_wp2_with fail
  refine (IQ.out _ w3 (text_of_own ho3) l3).mono ?_
  rintro e w4 ⟨v4, rfl, ho4, hb4⟩
  obtain ⟨a4, c4, rfl⟩ := ho4.slice
  have b24 := below_more hb3 hb4
  have hw4 := below_more hw2 b24
  go_wp2_with fail
  refine (eqByteS_any _ _ _ _ R R w4 hR9 ho4.row (ho2.below b24 (Nat.le_refl _)).row).mono ?_
  rintro e w5 ⟨rfl, n5, e5⟩
  have hb5 := drewn_below e5
  clear e5
  rw [decide_eq_true (rfl : R = R)]
  go_wp2_with fail
  have hw5 := below_more hw4 hb5
  refine (toByteS_any a0 cap0 d w5 hd (hr.below hw5)).mono ?_
  rintro e w6 ⟨rfl, ho6, hb6⟩
  go_wp2_with fail
  have b36 := below_more (below_more hb4 hb5) hb6
  refine (eqByteS_any _ _ _ _ d d w6 (by omega) (ho3.below b36 (Nat.le_refl _)).row ho6.row).mono ?_
  rintro e w7 ⟨rfl, n7, e7⟩
  have hb7 := drewn_below e7
  clear e7
  rw [decide_eq_true (rfl : d = d)]
  have b37 := below_more b36 hb7
  have b47 := below_more (below_more hb5 hb6) hb7
  go_wp2_with fail
  refine (markByteS_any w2.heap.size _ _ 1 d w7 (by omega) (by omega) (ho3.below b37 (Nat.le_refl _))).mono ?_
  rintro e w8 ⟨rfl, _, hg8, z8⟩
  have o8 : Out w2.heap.size (w2.heap.size + 1) w7 w8 := Out.of_grown hg8 (fun k h => by simp [Value.ownBlock] at h; omega)
  have b27 := below_more hb3 b37
  have b28 : Below w2.heap.size w2 w8 := b27.trans (o8.below (Nat.le_refl _) b27.size)
  have ho48 : OwnB w8 w3.heap.size (.slice a4 R.length c4) R := (ho4.below b47 (Nat.le_refl _)).out o8 (by omega)
  clear hg8 z8 o8
  go_wp2_with fail
  refine (eqByteS_any _ _ _ _ R R w8 hR9 ho48.row (ho2.below b28 (Nat.le_refl _)).row).mono ?_
  rintro e w9 ⟨rfl, n9, e9⟩
  have hb9 := drewn_below e9
  clear e9
  rw [decide_eq_true (rfl : R = R)]
  have b29 := below_more b28 hb9
  go_wp2_with fail
  refine (markByteS_any w3.heap.size _ _ 1 R w9 (by omega) (by omega) (ho48.below hb9 (Nat.le_refl _))).mono ?_
  rintro e w10 ⟨rfl, ho10, hg10, z10⟩
  have b210 : Below w2.heap.size w2 w10 := b29.grown hg10 b29.size (fun k h => by have := (World.ownsRow.lt ho48 k h).1; omega)
  clear hg10 z10
  have hq0 : (((1 + R.length : Nat) : Int) != ((1 + R.length : Nat) : Int)) = false := by simp
  go_wp2_with fail
  refine (heldByteS_any a4 c4 1 R.length w10 (by omega) (by omega) ho10.row).mono ?_
  rintro e w11 ⟨rfl, rfl⟩
  have hw11 := below_more hw2 b210
  go_wp2_with fail
  refine (toByteS_any a0 cap0 d w11 hd (hr.below hw11)).mono ?_
  rintro e w12 ⟨rfl, ho12, hb12⟩
  have l12 : w11.heap.size < w12.heap.size := (World.ownsRow.lt ho12 _ rfl).2
  go_wp2_with fail
  refine (IQ.out _ w12 (text_of_own ho12) l12).mono ?_
  rintro e w13 ⟨v13, rfl, ho13, hb13⟩
  obtain ⟨a13, c13, rfl⟩ := ho13.slice
  have b1013 := below_more hb12 hb13
  have b213 := below_more b210 b1013
  go_wp2_with fail
  refine (eqByteS_any _ _ _ _ R R w13 hR9 ho13.row (ho2.below b213 (Nat.le_refl _)).row).mono ?_
  rintro e w14 ⟨rfl, n14, e14⟩
  have hb14 := drewn_below e14
  clear e14
  rw [decide_eq_true (rfl : R = R)]
  have b1014 := below_more b1013 hb14
  go_wp2_with fail
  refine (heldByteS_any a4 c4 1 R.length w14 (by omega) (by omega) ((ho10.below b1014 (Nat.le_refl _)).row)).mono ?_
  rintro e w15 ⟨rfl, rfl⟩
  go_wp2
  go_ret
  exact ⟨rfl, below_more hw11 b1014⟩
end Go.Proofs.Ytokcdpamcbpaiab
