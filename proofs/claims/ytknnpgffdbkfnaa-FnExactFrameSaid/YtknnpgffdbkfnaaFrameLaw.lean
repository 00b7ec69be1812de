import Derived.Test.YtknnpgffdbkfnaaImplFrame
import Derived.Test.YtknnpgffdbkfnaaListMarks
import Derived.Test.YtknnpgffdbkfnaaSzLists
namespace Go.Proofs.Ytknnpgffdbkfnaa
open Go.RowKit
theorem frame_big (a : Option Addr) (cap : Nat) (ls : List (List Nat)) (w : World) (hn : ls.length ≤ 9223372036854775807) (hls : ∀ l ∈ ls, l.length ≤ 9223372036854775807) (hr : RowsAt w a ls) (hbig : 1048576 < ls.length + sumL ls) :
    Calls Try.prog 3 #[.slice a ls.length cap] w fun e w' => e = .returned (.bool true) ∧ Below w.heap.size w w' := by
  go_enter Try.func3, Try.ntmps3
  go_wp2_with fail
  refine (szByteSS_any a cap ls w hn hls hr).mono ?_
  rintro e w1 ⟨⟨r, rfl, h1, _⟩, rfl⟩
  rw [h1 hbig]
  clear h1
  go_wp2
  go_ret
  exact ⟨rfl, Below.refl _ _⟩
theorem below_more {w w1 w2 : World} (h : Below w.heap.size w w1) (k : Below w1.heap.size w1 w2) : Below w.heap.size w w2 := h.trans (k.mono h.size)
theorem drewn_below {w w1 : World} {n : Nat} (h : w1 = w.drewN n) : Below w.heap.size w w1 := by rw [h]; exact below_drewN (Below.refl _ _) n
theorem same_true {α : Type} [DecidableEq α] (x : α) : decide (x = x) = true := by simp
theorem below_drews {w w1 : World} {B : Nat} (h : Below B w w1) (n : Nat) : Below B w (w1.drewN n) := below_drewN h n
set_option maxHeartbeats 1000000 in
theorem frame_small (a : Option Addr) (cap : Nat) (ls : List (List Nat)) (w : World) (hr : RowsAt w a ls) (hb : ∀ l ∈ ls, ∀ x ∈ l, x < 256) (hs : ls.length + sumL ls ≤ 1048576) :
    Calls Try.prog 3 #[.slice a ls.length cap] w fun e w' => e = .returned (.bool true) ∧ Below w.heap.size w w' := by
  have hl : ls.length ≤ 1048576 := by omega
  have hls : ∀ l ∈ ls, l.length ≤ 1048576 := fun l h => by have := len_le_sum ls l h; omega
  have hl9 : ls.length ≤ 9223372036854775807 := by omega
  have hls9 : ∀ l ∈ ls, l.length ≤ 9223372036854775807 := fun l h => by have := hls l h; omega
  have hfl := frameOf_len ls
  have hfl9 : (frameOf ls).length ≤ 9223372036854775807 := by omega
  have HS := hide hs
  clear hs
  go_enter Try.func3, Try.ntmps3
  go_wp2_with fail
  refine (szByteSS_any a cap ls w hl9 hls9 hr).mono ?_
  rintro e w1 ⟨⟨r, rfl, _, h2⟩, rfl⟩
  have hr0 := h2 (unhide HS)
  clear h2
  go_wp2_with fail
  refine (toByteSS_any a cap ls w1 hl hls hr).mono ?_
  rintro e w2 ⟨rfl, ho2, hb2⟩
  go_wp2_with fail
  refine (specFrame_any _ _ ls w2 hl hls ho2.rows hb).mono ?_
  rintro e w3 ⟨v3, rfl, ho3, hb3⟩
  have hw3 := below_more hb2 hb3
  obtain ⟨a3, c3, rfl⟩ := ho3.slice
  go_wp2_with fail
  refine (toByteSS_any a cap ls w3 hl hls (hr.below hw3)).mono ?_
  rintro e w4 ⟨rfl, ho4, hb4⟩
  have hw4 := below_more hw3 hb4
  go_wp2_with fail
  refine (implFrame_any _ _ ls w4 hl hls ho4.rows hb).mono ?_
  rintro e w5 ⟨v5, rfl, ho5, hb5⟩
  have hw5 := below_more hw4 hb5
  obtain ⟨a5, c5, rfl⟩ := ho5.slice
  go_wp2_with fail
  have b35 := below_more hb4 hb5
  refine (eqByteS_any a5 a3 c5 c3 (frameOf ls) (frameOf ls) w5 hfl9 ho5.row (ho3.below b35 (Nat.le_refl _)).row).mono ?_
  rintro e w6 ⟨rfl, n6, e6⟩
  have hb6 := drewn_below e6
  clear e6
  have hw6 := below_more hw5 hb6
  rw [same_true (frameOf ls)]
  go_wp2_with fail
  refine (toByteSS_any a cap ls w6 hl hls (hr.below hw6)).mono ?_
  rintro e w7 ⟨rfl, ho7, hb7⟩
  have hw7 := below_more hw6 hb7
  go_wp2_with fail
  have b47 := below_more (below_more hb5 hb6) hb7
  refine (eqByteSS_any _ _ _ _ ls ls w7 hl9 hls9 (ho4.below b47 (Nat.le_refl _)).rows ho7.rows).mono ?_
  rintro e w8 ⟨rfl, n8, e8⟩
  have hb8 := drewn_below e8
  clear e8
  have hw8 := below_more hw7 hb8
  have b48 := below_more b47 hb8
  have b58 := below_more (below_more hb6 hb7) hb8
  have b38 := below_more hb4 b48
  rw [same_true ls]
  go_wp2_with fail
  obtain ⟨vs, hx4⟩ := ho4
  refine (markByteSS_any w3.heap.size w4.heap.size 1 _ _ ls vs w8 (by have := unhide HS; omega) (by omega) (hx4.below b48 (Nat.le_refl _)) hx4.lt).mono ?_
  rintro e w9 ⟨rfl, _, o9, z9⟩
  have s4 := hb4.size
  have s5 := hb5.size
  have hg9 := (ho5.below b58 (Nat.le_refl _)).out o9 (Nat.le_refl _)
  have b39 : Below w3.heap.size w3 w9 := b38.trans (o9.below (Nat.le_refl _) (by have := b48.size; omega))
  have hw9 := below_more hw3 b39
  have hm9 := ho3.below b39 (Nat.le_refl _)
  clear o9
  have h1s : (((1 + sumL ls : Nat) : Int) < 0) = False := by simp; omega
  go_wp2_with fail
  refine (eqByteS_any a5 a3 c5 c3 (frameOf ls) (frameOf ls) w9 hfl9 hg9.row hm9.row).mono ?_
  rintro e w10 ⟨rfl, n10, e10⟩
  have hb10 := drewn_below e10
  clear e10 h1s
  have b310 := below_more b39 hb10
  have hg10 := hg9.below hb10 (Nat.le_refl _)
  rw [same_true (frameOf ls)]
  go_wp2_with fail
  have s10 := hb10.size
  have s9 : w8.heap.size ≤ w9.heap.size := by omega
  have s8 := b48.size
  refine (markByteS_any w4.heap.size a5 c5 1 (frameOf ls) w10 (by omega) (by omega) hg10).mono ?_
  rintro e w11 ⟨rfl, ho11, hg11, z11⟩
  have b411 : Below w4.heap.size w10 w11 := (Below.refl _ _).grown hg11 (by omega) (fun k h => (World.ownsRow.lt hg10 k h).1)
  have b311 : Below w3.heap.size w3 w11 := b310.trans (b411.mono s4)
  have hw11 := below_more hw3 b311
  clear hg11 b411 z11 z9 hg10 hg9
  go_wp2_with fail
  refine (heldByteS_any a5 c5 1 (frameOf ls).length w11 (by omega) (by omega) ho11.row).mono ?_
  rintro e w12 ⟨rfl, rfl⟩
  have hq0 : (((1 + (frameOf ls).length : Nat) : Int) != ((1 + (frameOf ls).length : Nat) : Int)) = false := by simp
  go_wp2_with fail
  refine (toByteSS_any a cap ls w12 hl hls (hr.below hw11)).mono ?_
  rintro e w13 ⟨rfl, ho13, hb13⟩
  go_wp2_with fail
  refine (implFrame_any _ _ ls w13 hl hls ho13.rows hb).mono ?_
  rintro e w14 ⟨v14, rfl, ho14, hb14⟩
  obtain ⟨a14, c14, rfl⟩ := ho14.slice
  have b1114 := below_more hb13 hb14
  have b314 := below_more b311 b1114
  go_wp2_with fail
  refine (eqByteS_any a14 a3 c14 c3 (frameOf ls) (frameOf ls) w14 hfl9 ho14.row (ho3.below b314 (Nat.le_refl _)).row).mono ?_
  rintro e w15 ⟨rfl, n15, e15⟩
  have hb15 := drewn_below e15
  clear e15
  rw [same_true (frameOf ls)]
  have b1115 := below_more b1114 hb15
  have hw15 := below_more hw11 b1115
  go_wp2_with fail
  refine (heldByteS_any a5 c5 1 (frameOf ls).length w15 (by omega) (by omega) (ho11.below b1115 (Nat.le_refl _)).row).mono ?_
  rintro e w16 ⟨rfl, rfl⟩
  go_wp2
  go_ret
  exact ⟨rfl, hw15⟩
end Go.Proofs.Ytknnpgffdbkfnaa
