import Derived.Test.YtknnpgffdbkfnaaSpanHeld
import Derived.Test.YtknnpgffdbkfnaaSpecWalk
namespace Go.Proofs.Ytknnpgffdbkfnaa
open Go.RowKit
/-- What MboxSplit answers: the flag and the list. -/
def okS (r : Option (List SP)) : Bool := r.isSome
def listS (r : Option (List SP)) : List SP := r.getD []
def AnsS (w' : World) (lo : Nat) (v : Value) (r : Option (List SP)) : Prop := ∃ a cap vs, v = .agg #[.bool (okS r), .slice a (listS r).length cap] ∧ OwnX w' lo (.slice a (listS r).length cap) vs (listS r)
theorem ansS_of {w' : World} {lo : Nat} {v : Value} {r : Option (List SP)} (h : SplIs w' lo v r) : AnsS w' lo v r := by
  cases r with
  | none => exact ⟨none, 0, [], h, rfl, OwnS.nil _ _⟩
  | some l =>
    obtain ⟨lv, vs, rfl, h1, h2⟩ := h
    obtain ⟨a, cap, rfl⟩ := h2.slice
    rw [List.length_map] at h2 ⊢
    exact ⟨a, cap, vs, rfl, h1, h2⟩
theorem span_bound (d : List Nat) : sumX (listS (splitOf d)) ≤ 2000000000 := by
  unfold splitOf
  split
  · simp [listS, sumX]
  · next h =>
    have hd : d.length ≤ 40000 := by
      rcases Nat.lt_or_ge 40000 d.length with h' | h'
      · exact absurd (Or.inl h') h
      · exact h'
    simp only [listS, Option.getD_some]
    have hR : (startsFrom (fromsOf d)).length ≤ 40000 := Nat.le_trans (startsFrom_len _) (Nat.le_trans (froms_len d) hd)
    generalize startsFrom (fromsOf d) = R at hR
    have key : ∀ n, n ≤ 40000 → sumX ((List.range n).map (spanAt d R)) ≤ n * 40002 := by
      intro n
      induction n with
      | zero => intro _; simp [sumX]
      | succ n ih =>
        intro hn
        have := ih (by omega)
        rw [List.range_succ, List.map_append, sumX_append]
        have hl : (spanAt d R n).2.2.length ≤ 40000 := by
          unfold spanAt
          refine Nat.le_trans (unquote_len _) ?_
          unfold innerOf entB
          rw [List.length_take, List.length_drop, List.length_take, List.length_drop]
          omega
        simp only [List.map_cons, List.map_nil, sumX]
        omega
    have := key R.length hR
    have : R.length * 40002 ≤ 40000 * 40002 := Nat.mul_le_mul_right _ hR
    omega
theorem specSpl (g : Nat) (d : List Nat) (w : World) (hd : d.length ≤ 1048576) (hT : TextAt w g 0 d) (hg : g < w.heap.size) (hb : ∀ x ∈ d, x < 256) :
    Calls Try.prog 21 #[.slice (some ⟨g, 0, none⟩) d.length d.length] w fun e w' => ∃ a cap vs, e = .returned (.agg #[.bool (okS (splitOf d)), .slice a (listS (splitOf d)).length cap]) ∧ OwnX w' w.heap.size (.slice a (listS (splitOf d)).length cap) vs (listS (splitOf d)) ∧ Below w.heap.size w w' := by
  have h : Calls Try.prog 21 #[.slice (some ⟨g, 0, none⟩) d.length d.length] w (SplPost d w) := by
    by_cases hl : 40000 < d.length
    · exact specMbox_long g 0 d.length d w hl hd
    · exact specMbox_any g 0 d.length d w (by omega) (Nat.le_refl _) hT hg hb
  refine h.mono ?_
  rintro e w' ⟨v, rfl, hs, hb'⟩
  obtain ⟨a, cap, vs, rfl, ho⟩ := ansS_of hs
  exact ⟨a, cap, vs, rfl, ho, hb'⟩
theorem implSpl (g : Nat) (d : List Nat) (w : World) (hd : d.length ≤ 1048576) (hT : TextAt w g 0 d) (hg : g < w.heap.size) (hb : ∀ x ∈ d, x < 256) :
    Calls Try.prog 22 #[.slice (some ⟨g, 0, none⟩) d.length d.length] w fun e w' => ∃ a cap vs, e = .returned (.agg #[.bool (okS (splitOf d)), .slice a (listS (splitOf d)).length cap]) ∧ OwnX w' w.heap.size (.slice a (listS (splitOf d)).length cap) vs (listS (splitOf d)) ∧ Below w.heap.size w w' := by
  have h : Calls Try.prog 22 #[.slice (some ⟨g, 0, none⟩) d.length d.length] w (SplPost d w) := by
    by_cases hl : 40000 < d.length
    · exact implSplit_long g 0 d.length d w hl hd
    · exact implSplit_any g 0 d.length d w (by omega) (Nat.le_refl _) (by omega) hT hg hb
  refine h.mono ?_
  rintro e w' ⟨v, rfl, hs, hb'⟩
  obtain ⟨a, cap, vs, rfl, ho⟩ := ansS_of hs
  exact ⟨a, cap, vs, rfl, ho, hb'⟩
theorem blkS_new (w : World) (x y : Value) : BlkS (w.alloc (.cells #[x, y] 40)) w.heap.size x y := heap_alloc_new w _
theorem below_new (w : World) (o : Obj) : Below w.heap.size w (w.alloc o) := (Below.refl _ _).alloc (Nat.le_refl _) _
theorem BlkS.out {lo hi : Nat} {w w' : World} {g : Nat} {x y : Value} (h : BlkS w g x y) (ho : Out lo hi w w') (hg : hi ≤ g) : BlkS w' g x y := (ho.block g h.lt (.inr hg)).trans h
theorem OwnX.out {lo hi base : Nat} {w w' : World} {v : Value} {vs : List S3} {xs : List SP} (h : OwnX w base v vs xs) (ho : Out lo hi w w') (hb : hi ≤ base) : OwnX w' base v vs xs := by
  have hk : ∀ g, base ≤ g → g < w.heap.size → w'.heap[g]? = w.heap[g]? := fun g hg hs => ho.block g hs (.inr (by omega))
  refine ⟨h.1, h.2.len, own_keepK h.2.row hk, fun i hi => ?_, h.2.apart⟩
  obtain ⟨x, hx, ho⟩ := h.2.body i hi
  exact ⟨x, hx, own_keepK ho hk⟩
set_option maxHeartbeats 1000000 in
theorem split_small (a0 : Option Addr) (cap0 : Nat) (d : List Nat) (w : World) (hd : d.length ≤ 1048576) (hr : RowAt w a0 d) (hb : ∀ x ∈ d, x < 256) :
    Calls Try.prog 5 #[.slice a0 d.length cap0] w fun e w' => e = .returned (.bool true) ∧ Below w.heap.size w w' := by
  have hbd := span_bound d
  have SU' := hide (fun g W hT hg => specSpl g d W hd hT hg hb)
  have IU' := hide (fun g W hT hg => implSpl g d W hd hT hg hb)
  generalize okS (splitOf d) = ok at SU' IU'
  generalize listS (splitOf d) = xs at hbd SU' IU'
  have hcx := count_le_sumX xs
  have hl9 : xs.length ≤ 9223372036854775807 := by omega
  have hls9 : ∀ e ∈ xs, e.2.2.length ≤ 9223372036854775807 := fun l h => by have := len_le_sumX xs l h; omega
  have hk0 : ¬ (1 : Int) + d.length < 0 := by omega
  go_enter Try.func5, Try.ntmps5
  go_wp2_with fail
  refine (toByteS_any a0 cap0 d w hd hr).mono ?_
  rintro e w1 ⟨rfl, ho1, hb1⟩
  go_wp2_with fail
  refine (unhide SU' _ w1 (text_of_own ho1) (World.ownsRow.lt ho1 _ rfl).2).mono ?_
  rintro e w2 ⟨a2, c2, vs2, rfl, ho2, hb2⟩
  go_wp2_with fail
  have q2 := blkS_new w2 (.bool ok) (.slice a2 xs.length c2)
  have n2 := below_new w2 (.cells #[.bool ok, .slice a2 xs.length c2] 40)
  generalize w2.alloc (.cells #[.bool ok, .slice a2 xs.length c2] 40) = W2 at q2 n2 ⊢
  have hw2 := below_more (below_more hb1 hb2) n2
  have s2 := n2.size
  refine (toByteS_any a0 cap0 d W2 hd (hr.below hw2)).mono ?_
  rintro e w3 ⟨rfl, ho3, hb3⟩
  have hw3 := below_more hw2 hb3
  have s3 := hb3.size
  go_wp2_with fail
  refine (unhide IU' _ w3 (text_of_own ho3) (World.ownsRow.lt ho3 _ rfl).2).mono ?_
  rintro e w4 ⟨a4, c4, vs4, rfl, ho4, hb4⟩
  have hw4 := below_more hw3 hb4
  have s4 := hb4.size
  have q24 : BlkS w4 w2.heap.size (.bool ok) (.slice a2 xs.length c2) := (q2.below (below_more hb3 hb4) q2.lt)
  have c20 := q24.c0
  have c21 := q24.c1
  have l24 := q24.lt
  go_wp2_with fail
  have q4 := blkS_new w4 (.bool ok) (.slice a4 xs.length c4)
  have n4 := below_new w4 (.cells #[.bool ok, .slice a4 xs.length c4] 40)
  generalize w4.alloc (.cells #[.bool ok, .slice a4 xs.length c4] 40) = W4 at q4 n4 ⊢
  clear c20 c21
  have hw44 := below_more hw4 n4
  have k2 := below_more n2 (below_more (below_more hb3 hb4) n4)
  have s44 := n4.size
  refine (eqSpans_same a4 a2 c4 c2 ok xs W4 hl9 hls9 (OwnX.at (ho4.below n4 (Nat.le_refl _))) (OwnX.at (ho2.below k2 (Nat.le_refl _)))).mono ?_
  rintro e w5 ⟨rfl, hb5⟩
  have hw5 := below_more hw44 hb5
  go_wp2_with fail
  refine (toByteS_any a0 cap0 d w5 hd (hr.below hw5)).mono ?_
  rintro e w6 ⟨rfl, ho6, hb6⟩
  have hw6 := below_more hw5 hb6
  have k36 := below_more (below_more (below_more hb4 n4) hb5) hb6
  go_wp2_with fail
  refine (eqByteS_any _ _ _ _ d d w6 (by omega) (ho3.below k36 (Nat.le_refl _)).row ho6.row).mono ?_
  rintro e w7 ⟨rfl, n7, e7⟩
  have hb7 := drewn_below e7
  clear e7
  have hw7 := below_more hw6 hb7
  have k37 := below_more k36 hb7
  rw [decide_eq_true (rfl : d = d)]
  go_wp2_with fail
  have ho7 := ho3.below k37 (Nat.le_refl _)
  refine (markByteS_any W2.heap.size _ _ 1 d w7 (by omega) (by omega) ho7).mono ?_
  rintro e w8 ⟨rfl, _, hg8, z8⟩
  have l3 : W2.heap.size < w3.heap.size := (World.ownsRow.lt ho3 _ rfl).2
  have o8 : Out W2.heap.size (W2.heap.size + 1) w7 w8 := Out.of_grown hg8 (fun k h => by simp [Value.ownBlock] at h; omega)
  have b27 := below_more hb3 k37
  have b28 : Below W2.heap.size W2 w8 := b27.trans (o8.below (Nat.le_refl _) b27.size)
  have b22 := below_more n2 b28
  have b47 := below_more (below_more hb5 hb6) hb7
  have q48 : BlkS w8 w4.heap.size (.bool ok) (.slice a4 xs.length c4) := (q4.below b47 q4.lt).out o8 (by omega)
  have q28 : BlkS w8 w2.heap.size (.bool ok) (.slice a2 xs.length c2) := q2.below b28 q2.lt
  have r48 : OwnX w8 w3.heap.size (.slice a4 xs.length c4) vs4 xs := (ho4.below (below_more n4 b47) (Nat.le_refl _)).out o8 (by omega)
  have c0 := q48.c0
  have c1 := q48.c1
  have c2' := q28.c0
  have c3 := q28.c1
  have hw8 := below_more hw2 b28
  clear hg8 z8 o8
  go_wp2_with fail
  refine (eqSpans_same a4 a2 c4 c2 ok xs w8 hl9 hls9 (OwnX.at (r48)) (OwnX.at (ho2.below b22 (Nat.le_refl _)))).mono ?_
  rintro e w9 ⟨rfl, hb9⟩
  clear c0 c1 c2' c3
  have q49 := q48.below hb9 q48.lt
  have c0 := q49.c0
  have c1 := q49.c1
  go_wp2_with fail
  refine (markSpans_any w3.heap.size w4.heap.size 1 ok a4 c4 xs vs4 w9 (by omega) (r48.below hb9 (Nat.le_refl _)) (fun b hb => (World.ownsRow.lt ho4.2.row b hb).2) (fun x hx b hb => by obtain ⟨y, hy, rfl⟩ := List.mem_map.1 hx; exact ho4.2.lt y hy b hb)).mono ?_
  rintro e w10 ⟨rfl, ⟨vs10, r10⟩, o10⟩
  clear c0 c1
  have s8 := b28.size
  have s9 := hb9.size
  have t47 := b47.size
  have b210 : Below W2.heap.size W2 w10 := (below_more b28 hb9).trans (o10.below (by omega) (by omega))
  have b2210 := below_more n2 b210
  have hw10 := below_more hw2 b210
  have q410 := q49.out o10 (Nat.le_refl _)
  have c0 := q410.c0
  have c1 := q410.c1
  clear o10
  go_wp2_with fail
  refine (heldSpans_any 1 ok a4 c4 xs w10 (by omega) (OwnX.at r10)).mono ?_
  rintro e w11 ⟨rfl, hb11⟩
  clear c0 c1
  have hw11 := below_more hw10 hb11
  have hq0 : (((1 + sumX xs : Nat) : Int) != ((1 + sumX xs : Nat) : Int)) = false := by simp
  go_wp2_with fail
  refine (toByteS_any a0 cap0 d w11 hd (hr.below hw11)).mono ?_
  rintro e w12 ⟨rfl, ho12, hb12⟩
  go_wp2_with fail
  refine (unhide IU' _ w12 (text_of_own ho12) (World.ownsRow.lt ho12 _ rfl).2).mono ?_
  rintro e w13 ⟨a13, c13, vs13, rfl, ho13, hb13⟩
  have b1013 := below_more (below_more hb11 hb12) hb13
  have b2213 := below_more b2210 b1013
  have q213 : BlkS w13 w2.heap.size (.bool ok) (.slice a2 xs.length c2) := q2.below (below_more b210 b1013) q2.lt
  have q413 := q410.below b1013 q410.lt
  have d0 := q213.c0
  have d1 := q213.c1
  have e0 := q413.c0
  have e1 := q413.c1
  have l213 := q213.lt
  have l413 := q413.lt
  go_wp2_with fail
  have q13 := blkS_new w13 (.bool ok) (.slice a13 xs.length c13)
  have n13 := below_new w13 (.cells #[.bool ok, .slice a13 xs.length c13] 40)
  generalize w13.alloc (.cells #[.bool ok, .slice a13 xs.length c13] 40) = W13 at q13 n13 ⊢
  clear d0 d1 e0 e1
  have b22W := below_more b2213 n13
  have b10W := below_more b1013 n13
  refine (eqSpans_same a13 a2 c13 c2 ok xs W13 hl9 hls9 (OwnX.at (ho13.below n13 (Nat.le_refl _))) (OwnX.at (ho2.below b22W (Nat.le_refl _)))).mono ?_
  rintro e w14 ⟨rfl, hb14⟩
  have b1014 := below_more b10W hb14
  have q414 := q410.below b1014 q410.lt
  have c0 := q414.c0
  have c1 := q414.c1
  have hw14 := below_more hw10 b1014
  go_wp2_with fail
  refine (heldSpans_any 1 ok a4 c4 xs w14 (by omega) (OwnX.at (r10.below b1014 (Nat.le_refl _)))).mono ?_
  rintro e w15 ⟨rfl, hb15⟩
  go_wp2
  go_ret
  exact ⟨rfl, below_more hw14 hb15⟩
end Go.Proofs.Ytknnpgffdbkfnaa
