import Derived.Test.YtledlicandlekaaDoorPopLaw
namespace Go.Proofs.YtledlicandlekaaDoor
open Go.RowKit
set_option maxRecDepth 20000 in
set_option maxHeartbeats 4000000 in
theorem pop_small (a0 : Option Addr) (cap0 : Nat) (d : List Nat) (w : World) (hd : d.length ≤ 1048576) (hr : RowAt w a0 d) (hE : Env w) :
    Calls Tryd.prog 4 #[.slice a0 d.length cap0] w fun e w' => e = .returned (.bool true) ∧ Below w.heap.size w w' := by
  have hi : ¬ (1048576 : Int) < (d.length : Int) := by omega
  have SP := hide (fun a c W (h : RowAt W a d) => specPop_any a c d W hd h)
  have IP := hide (fun a c W (h : RowAt W a d) (hE : Env W) => implPop_v a c d W hd h hE)
  unfold PopPost at SP IP
  generalize (popA (strB d).data.toList).1 = K at SP IP
  generalize (popA (strB d).data.toList).2 = N at SP IP
  have TB := hide (fun W (h : Below w.heap.size w W) => toByteS_any a0 cap0 d W hd (hr.below h))
  have HE := hide (fun (W : World) (h : Below w.heap.size w W) => hE.below h)
  have hk0 : ¬ (1 : Int) + (d.length : Int) < 0 := by omega
  clear hr hE
  go_enter Tryd.func4, Tryd.ntmps4
  go_wp2_with fail
  refine (TB.out w (Below.refl _ _)).mono ?_
  rintro e w1 ⟨rfl, ho1, hb1⟩
  have HB1 := hide hb1
  have R1 := hide ho1.row
  clear ho1 hb1
  go_wp2_with fail
  refine (SP.out _ _ w1 R1.out).mono ?_
  rintro e w2 ⟨rfl, hb2⟩
  have hb3 := (below_more HB1.out hb2).alloc (below_more HB1.out hb2).size (.cells (cmP K N) 36)
  have S3 := hide (blk_new w2 (cmP K N) 36)
  have HB3 := hide hb3
  clear hb2 hb3 HB1 R1
  unfold cmP at S3 HB3 ⊢
  go_wp2_with fail
  generalize w2.alloc (.cells #[.int .i64 K, .string ⟨#[]⟩, .int .u32 N, .bool false, .slice none 0 0, .int .i64 0, .int .i64 0, .int .u32 0, .slice none 0 0] 36) = w3 at S3 HB3 ⊢
  generalize w2.heap.size = g2 at S3 ⊢
  refine (TB.out w3 HB3.out).mono ?_
  rintro e w4 ⟨rfl, ho4, hb4⟩
  have S4 := hide (S3.out.below hb4 S3.out.lt)
  have HB4 := hide (below_more HB3.out hb4)
  have O4 := hide ho4
  have z4 : w3.heap.size < w4.heap.size := (World.ownsRow.lt ho4 _ rfl).2
  have z3 := S3.out.lt
  have zw := HB3.out.size
  clear ho4 hb4 S3 HB3
  go_wp2_with fail
  refine (IP.out _ _ w4 O4.out.row (HE.out w4 HB4.out)).mono ?_
  rintro e w5 ⟨rfl, hb5⟩
  have S5 := hide (S4.out.below hb5 S4.out.lt)
  have O5 := hide (O4.out.below hb5 (Nat.le_refl _))
  have HB5 := hide (below_more HB4.out hb5)
  have z5 := hb5.size
  clear hb5 S4 O4 HB4
  have hal := (Below.refl w5.heap.size w5).alloc (Nat.le_refl _) (.cells (cmP K N) 36)
  have G6 := hide (blk_new w5 (cmP K N) 36)
  have S6 := hide (S5.out.below hal S5.out.lt)
  have O6 := hide (O5.out.below hal (Nat.le_refl _))
  have HB6 := hide (below_more HB5.out hal)
  have z6 : w5.heap.size < (w5.alloc (.cells (cmP K N) 36)).heap.size := by rw [World.size_alloc]; omega
  clear hal S5 O5 HB5
  unfold cmP at G6 S6 O6 HB6 z6 ⊢
  obtain ⟨p0, p1, p2, p3, p4, p5, p6, p7, p8⟩ := cmP_cells (K := K) (N := N) S6.out
  obtain ⟨q0, q1, q2, q3, q4, q5, q6, q7, q8⟩ := cmP_cells (K := K) (N := N) G6.out
  go_wp2_with fail
  generalize w5.alloc (.cells #[.int .i64 K, .string ⟨#[]⟩, .int .u32 N, .bool false, .slice none 0 0, .int .i64 0, .int .i64 0, .int .u32 0, .slice none 0 0] 36) = w6 at G6 S6 O6 HB6 z6 p0 p1 p2 p3 p4 p5 p6 p7 p8 q0 q1 q2 q3 q4 q5 q6 q7 q8 ⊢
  generalize w5.heap.size = g5 at G6 z5 z6 q0 q1 q2 q3 q4 q5 q6 q7 q8 ⊢
  refine (eqCmd_same K N w6).mono ?_
  rintro e w7 ⟨rfl, hb7⟩
  have G7 := hide (G6.out.below hb7 G6.out.lt)
  have S7 := hide (S6.out.below hb7 S6.out.lt)
  have O7 := hide (O6.out.below hb7 (Nat.le_refl _))
  have HB7 := hide (below_more HB6.out hb7)
  have z7 := hb7.size
  clear hb7 G6 S6 O6 HB6 p0 p1 p2 p3 p4 p5 p6 p7 p8 q0 q1 q2 q3 q4 q5 q6 q7 q8
  go_wp2_with fail
  refine (TB.out w7 HB7.out).mono ?_
  rintro e w8 ⟨rfl, ho8, hb8⟩
  have G8 := hide (G7.out.below hb8 G7.out.lt)
  have S8 := hide (S7.out.below hb8 S7.out.lt)
  have O8 := hide (O7.out.below hb8 (Nat.le_refl _))
  have R8 := hide ho8.row
  have HB8 := hide (below_more HB7.out hb8)
  have z8 := hb8.size
  clear ho8 hb8 G7 S7 O7 HB7
  go_wp2_with fail
  refine (eqByteS_any _ _ _ _ d d w8 (by omega) O8.out.row R8.out).mono ?_
  rintro e w9 ⟨rfl, n9, e9⟩
  have hb9 := drewn_below e9
  clear e9
  rw [decide_eq_true (rfl : d = d)]
  have G9 := hide (G8.out.below hb9 G8.out.lt)
  have S9 := hide (S8.out.below hb9 S8.out.lt)
  have O9 := hide (O8.out.below hb9 (Nat.le_refl _))
  have HB9 := hide (below_more HB8.out hb9)
  have z9 := hb9.size
  clear hb9 G8 S8 O8 HB8 R8
  go_wp2_with fail
  refine (show Calls _ _ #[_, .int .i64 ((1 : Nat) : Int)] _ _ from markByteS_any w3.heap.size _ _ 1 d w9 (by omega) (by omega) O9.out).mono ?_
  rintro e w10 ⟨rfl, _, hg10, z10⟩
  have ne : ∀ g, g ≠ w3.heap.size → some g ≠ (Value.slice (some ⟨w3.heap.size, 0, none⟩) d.length d.length).ownBlock := fun g h e => h (by simpa [Value.ownBlock] using e)
  have G10 := hide (show CmB w10 g5 K N from (hg10.block g5 G9.out.lt (ne _ (by omega))).trans G9.out)
  have S10 := hide (show CmB w10 g2 K N from (hg10.block g2 S9.out.lt (ne _ (by omega))).trans S9.out)
  have hs3 := HB9.out.size
  have HB10 := hide (HB9.out.grown hg10 HB9.out.size (fun k h => by have := (World.ownsRow.lt O9.out k h).1; omega))
  clear hg10 ne G9 S9 O9 HB9
  rw [show ((1 + d.length : Nat) : Int) = 1 + (d.length : Int) from by omega]
  obtain ⟨p0, p1, p2, p3, p4, p5, p6, p7, p8⟩ := cmP_cells (K := K) (N := N) S10.out
  obtain ⟨q0, q1, q2, q3, q4, q5, q6, q7, q8⟩ := cmP_cells (K := K) (N := N) G10.out
  go_wp2_with fail
  refine (eqCmd_same K N w10).mono ?_
  rintro e w11 ⟨rfl, hb11⟩
  have G11 := hide (G10.out.below hb11 G10.out.lt)
  have S11 := hide (S10.out.below hb11 S10.out.lt)
  have HB11 := hide (below_more HB10.out hb11)
  clear hb11 G10 S10 HB10 p0 p1 p2 p3 p4 p5 p6 p7 p8 q0 q1 q2 q3 q4 q5 q6 q7 q8
  obtain ⟨q0, q1, q2, q3, q4, q5, q6, q7, q8⟩ := cmP_cells (K := K) (N := N) G11.out
  go_wp2_with fail
  refine (markCmd_any K N w11).mono ?_
  rintro e w12 ⟨rfl, hb12⟩
  have G12 := hide (G11.out.below hb12 G11.out.lt)
  have S12 := hide (S11.out.below hb12 S11.out.lt)
  have HB12 := hide (below_more HB11.out hb12)
  clear hb12 G11 S11 HB11 q0 q1 q2 q3 q4 q5 q6 q7 q8
  obtain ⟨q0, q1, q2, q3, q4, q5, q6, q7, q8⟩ := cmP_cells (K := K) (N := N) G12.out
  go_wp2_with fail
  refine (heldCmd_any K N w12).mono ?_
  rintro e w13 ⟨rfl, hb13⟩
  have G13 := hide (G12.out.below hb13 G12.out.lt)
  have S13 := hide (S12.out.below hb13 S12.out.lt)
  have HB13 := hide (below_more HB12.out hb13)
  clear hb13 G12 S12 HB12 q0 q1 q2 q3 q4 q5 q6 q7 q8
  go_wp2_with fail
  refine (TB.out w13 HB13.out).mono ?_
  rintro e w14 ⟨rfl, ho14, hb14⟩
  have G14 := hide (G13.out.below hb14 G13.out.lt)
  have S14 := hide (S13.out.below hb14 S13.out.lt)
  have R14 := hide ho14.row
  have HB14 := hide (below_more HB13.out hb14)
  clear ho14 hb14 G13 S13 HB13
  go_wp2_with fail
  refine (IP.out _ _ w14 R14.out (HE.out w14 HB14.out)).mono ?_
  rintro e w15 ⟨rfl, hb15⟩
  have hal := (Below.refl w15.heap.size w15).alloc (Nat.le_refl _) (.cells (cmP K N) 36)
  have hb16 := below_more hb15 hal
  have G16 := hide (G14.out.below hb16 G14.out.lt)
  have S16 := hide (S14.out.below hb16 S14.out.lt)
  have H16 := hide (blk_new w15 (cmP K N) 36)
  have HB16 := hide (below_more HB14.out hb16)
  clear hb15 hal hb16 G14 S14 R14 HB14
  unfold cmP at G16 S16 H16 HB16 ⊢
  obtain ⟨p0, p1, p2, p3, p4, p5, p6, p7, p8⟩ := cmP_cells (K := K) (N := N) S16.out
  obtain ⟨q0, q1, q2, q3, q4, q5, q6, q7, q8⟩ := cmP_cells (K := K) (N := N) H16.out
  go_wp2_with fail
  generalize w15.alloc (.cells #[.int .i64 K, .string ⟨#[]⟩, .int .u32 N, .bool false, .slice none 0 0, .int .i64 0, .int .i64 0, .int .u32 0, .slice none 0 0] 36) = w16 at G16 S16 H16 HB16 p0 p1 p2 p3 p4 p5 p6 p7 p8 q0 q1 q2 q3 q4 q5 q6 q7 q8 ⊢
  refine (eqCmd_same K N w16).mono ?_
  rintro e w17 ⟨rfl, hb17⟩
  have G17 := hide (Blk.below (cs := cmP K N) G16.out hb17 (lt_of_block G16.out))
  have HB17 := hide (below_more HB16.out hb17)
  clear hb17 G16 S16 H16 HB16 p0 p1 p2 p3 p4 p5 p6 p7 p8 q0 q1 q2 q3 q4 q5 q6 q7 q8
  obtain ⟨q0, q1, q2, q3, q4, q5, q6, q7, q8⟩ := cmP_cells (K := K) (N := N) G17.out
  go_wp2_with fail
  refine (heldCmd_any K N w17).mono ?_
  rintro e w18 ⟨rfl, hb18⟩
  have HB18 := hide (below_more HB17.out hb18)
  clear hb18 HB17 q0 q1 q2 q3 q4 q5 q6 q7 q8
  go_wp2
  go_ret
  exact ⟨rfl, HB18.out⟩
end Go.Proofs.YtledlicandlekaaDoor
