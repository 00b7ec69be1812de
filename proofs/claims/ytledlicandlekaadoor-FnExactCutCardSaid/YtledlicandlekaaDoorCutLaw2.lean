import Derived.Test.YtledlicandlekaaDoorCutLaw
namespace Go.Proofs.YtledlicandlekaaDoor
open Go.RowKit
set_option maxRecDepth 20000 in
set_option maxHeartbeats 4000000 in
theorem cut_small (lits : Bool) (a0 : Option Addr) (cap0 : Nat) (d : List Nat) (w : World) (hd : d.length ≤ 1048576) (h256 : ∀ x ∈ d, x < 256) (hr : RowAt w a0 d) (hE : Env w) :
    Calls Tryd.prog 3 #[.bool lits, .slice a0 d.length cap0] w fun e w' => e = .returned (.bool true) ∧ Below w.heap.size w w' := by
  have hi : ¬ (1048576 : Int) < (d.length : Int) := by omega
  have SP := hide (fun W b (h : OwnB W b (.slice (some ⟨b, 0, none⟩) d.length d.length) d) => specCut_any lits b 0 d.length d W hd (Nat.le_refl _) (tx_of_row h.row) (World.ownsRow.lt h _ rfl).2)
  have IP := hide (fun W b (h : OwnB W b (.slice (some ⟨b, 0, none⟩) d.length d.length) d) (hE : Env W) => implCut_any lits b 0 d.length d W hE h256 hd (Nat.le_refl _) (tx_of_row h.row) (World.ownsRow.lt h _ rfl).2)
  have hsum := cut_sum lits d.length d 1
  unfold CutsPost at SP IP
  generalize (cutOf lits d.length d).1 = us at SP IP hsum
  generalize (cutOf lits d.length d).2 = r at SP IP hsum
  have hcount := kAt_count 1 us
  have hl : us.length ≤ 1048577 := by omega
  have hrl : r.length ≤ 1048577 := by omega
  have HEACH := hide (show ∀ e ∈ us, e.1.length ≤ 9223372036854775807 ∧ e.2.1.length ≤ 9223372036854775807 from fun u hu => by have := kAt_each 1 us u hu; omega)
  have TB := hide (fun W (h : Below w.heap.size w W) => toByteS_any a0 cap0 d W hd (hr.below h))
  have HE := hide (fun (W : World) (h : Below w.heap.size w W) => hE.below h)
  have hk0 : ¬ (1 : Int) + (d.length : Int) < 0 := by omega
  clear hr hE
  go_enter Tryd.func3, Tryd.ntmps3
  go_wp2_with fail
  refine (TB.out w (Below.refl _ _)).mono ?_
  rintro e w1 ⟨rfl, ho1, hb1⟩
  have HB1 := hide hb1
  have O1 := hide ho1
  clear ho1 hb1
  go_wp2_with fail
  refine (SP.out w1 _ O1.out).mono ?_
  rintro e w2 ⟨v2, vs2, rv2, rfl, ow2, rs2, ap2, hb2⟩
  obtain ⟨a2, c2, p2, q2, rfl, rfl, hS⟩ := ans_new ow2 rs2 ap2 hb2
  have hb3 := (below_more HB1.out hb2).alloc (below_more HB1.out hb2).size (.cells #[.slice a2 us.length c2, .slice p2 r.length q2] 25)
  have S3 := hide hS.ans
  have HB3 := hide hb3
  clear hS hb3 hb2 ow2 rs2 ap2 HB1 O1
  go_wp2_with fail
  generalize w2.alloc (.cells #[.slice a2 us.length c2, .slice p2 r.length q2] 25) = w3 at S3 HB3 ⊢
  generalize w2.heap.size = g2 at S3 ⊢
  refine (TB.out w3 HB3.out).mono ?_
  rintro e w4 ⟨rfl, ho4, hb4⟩
  have BS4 := hide hb4
  have O4 := hide ho4
  have z4 : w3.heap.size < w4.heap.size := (World.ownsRow.lt ho4 _ rfl).2
  clear ho4 hb4
  go_wp2_with fail
  refine (IP.out w4 _ O4.out (HE.out w4 (below_more HB3.out BS4.out))).mono ?_
  rintro e w5 ⟨v5, vs5, rv5, rfl, ow5, rs5, ap5, hb5⟩
  obtain ⟨a5, c5, p5, q5, rfl, rfl, hG⟩ := ans_new ow5 rs5 ap5 hb5
  have hb6 := below_more hb5 ((Below.refl w5.heap.size w5).alloc (Nat.le_refl _) (.cells #[.slice a5 us.length c5, .slice p5 r.length q5] 25))
  have G6 := hide hG
  have O6 := hide (O4.out.below hb6 (Nat.le_refl _))
  have BS6 := hide (below_more BS4.out hb6)
  clear hG hb6 hb5 ow5 rs5 ap5 BS4 O4
  obtain ⟨x0, x1⟩ := (S3.out.below BS6.out).cells
  obtain ⟨y0, y1⟩ := G6.out.ans.cells
  go_wp2_with fail
  generalize w5.alloc (.cells #[.slice a5 us.length c5, .slice p5 r.length q5] 25) = w6 at G6 O6 BS6 x0 x1 y0 y1 ⊢
  generalize w5.heap.size = g5 at G6 y0 y1 ⊢
  refine (eqUnits_same a5 a2 p5 p2 us r c5 c2 q5 q2 w6 (by omega) HEACH.out (by omega) G6.out.ans.un (S3.out.below BS6.out).un G6.out.ans.row (S3.out.below BS6.out).row).mono ?_
  rintro e w7 ⟨rfl, hb7⟩
  have G7 := hide (G6.out.below hb7)
  have O7 := hide (O6.out.below hb7 (Nat.le_refl _))
  have BS7 := hide (below_more BS6.out hb7)
  clear hb7 G6 O6 BS6 x0 x1 y0 y1
  go_wp2_with fail
  refine (TB.out w7 (below_more HB3.out BS7.out)).mono ?_
  rintro e w8 ⟨rfl, ho8, hb8⟩
  have G8 := hide (G7.out.below hb8)
  have O8 := hide (O7.out.below hb8 (Nat.le_refl _))
  have R8 := hide ho8.row
  have BS8 := hide (below_more BS7.out hb8)
  clear ho8 hb8 G7 O7 BS7
  go_wp2_with fail
  refine (eqByteS_any _ _ _ _ d d w8 (by omega) O8.out.row R8.out).mono ?_
  rintro e w9 ⟨rfl, n9, e9⟩
  have hb9 := drewn_below e9
  clear e9
  rw [decide_eq_true (rfl : d = d)]
  have G9 := hide (G8.out.below hb9)
  have O9 := hide (O8.out.below hb9 (Nat.le_refl _))
  have BS9 := hide (below_more BS8.out hb9)
  clear hb9 G8 O8 BS8 R8
  go_wp2_with fail
  refine (show Calls _ _ #[_, .int .i64 ((1 : Nat) : Int)] _ _ from markByteS_any w3.heap.size _ _ 1 d w9 (by omega) (by omega) O9.out).mono ?_
  rintro e w10 ⟨rfl, _, hg10, z10⟩
  have G10 := hide (G9.out.keep (fun b h1 h2 => hg10.block b h2 (fun e => by simp [Value.ownBlock] at e; omega)))
  have BS10 := hide (BS9.out.grown hg10 BS9.out.size (fun k h => (World.ownsRow.lt O9.out k h).1))
  clear hg10 z10 G9 O9 BS9
  rw [show ((1 + d.length : Nat) : Int) = 1 + (d.length : Int) from by omega]
  obtain ⟨x0, x1⟩ := (S3.out.below BS10.out).cells
  obtain ⟨y0, y1⟩ := G10.out.ans.cells
  go_wp2_with fail
  refine (eqUnits_same a5 a2 p5 p2 us r c5 c2 q5 q2 w10 (by omega) HEACH.out (by omega) G10.out.ans.un (S3.out.below BS10.out).un G10.out.ans.row (S3.out.below BS10.out).row).mono ?_
  rintro e w11 ⟨rfl, hb11⟩
  have G11 := hide (G10.out.below hb11)
  have BS11 := hide (below_more BS10.out hb11)
  clear hb11 G10 BS10 x0 x1 y0 y1
  obtain ⟨y0, y1⟩ := G11.out.ans.cells
  have hg5 : g5 < w11.heap.size := G11.out.box.lt
  have hlo5 := G11.out.lo_
  go_wp2_with fail
  refine (show Calls _ _ #[_, .int .i64 ((1 : Nat) : Int)] _ _ from markUnits_any w4.heap.size g5 1 a5 p5 c5 q5 us r vs5 w11 (by omega) (by omega) (by omega) (by omega) G11.out.ow G11.out.rest G11.out.ap (by omega) G11.out.sp G11.out.sl G11.out.rs).mono ?_
  rintro e w12 ⟨rfl, ⟨vs', hU⟩, hR, hb12, hN⟩
  have G12 := hide (show Ans w12 g5 a5 p5 us.length r.length c5 q5 (mus 1 us) (marks (kAt 1 us us.length) r.length) from ⟨(hN g5 (Nat.le_refl _) hg5).trans G11.out.box, hU.unAt, hR.row⟩)
  have BS12 := hide (BS11.out.trans (hb12.mono (Nat.le_of_lt z4)))
  clear hU hR hb12 hN hg5 hlo5 G11 BS11 y0 y1
  obtain ⟨T, hT⟩ : ∃ T : Nat, T = kAt 1 us us.length + r.length := ⟨_, rfl⟩
  have HT := hide hT
  rw [← hT]
  have hT0 : ¬ (T : Int) < 0 := by omega
  have hTT : ((T : Int) != (T : Int)) = false := by simp
  have HLD := hide (fun (W : World) (h : Ans W g5 a5 p5 us.length r.length c5 q5 (mus 1 us) (marks (kAt 1 us us.length) r.length)) => show Calls Tryd.prog _ #[_, .int .i64 1] _ _ from heldUnits_any a5 p5 c5 q5 1 r.length us W (by omega) (by omega) (by omega) h.un h.row)
  simp only [← HT.out] at HLD
  clear hT
  obtain ⟨y0, y1⟩ := G12.out.cells
  go_wp2_with fail
  refine (HLD.out w12 G12.out).mono ?_
  rintro e w13 ⟨rfl, hb13⟩
  have G13 := hide (G12.out.below hb13)
  have BS13 := hide (below_more BS12.out hb13)
  clear hb13 G12 BS12 y0 y1
  go_wp2_with fail
  refine (TB.out w13 (below_more HB3.out BS13.out)).mono ?_
  rintro e w14 ⟨rfl, ho14, hb14⟩
  have G14 := hide (G13.out.below hb14)
  have BS14 := hide (below_more BS13.out hb14)
  have O14 := hide ho14
  clear ho14 hb14 G13 BS13
  go_wp2_with fail
  refine (IP.out w14 _ O14.out (HE.out w14 (below_more HB3.out BS14.out))).mono ?_
  rintro e w15 ⟨v15, vs15, rv15, rfl, ow15, rs15, ap15, hb15⟩
  obtain ⟨a15, c15, p15, q15, rfl, rfl, hH⟩ := ans_new ow15 rs15 ap15 hb15
  have hb16 := below_more hb15 ((Below.refl w15.heap.size w15).alloc (Nat.le_refl _) (.cells #[.slice a15 us.length c15, .slice p15 r.length q15] 25))
  have H16 := hide hH.ans
  have G16 := hide (G14.out.below hb16)
  have BS16 := hide (below_more BS14.out hb16)
  clear hH hb16 hb15 ow15 rs15 ap15 G14 BS14 O14
  obtain ⟨x0, x1⟩ := (S3.out.below BS16.out).cells
  obtain ⟨y0, y1⟩ := H16.out.cells
  go_wp2_with fail
  generalize w15.alloc (.cells #[.slice a15 us.length c15, .slice p15 r.length q15] 25) = w16 at H16 G16 BS16 x0 x1 y0 y1 ⊢
  generalize w15.heap.size = g15 at H16 y0 y1 ⊢
  refine (eqUnits_same a15 a2 p15 p2 us r c15 c2 q15 q2 w16 (by omega) HEACH.out (by omega) H16.out.un (S3.out.below BS16.out).un H16.out.row (S3.out.below BS16.out).row).mono ?_
  rintro e w17 ⟨rfl, hb17⟩
  have G17 := hide (G16.out.below hb17)
  have BS17 := hide (below_more BS16.out hb17)
  clear hb17 G16 H16 BS16 x0 x1 y0 y1
  obtain ⟨y0, y1⟩ := G17.out.cells
  go_wp2_with fail
  refine (HLD.out w17 G17.out).mono ?_
  rintro e w18 ⟨rfl, hb18⟩
  have HB18 := hide (below_more HB3.out (below_more BS17.out hb18))
  clear hb18 BS17 y0 y1
  go_wp2
  go_ret
  exact ⟨rfl, HB18.out⟩
end Go.Proofs.YtledlicandlekaaDoor
