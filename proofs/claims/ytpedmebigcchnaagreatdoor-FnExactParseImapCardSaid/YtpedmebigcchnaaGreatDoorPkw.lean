import Derived.Test.YtpedmebigcchnaaGreatDoorPko
import Derived.Test.YtpedmebigcchnaaGreatDoorPkm
import Derived.Test.YtpedmebigcchnaaGreatDoorPkq
namespace Go.Proofs.YtpedmebigcchnaaGreatDoor
open Go.RowKit
set_option linter.unusedVariables false
theorem onSet_no1 {u : ByteArray} {t : List UInt8} (h : hbL t = false) : onSet u t = none := by
  unfold onSet
  split
  · rfl
  · rw [if_pos h]
theorem onSet_no2 {u : ByteArray} {t : List UInt8} (h : setOf (pcL t) = none) : onSet u t = none := by unfold onSet; rw [h]
theorem onSet_f {u : ByteArray} {t : List UInt8} {ps : List (Nat × Nat)} (h : setOf (pcL t) = some ps) (hh : hbL t = true) (hu : u = ⟨#[70, 69, 84, 67, 72]⟩) : onSet u t = if itemsOf (nbL t) = 0 then none else some ⟨9, false, ps, itemsOf (nbL t), 0, 0, []⟩ := by
  unfold onSet
  rw [h]
  simp only
  rw [if_neg (by rw [hh]; simp), if_pos hu]
theorem onSet_s {u : ByteArray} {t : List UInt8} {ps : List (Nat × Nat)} (h : setOf (pcL t) = some ps) (hh : hbL t = true) (hf : ¬ u = ⟨#[70, 69, 84, 67, 72]⟩) (hu : u = ⟨#[83, 84, 79, 82, 69]⟩) :
    (rfOf (nbL (nbL t)) = none → onSet u t = none) ∧ (hbL (nbL t) = false → onSet u t = none) ∧ (modeOf (upT (pcL (nbL t))) = 0 → onSet u t = none) ∧
    (∀ fl, rfOf (nbL (nbL t)) = some fl → hbL (nbL t) = true → modeOf (upT (pcL (nbL t))) ≠ 0 → onSet u t = some ⟨10, false, ps, 0, modeOf (upT (pcL (nbL t))), fl, []⟩) := by
  unfold onSet
  rw [h]
  simp only
  rw [if_neg (by rw [hh]; simp), if_neg hf, if_pos hu]
  refine ⟨fun h => by rw [h], fun h => ?_, fun h => ?_, fun fl h1 h2 h3 => ?_⟩
  · split
    · rfl
    · rw [if_pos (.inl h)]
  · split
    · rfl
    · rw [if_pos (.inr h)]
  · rw [h1]
    simp only
    rw [if_neg]
    rintro (e | e)
    · rw [h2] at e; cases e
    · exact h3 e
theorem onSet_o {u : ByteArray} {t : List UInt8} {ps : List (Nat × Nat)} (h : setOf (pcL t) = some ps) (hf : ¬ u = ⟨#[70, 69, 84, 67, 72]⟩) (hu : ¬ u = ⟨#[83, 84, 79, 82, 69]⟩) : onSet u t = none := by
  unfold onSet
  rw [h]
  simp only
  rw [if_neg hf, if_neg hu]
  split <;> rfl
theorem mode_is (u : ByteArray) : modeOf u = if u = strB [70, 76, 65, 71, 83] then 1 else if u = strB [43, 70, 76, 65, 71, 83] then 2 else if u = strB [45, 70, 76, 65, 71, 83] then 3 else 0 := rfl
theorem size_le {x : ByteArray} {t : List UInt8} {n : Nat} (h : x.data.toList = t) (hn : t.length ≤ n) : x.size ≤ n := by
  have : x.data.toList.length = x.size := rfl
  rw [h] at this
  omega
theorem own9 {W : World} {g : Nat} {v : Value} {l : List (Int × Int)} (h : OwnP W (g + 1) v l) (u0 u1 u2 u3 u4 u5 u6 u7 u8 : Value) : OwnP (put9 W g u0 u1 u2 u3 u4 u5 u6 u7 u8) (g + 1) v l := by
  unfold put9
  exact ((((((((h.other (Nat.lt_succ_self g) _).other (Nat.lt_succ_self g) _).other (Nat.lt_succ_self g) _).other (Nat.lt_succ_self g) _).other (Nat.lt_succ_self g) _).other (Nat.lt_succ_self g) _).other (Nat.lt_succ_self g) _).other (Nat.lt_succ_self g) _).other (Nat.lt_succ_self g) _
set_option maxRecDepth 20000 in
set_option maxHeartbeats 4000000 in
theorem l6OnSet_any (tag v s : ByteArray) (w : World) (hs : s.size ≤ 1048576) :
    Calls Tryz.prog 19 #[.agg (cmI 0 tag false (.slice none 0 0) 0 0 0 (.slice none 0 0)), .string (loB v), .string s] w (CmPost w tag ((onSet (upB v) s.data.toList).getD noF)) := by
  obtain ⟨L1, L2, hA, hz⟩ := box2 w (cmI 0 tag false (.slice none 0 0) 0 0 0 (.slice none 0 0)) (cmI 0 ⟨#[]⟩ false (.slice none 0 0) 0 0 0 (.slice none 0 0)) 29 29
  have hsl : s.data.toList.length = s.size := rfl
  have HR0 := hide (rfl : onSet (upB v) s.data.toList = onSet (upB v) s.data.toList)
  generalize hR : onSet (upB v) s.data.toList = R
  have HR := hide hR
  clear hR HR0
  unfold cmI at L1 L2 hA hz ⊢
  go_enter Tryz.func19, Tryz.ntmps19
  go_upto_region 1 with fail
  generalize (w.alloc (.cells #[.int .i64 0, .string tag, .int .u32 0, .bool false, .slice none 0 0, .int .i64 0, .int .i64 0, .int .u32 0, .slice none 0 0] 29)).alloc (.cells #[.int .i64 0, .string ⟨#[]⟩, .int .u32 0, .bool false, .slice none 0 0, .int .i64 0, .int .i64 0, .int .u32 0, .slice none 0 0] 29) = W2 at L1 L2 hA hz ⊢
  have HL1 := hide (show CmI W2 w.heap.size 0 tag false (.slice none 0 0) 0 0 0 (.slice none 0 0) from L1)
  have HL2 := hide (show CmI W2 (w.heap.size + 1) 0 ⟨#[]⟩ false (.slice none 0 0) 0 0 0 (.slice none 0 0) from L2)
  have HA := hide hA
  have HC := hide (show Calls Tryz.prog 14 #[.string s, .int .u8 32] W2 (CutPost s 32 W2) from l4Cut_any s 32 W2 hs)
  clear L1 L2 hA
  go_wp2_with fail
  refine HC.out.mono ?_
  rintro e w3 ⟨x, y, ok, rfl, hcut, n3, rfl⟩
  obtain ⟨hx, hy, rfl⟩ := cutIs_pc hcut
  have hpl := pc_le s.data.toList
  have hnl := nb_len s.data.toList
  have hxs : x.size ≤ 1048576 := size_le hx (by omega)
  have hys : y.size ≤ 1048576 := size_le hy (by omega)
  have HL1' := hide (show CmI (W2.drewN n3) w.heap.size 0 tag false (.slice none 0 0) 0 0 0 (.slice none 0 0) from HL1.out)
  have HL2' := hide (show CmI (W2.drewN n3) (w.heap.size + 1) 0 ⟨#[]⟩ false (.slice none 0 0) 0 0 0 (.slice none 0 0) from HL2.out)
  have HA' := hide (below_drewN HA.out n3)
  have hz3 : (W2.drewN n3).heap.size = w.heap.size + 2 := hz
  generalize W2.drewN n3 = W3 at HL1' HL2' HA' hz3 ⊢
  have SS := hide (specSet_any x W3 hxs)
  rw [hx] at SS
  have HY := hide hy
  generalize hso : setOf (pcL s.data.toList) = so at SS
  have HSO := hide hso
  clear hso hx hy hcut HC HL1 HL2 HA hz hpl hnl hxs
  generalize hhb : hbL s.data.toList = hb
  have HHB := hide hhb
  clear hhb
  go_wp2_with fail
  refine SS.out.mono ?_
  rintro e w4 ⟨v4, rfl, hP4, hb4⟩
  rw [HSO.out] at hP4 ⊢
  obtain ⟨a4, c4, rfl⟩ := hP4.slice
  generalize hln : ((so.getD []).map prI).length = ln at hP4 ⊢
  clear hln
  have hal5 := (Below.refl w4.heap.size w4).alloc (Nat.le_refl _) (.cells #[.bool so.isSome, .slice a4 ln c4] 65)
  have hb35 := hb4.trans (hal5.mono hb4.size)
  have Q5 := blkQ_new w4 (.bool so.isSome) (.slice a4 ln c4)
  have HP5 := hide (show OwnP (w4.alloc (.cells #[.bool so.isSome, .slice a4 ln c4] 65)) (w.heap.size + 2) (.slice a4 ln c4) ((so.getD []).map prI) from hz3 ▸ (hP4.below hal5 (Nat.le_refl _)))
  have HL15 := hide (HL1'.out.below hb35 HL1'.out.lt)
  have HL25 := hide (HL2'.out.below hb35 HL2'.out.lt)
  have HA5 := hide (HA'.out.trans (hb35.mono HA'.out.size))
  have hsz4 : w.heap.size + 2 ≤ w4.heap.size := by have := hb4.size; omega
  clear hal5 hb35 hb4 hP4 SS HL1' HL2' HA'
  go_upto_region 3 with fail
  have hsz5 : (w4.alloc (.cells #[.bool so.isSome, .slice a4 ln c4] 65)).heap.size = w4.heap.size + 1 := World.size_alloc ..
  generalize w4.alloc (.cells #[.bool so.isSome, .slice a4 ln c4] 65) = W5 at Q5 HP5 HL15 HL25 HA5 hsz5 ⊢
  have q0 := Q5.c0
  have q1 := Q5.c1
  have HK := hide (fun (X : World) (hb : Below W5.heap.size W5 X) => And.intro (HL15.out.below hb HL15.out.lt) (And.intro (HL25.out.below hb HL25.out.lt) (And.intro (HP5.out.below hb (Nat.le_refl _)) (HA5.out.trans (hb.mono HA5.out.size)))))
  have HSZ5 := hide hsz5
  have HQ5 := hide Q5
  clear HP5 HL15 HL25 HA5 Q5 hsz5
  cases hb with
  | false =>
    have hb5 := Below.refl W5.heap.size W5
    have HN := hide (show R.getD noF = noF by rw [← HR.out, onSet_no1 HHB.out]; rfl)
    obtain ⟨p0, p1, p2, p3, p4, p5, p6, p7, p8⟩ := cmI_cells (HK.out W5 hb5).1
    obtain ⟨r0, r1, r2, r3, r4, r5, r6, r7, r8⟩ := cmI_cells (HK.out W5 hb5).2.1
    have fz := fun j => (HK.out W5 hb5).2.1.fz j
    have HX2 := hide (HK.out W5 hb5).2.1
    have HX4 := hide (HK.out W5 hb5).2.2.2
    clear HK HR
    go_wp2
    exact bodyPost_ret (ret_cmdI (w.heap.size + 1) _ (cmI 0 tag false (.slice none 0 0) 0 0 0 (.slice none 0 0)) rfl rfl rfl (put9_blk HX2.out 0 tag false (.slice none 0 0) 0 0 0 (.slice none 0 0))) rfl (cm_no HN.out (put9_below HX4.out (by omega) _ _ _ _ _ _ _ _ _))
  | true =>
  cases so with
  | none =>
    have hb5 := Below.refl W5.heap.size W5
    have HN := hide (show R.getD noF = noF by rw [← HR.out, onSet_no2 HSO.out]; rfl)
    obtain ⟨p0, p1, p2, p3, p4, p5, p6, p7, p8⟩ := cmI_cells (HK.out W5 hb5).1
    obtain ⟨r0, r1, r2, r3, r4, r5, r6, r7, r8⟩ := cmI_cells (HK.out W5 hb5).2.1
    have fz := fun j => (HK.out W5 hb5).2.1.fz j
    have HX2 := hide (HK.out W5 hb5).2.1
    have HX4 := hide (HK.out W5 hb5).2.2.2
    clear HK HR
    go_wp2
    exact bodyPost_ret (ret_cmdI (w.heap.size + 1) _ (cmI 0 tag false (.slice none 0 0) 0 0 0 (.slice none 0 0)) rfl rfl rfl (put9_blk HX2.out 0 tag false (.slice none 0 0) 0 0 0 (.slice none 0 0))) rfl (cm_no HN.out (put9_below HX4.out (by omega) _ _ _ _ _ _ _ _ _))
  | some ps =>
  simp only [Option.isSome_some, Option.getD_some] at HK q0
  obtain ⟨p0, p1, p2, p3, p4, p5, p6, p7, p8⟩ := cmI_cells (HK.out W5 (Below.refl _ _)).1
  have HB8 := hide ((Below.refl W5.heap.size W5).alloc (Nat.le_refl _) (.cells #[.int .i64 0, .string tag, .int .u32 0, .bool false, .slice a4 ln c4, .int .i64 0, .int .i64 0, .int .u32 0, .slice none 0 0] 29))
  have HO8 := hide (show CmI (W5.alloc (.cells #[.int .i64 0, .string tag, .int .u32 0, .bool false, .slice a4 ln c4, .int .i64 0, .int .i64 0, .int .u32 0, .slice none 0 0] 29)) W5.heap.size 0 tag false (.slice a4 ln c4) 0 0 0 (.slice none 0 0) from blk_new W5 _ _)
  have q1b : (W5.alloc (.cells #[.int .i64 0, .string tag, .int .u32 0, .bool false, .slice none 0 0, .int .i64 0, .int .i64 0, .int .u32 0, .slice none 0 0] 29)).cell? ⟨w4.heap.size, 1, none⟩ = some (.slice a4 ln c4) := (HQ5.out.alloc _).c1
  have hq5 : ¬ w4.heap.size = W5.heap.size := by have := HSZ5.out; omega
  go_upto_region 7 with fail
  generalize W5.alloc (.cells #[.int .i64 0, .string tag, .int .u32 0, .bool false, .slice a4 ln c4, .int .i64 0, .int .i64 0, .int .u32 0, .slice none 0 0] 29) = W8 at HB8 HO8 ⊢
  clear p0 p1 p2 p3 p4 p5 p6 p7 p8 q0 q1 q1b HQ5 hq5
  have f8 := fun j => HO8.out.fz j
  obtain ⟨o0, o1, o2, o3, o4, o5, o6, o7, o8⟩ := cmI_cells HO8.out
  by_cases v0 : upB v = strB [70, 69, 84, 67, 72]
  · have e0 := lo_yes (c := [70, 69, 84, 67, 72]) (d := [102, 101, 116, 99, 104]) (e := [102, 101, 116, 99, 104]) v0 (by decide) (by decide) (by decide) (by decide) rfl
    have HON := hide (onSet_f (u := upB v) HSO.out HHB.out v0)
    rw [HR.out] at HON
    have HO9 := hide (HO8.out.kind 9)
    have HB9 := hide (HB8.out.setCell (p := ⟨W5.heap.size, 0, none⟩) (Nat.le_refl _) (.int .i64 9))
    clear v0
    generalize loB v = lo at e0 ⊢
    go_upto_region 10 with fail
    generalize W8.setCell ⟨W5.heap.size, 0, none⟩ (.int .i64 9) = W9 at HO9 HB9 ⊢
    have IT := hide (l6Items_any y W9 hys)
    rw [HY.out] at IT
    generalize itemsOf (nbL s.data.toList) = it at IT HON
    clear o0 o1 o2 o3 o4 o5 o6 o7 o8 f8 HO8 HB8
    go_wp2_with fail
    refine IT.out.mono ?_
    rintro e w10 ⟨rfl, hb10⟩
    have ho10 := HO9.out.below hb10 HO9.out.lt
    have f10 := fun j => ho10.fz j
    obtain ⟨o0, o1, o2, o3, o4, o5, o6, o7, o8⟩ := cmI_cells ho10
    have HO11 := hide (CmI.it ho10 (it : Int))
    have HB11 := hide ((HB9.out.trans (hb10.mono HB9.out.size)).setCell (p := ⟨W5.heap.size, 5, none⟩) (Nat.le_refl _) (.int .i64 (it : Int)))
    clear ho10 hb10 HO9 HB9 IT
    go_upto_region 11 with fail
    generalize w10.setCell ⟨W5.heap.size, 5, none⟩ (.int .i64 (it : Int)) = W11 at HO11 HB11 ⊢
    clear o0 o1 o2 o3 o4 o5 o6 o7 o8 f10
    obtain ⟨o0, o1, o2, o3, o4, o5, o6, o7, o8⟩ := cmI_cells HO11.out
    by_cases hit : it = 0
    · have hii : (it : Int) = 0 := by omega
      have hOF : R = none := by rw [HON.out, if_pos hit]
      have HRN := hide hOF
      clear hOF HON
      have HN := hide (show R.getD noF = noF by rw [HRN.out]; rfl)
      obtain ⟨p0, p1, p2, p3, p4, p5, p6, p7, p8⟩ := cmI_cells (HK.out W11 HB11.out).1
      obtain ⟨r0, r1, r2, r3, r4, r5, r6, r7, r8⟩ := cmI_cells (HK.out W11 HB11.out).2.1
      have fz := fun j => (HK.out W11 HB11.out).2.1.fz j
      have HX2 := hide (HK.out W11 HB11.out).2.1
      have HX4 := hide (HK.out W11 HB11.out).2.2.2
      clear HK HR hit
      go_wp2
      exact bodyPost_ret (ret_cmdI (w.heap.size + 1) _ (cmI 0 tag false (.slice none 0 0) 0 0 0 (.slice none 0 0)) rfl rfl rfl (put9_blk HX2.out 0 tag false (.slice none 0 0) 0 0 0 (.slice none 0 0))) rfl (cm_no HN.out (put9_below HX4.out (by omega) _ _ _ _ _ _ _ _ _))
    · have hii : ¬ (it : Int) = 0 := by omega
      have HRN := hide (show R = some ⟨9, false, ps, it, 0, 0, []⟩ by rw [HON.out, if_neg hit])
      clear HON
      have HM := hide (show R.getD noF = ⟨9, false, ps, it, 0, 0, []⟩ by rw [HRN.out]; rfl)
      have hdm := hit
      obtain ⟨r0, r1, r2, r3, r4, r5, r6, r7, r8⟩ := cmI_cells (HK.out W11 HB11.out).2.1
      have fz := fun j => (HK.out W11 HB11.out).2.1.fz j
      have HX2 := hide (HK.out W11 HB11.out).2.1
      have HX3 := hide (HK.out W11 HB11.out).2.2.1
      have HX4 := hide (HK.out W11 HB11.out).2.2.2
      clear HK HR
      go_wp2
      refine bodyPost_ret (ret_cmdI (w.heap.size + 1) _ (cmI 9 tag false (.slice a4 ln c4) (it : Int) 0 0 (.slice none 0 0)) rfl rfl rfl (put9_blk HX2.out 9 tag false (.slice a4 ln c4) (it : Int) 0 0 (.slice none 0 0))) rfl ?_
      rw [HM.out]
      exact ⟨_, _, rfl, (own9 (g := w.heap.size + 1) HX3.out _ _ _ _ _ _ _ _ _).mono (by omega), OwnB.nil _ _, .inr rfl, put9_below HX4.out (by omega) _ _ _ _ _ _ _ _ _⟩
  have e0 := lo_no (c := [70, 69, 84, 67, 72]) (d := [102, 101, 116, 99, 104]) (e := [102, 101, 116, 99, 104]) v0 (by decide) (by decide) (by decide) (by decide) rfl
  by_cases v1 : upB v = strB [83, 84, 79, 82, 69]
  · have e1 := lo_yes (c := [83, 84, 79, 82, 69]) (d := [115, 116, 111, 114, 101]) (e := [115, 116, 111, 114, 101]) v1 (by decide) (by decide) (by decide) (by decide) rfl
    have HON := hide (onSet_s (u := upB v) HSO.out HHB.out v0 v1)
    rw [HR.out] at HON
    clear v0 v1
    generalize loB v = lo at e0 e1 ⊢
    have HC2 := hide (show Calls Tryz.prog 14 #[.string y, .int .u8 32] W8 (CutPost y 32 W8) from l4Cut_any y 32 W8 hys)
    go_wp2_with fail
    refine HC2.out.mono ?_
    rintro e w9 ⟨mw, ml, ok2, rfl, hcut2, n9, rfl⟩
    obtain ⟨hmw, hml, rfl⟩ := cutIs_pc hcut2
    rw [HY.out] at hmw hml
    have HY2 := hide (congrArg hbL HY.out)
    have hml1 := nb_len (nbL s.data.toList)
    have hml2 := pc_le (nbL s.data.toList)
    have hml3 := nb_len s.data.toList
    have hmls : ml.size ≤ 1048576 := size_le hml (by omega)
    have hmws : mw.size ≤ 1048576 := size_le hmw (by omega)
    have HO9 := hide (show CmI (W8.drewN n9) W5.heap.size 0 tag false (.slice a4 ln c4) 0 0 0 (.slice none 0 0) from HO8.out)
    have HB9 := hide (below_drewN HB8.out n9)
    rw [HY2.out]
    generalize W8.drewN n9 = W9 at HO9 HB9 ⊢
    have RF := hide (specRf_any ml W9 hmls)
    rw [hml] at RF
    have HMW := hide (upB_T hmw)
    generalize upT (pcL (nbL s.data.toList)) = mu at HON HMW
    generalize hbL (nbL s.data.toList) = hb2 at HON ⊢
    generalize rfOf (nbL (nbL s.data.toList)) = rf at RF HON
    clear hmw hml hcut2 hml1 hml2 hml3 HC2 HY2 HO8 HB8 o0 o1 o2 o3 o4 o5 o6 o7 o8 f8
    go_wp2_with fail
    refine RF.out.mono ?_
    rintro e w10 ⟨rfl, hb10⟩
    have hal := (Below.refl w10.heap.size w10).alloc (Nat.le_refl _) (.cells #[.bool rf.isSome, .int .u32 ((rf.getD 0 : Nat) : Int)] 45)
    have hb11 := hb10.trans (hal.mono hb10.size)
    have B11 := blk_new w10 #[.bool rf.isSome, .int .u32 ((rf.getD 0 : Nat) : Int)] 45
    have HO11 := hide (HO9.out.below hb11 HO9.out.lt)
    have HB11 := hide (HB9.out.trans (hb11.mono HB9.out.size))
    have hs11 : W5.heap.size < w10.heap.size := Nat.lt_of_lt_of_le HO9.out.lt hb10.size
    clear hal hb11 hb10 HO9 HB9 RF
    go_upto_region 17 with fail
    generalize w10.alloc (.cells #[.bool rf.isSome, .int .u32 ((rf.getD 0 : Nat) : Int)] 45) = W11 at B11 HO11 HB11 ⊢
    have LO := hide (loB_any mw W11 hmws)
    have HB11' := hide B11
    clear B11
    go_wp2_with fail
    refine LO.out.mono ?_
    rintro e w12 ⟨rfl, hb12⟩
    have HO12 := hide (HO11.out.below hb12 HO11.out.lt)
    have HB12 := hide (HB11.out.trans (hb12.mono HB11.out.size))
    have hF12 := HB11'.out.below hb12 HB11'.out.lt
    have HF12 := hide hF12
    clear hb12 HO11 HB11 LO HB11' hF12
    have f12 := fun j => HO12.out.fz j
    obtain ⟨o0, o1, o2, o3, o4, o5, o6, o7, o8⟩ := cmI_cells HO12.out
    have hq1 : ¬ w10.heap.size = W5.heap.size := by omega
    have hq2 : ¬ W5.heap.size = w10.heap.size := by omega
    by_cases m0 : upB mw = strB [70, 76, 65, 71, 83]
    · have k0 := lo_yes (c := [70, 76, 65, 71, 83]) (d := [102, 108, 97, 103, 115]) (e := [102, 108, 97, 103, 115]) m0 (by decide) (by decide) (by decide) (by decide) rfl
      have HMD := hide (show modeOf mu = 1 by rw [← HMW.out, mode_is, if_pos m0])
      clear HMW m0
      generalize loB mw = lm at k0 ⊢
      have HO24 := hide (CmI.md HO12.out 1)
      have HB24 := hide (HB12.out.setCell (p := ⟨W5.heap.size, 6, none⟩) (Nat.le_refl _) (.int .i64 1))
      have HF24 := hide (HF12.out.other (j := 6) hq1 (.int .i64 1))
      go_upto_region 24 with fail
      generalize w12.setCell ⟨W5.heap.size, 6, none⟩ (.int .i64 1) = W24 at HO24 HB24 HF24 ⊢
      clear o0 o1 o2 o3 o4 o5 o6 o7 o8 f12 HO12 HB12 HF12
      obtain ⟨o0, o1, o2, o3, o4, o5, o6, o7, o8⟩ := cmI_cells HO24.out
      have f24 := fun j => HO24.out.fz j
      have b0 : W24.cell? ⟨w10.heap.size, 0, none⟩ = some (.bool rf.isSome) := HF24.out.cell 0
      have b1 : W24.cell? ⟨w10.heap.size, 1, none⟩ = some (.int .u32 ((rf.getD 0 : Nat) : Int)) := HF24.out.cell 1
      cases hb2 with
      | false =>
        have HN := hide (show R.getD noF = noF by rw [HON.out.2.1 rfl]; rfl)
        obtain ⟨p0, p1, p2, p3, p4, p5, p6, p7, p8⟩ := cmI_cells (HK.out W24 HB24.out).1
        obtain ⟨r0, r1, r2, r3, r4, r5, r6, r7, r8⟩ := cmI_cells (HK.out W24 HB24.out).2.1
        have fz := fun j => (HK.out W24 HB24.out).2.1.fz j
        have HX2 := hide (HK.out W24 HB24.out).2.1
        have HX4 := hide (HK.out W24 HB24.out).2.2.2
        clear HK HR HON
        go_wp2
        exact bodyPost_ret (ret_cmdI (w.heap.size + 1) _ (cmI 0 tag false (.slice none 0 0) 0 0 0 (.slice none 0 0)) rfl rfl rfl (put9_blk HX2.out 0 tag false (.slice none 0 0) 0 0 0 (.slice none 0 0))) rfl (cm_no HN.out (put9_below HX4.out (by omega) _ _ _ _ _ _ _ _ _))
      | true =>
      cases rf with
      | none =>
        simp only [Option.isSome_none] at b0
        have HN := hide (show R.getD noF = noF by rw [HON.out.1 rfl]; rfl)
        obtain ⟨p0, p1, p2, p3, p4, p5, p6, p7, p8⟩ := cmI_cells (HK.out W24 HB24.out).1
        obtain ⟨r0, r1, r2, r3, r4, r5, r6, r7, r8⟩ := cmI_cells (HK.out W24 HB24.out).2.1
        have fz := fun j => (HK.out W24 HB24.out).2.1.fz j
        have HX2 := hide (HK.out W24 HB24.out).2.1
        have HX4 := hide (HK.out W24 HB24.out).2.2.2
        clear HK HR HON
        go_wp2
        exact bodyPost_ret (ret_cmdI (w.heap.size + 1) _ (cmI 0 tag false (.slice none 0 0) 0 0 0 (.slice none 0 0)) rfl rfl rfl (put9_blk HX2.out 0 tag false (.slice none 0 0) 0 0 0 (.slice none 0 0))) rfl (cm_no HN.out (put9_below HX4.out (by omega) _ _ _ _ _ _ _ _ _))
      | some fl =>
      simp only [Option.isSome_some, Option.getD_some] at b0 b1
      have HRN := hide (show R = some ⟨10, false, ps, 0, 1, fl, []⟩ by have h := HON.out.2.2.2 fl rfl rfl (by rw [HMD.out]; decide); rw [HMD.out] at h; exact h)
      have HO28 := hide (CmI.fl (CmI.kind HO24.out 10) (fl : Int))
      have HB28 := hide ((HB24.out.setCell (p := ⟨W5.heap.size, 0, none⟩) (Nat.le_refl _) (.int .i64 10)).setCell (p := ⟨W5.heap.size, 7, none⟩) (Nat.le_refl _) (.int .u32 (fl : Int)))
      clear HON
      go_upto_region 28 with fail
      generalize (W24.setCell ⟨W5.heap.size, 0, none⟩ (.int .i64 10)).setCell ⟨W5.heap.size, 7, none⟩ (.int .u32 (fl : Int)) = W28 at HO28 HB28 ⊢
      clear o0 o1 o2 o3 o4 o5 o6 o7 o8 f24 b0 b1 HO24 HB24 HF24
      have HM := hide (show R.getD noF = ⟨10, false, ps, 0, 1, fl, []⟩ by rw [HRN.out]; rfl)
      obtain ⟨o0, o1, o2, o3, o4, o5, o6, o7, o8⟩ := cmI_cells HO28.out
      obtain ⟨r0, r1, r2, r3, r4, r5, r6, r7, r8⟩ := cmI_cells (HK.out W28 HB28.out).2.1
      have fz := fun j => (HK.out W28 HB28.out).2.1.fz j
      have HX2 := hide (HK.out W28 HB28.out).2.1
      have HX3 := hide (HK.out W28 HB28.out).2.2.1
      have HX4 := hide (HK.out W28 HB28.out).2.2.2
      clear HK HR
      go_wp2
      refine bodyPost_ret (ret_cmdI (w.heap.size + 1) _ (cmI 10 tag false (.slice a4 ln c4) 0 1 (fl : Int) (.slice none 0 0)) rfl rfl rfl (put9_blk HX2.out 10 tag false (.slice a4 ln c4) 0 1 (fl : Int) (.slice none 0 0))) rfl ?_
      rw [HM.out]
      exact ⟨_, _, rfl, (own9 (g := w.heap.size + 1) HX3.out _ _ _ _ _ _ _ _ _).mono (by omega), OwnB.nil _ _, .inr rfl, put9_below HX4.out (by omega) _ _ _ _ _ _ _ _ _⟩
    have k0 := lo_no (c := [70, 76, 65, 71, 83]) (d := [102, 108, 97, 103, 115]) (e := [102, 108, 97, 103, 115]) m0 (by decide) (by decide) (by decide) (by decide) rfl
    by_cases m1 : upB mw = strB [43, 70, 76, 65, 71, 83]
    · have k1 := lo_yes (c := [43, 70, 76, 65, 71, 83]) (d := [43, 102, 108, 97, 103, 115]) (e := [43, 102, 108, 97, 103, 115]) m1 (by decide) (by decide) (by decide) (by decide) rfl
      have HMD := hide (show modeOf mu = 2 by rw [← HMW.out, mode_is, if_neg m0, if_pos m1])
      clear HMW m0 m1
      generalize loB mw = lm at k0 k1 ⊢
      have HO24 := hide (CmI.md HO12.out 2)
      have HB24 := hide (HB12.out.setCell (p := ⟨W5.heap.size, 6, none⟩) (Nat.le_refl _) (.int .i64 2))
      have HF24 := hide (HF12.out.other (j := 6) hq1 (.int .i64 2))
      go_upto_region 24 with fail
      generalize w12.setCell ⟨W5.heap.size, 6, none⟩ (.int .i64 2) = W24 at HO24 HB24 HF24 ⊢
      clear o0 o1 o2 o3 o4 o5 o6 o7 o8 f12 HO12 HB12 HF12
      obtain ⟨o0, o1, o2, o3, o4, o5, o6, o7, o8⟩ := cmI_cells HO24.out
      have f24 := fun j => HO24.out.fz j
      have b0 : W24.cell? ⟨w10.heap.size, 0, none⟩ = some (.bool rf.isSome) := HF24.out.cell 0
      have b1 : W24.cell? ⟨w10.heap.size, 1, none⟩ = some (.int .u32 ((rf.getD 0 : Nat) : Int)) := HF24.out.cell 1
      cases hb2 with
      | false =>
        have HN := hide (show R.getD noF = noF by rw [HON.out.2.1 rfl]; rfl)
        obtain ⟨p0, p1, p2, p3, p4, p5, p6, p7, p8⟩ := cmI_cells (HK.out W24 HB24.out).1
        obtain ⟨r0, r1, r2, r3, r4, r5, r6, r7, r8⟩ := cmI_cells (HK.out W24 HB24.out).2.1
        have fz := fun j => (HK.out W24 HB24.out).2.1.fz j
        have HX2 := hide (HK.out W24 HB24.out).2.1
        have HX4 := hide (HK.out W24 HB24.out).2.2.2
        clear HK HR HON
        go_wp2
        exact bodyPost_ret (ret_cmdI (w.heap.size + 1) _ (cmI 0 tag false (.slice none 0 0) 0 0 0 (.slice none 0 0)) rfl rfl rfl (put9_blk HX2.out 0 tag false (.slice none 0 0) 0 0 0 (.slice none 0 0))) rfl (cm_no HN.out (put9_below HX4.out (by omega) _ _ _ _ _ _ _ _ _))
      | true =>
      cases rf with
      | none =>
        simp only [Option.isSome_none] at b0
        have HN := hide (show R.getD noF = noF by rw [HON.out.1 rfl]; rfl)
        obtain ⟨p0, p1, p2, p3, p4, p5, p6, p7, p8⟩ := cmI_cells (HK.out W24 HB24.out).1
        obtain ⟨r0, r1, r2, r3, r4, r5, r6, r7, r8⟩ := cmI_cells (HK.out W24 HB24.out).2.1
        have fz := fun j => (HK.out W24 HB24.out).2.1.fz j
        have HX2 := hide (HK.out W24 HB24.out).2.1
        have HX4 := hide (HK.out W24 HB24.out).2.2.2
        clear HK HR HON
        go_wp2
        exact bodyPost_ret (ret_cmdI (w.heap.size + 1) _ (cmI 0 tag false (.slice none 0 0) 0 0 0 (.slice none 0 0)) rfl rfl rfl (put9_blk HX2.out 0 tag false (.slice none 0 0) 0 0 0 (.slice none 0 0))) rfl (cm_no HN.out (put9_below HX4.out (by omega) _ _ _ _ _ _ _ _ _))
      | some fl =>
      simp only [Option.isSome_some, Option.getD_some] at b0 b1
      have HRN := hide (show R = some ⟨10, false, ps, 0, 2, fl, []⟩ by have h := HON.out.2.2.2 fl rfl rfl (by rw [HMD.out]; decide); rw [HMD.out] at h; exact h)
      have HO28 := hide (CmI.fl (CmI.kind HO24.out 10) (fl : Int))
      have HB28 := hide ((HB24.out.setCell (p := ⟨W5.heap.size, 0, none⟩) (Nat.le_refl _) (.int .i64 10)).setCell (p := ⟨W5.heap.size, 7, none⟩) (Nat.le_refl _) (.int .u32 (fl : Int)))
      clear HON
      go_upto_region 28 with fail
      generalize (W24.setCell ⟨W5.heap.size, 0, none⟩ (.int .i64 10)).setCell ⟨W5.heap.size, 7, none⟩ (.int .u32 (fl : Int)) = W28 at HO28 HB28 ⊢
      clear o0 o1 o2 o3 o4 o5 o6 o7 o8 f24 b0 b1 HO24 HB24 HF24
      have HM := hide (show R.getD noF = ⟨10, false, ps, 0, 2, fl, []⟩ by rw [HRN.out]; rfl)
      obtain ⟨o0, o1, o2, o3, o4, o5, o6, o7, o8⟩ := cmI_cells HO28.out
      obtain ⟨r0, r1, r2, r3, r4, r5, r6, r7, r8⟩ := cmI_cells (HK.out W28 HB28.out).2.1
      have fz := fun j => (HK.out W28 HB28.out).2.1.fz j
      have HX2 := hide (HK.out W28 HB28.out).2.1
      have HX3 := hide (HK.out W28 HB28.out).2.2.1
      have HX4 := hide (HK.out W28 HB28.out).2.2.2
      clear HK HR
      go_wp2
      refine bodyPost_ret (ret_cmdI (w.heap.size + 1) _ (cmI 10 tag false (.slice a4 ln c4) 0 2 (fl : Int) (.slice none 0 0)) rfl rfl rfl (put9_blk HX2.out 10 tag false (.slice a4 ln c4) 0 2 (fl : Int) (.slice none 0 0))) rfl ?_
      rw [HM.out]
      exact ⟨_, _, rfl, (own9 (g := w.heap.size + 1) HX3.out _ _ _ _ _ _ _ _ _).mono (by omega), OwnB.nil _ _, .inr rfl, put9_below HX4.out (by omega) _ _ _ _ _ _ _ _ _⟩
    have k1 := lo_no (c := [43, 70, 76, 65, 71, 83]) (d := [43, 102, 108, 97, 103, 115]) (e := [43, 102, 108, 97, 103, 115]) m1 (by decide) (by decide) (by decide) (by decide) rfl
    by_cases m2 : upB mw = strB [45, 70, 76, 65, 71, 83]
    · have k2 := lo_yes (c := [45, 70, 76, 65, 71, 83]) (d := [45, 102, 108, 97, 103, 115]) (e := [45, 102, 108, 97, 103, 115]) m2 (by decide) (by decide) (by decide) (by decide) rfl
      have HMD := hide (show modeOf mu = 3 by rw [← HMW.out, mode_is, if_neg m0, if_neg m1, if_pos m2])
      clear HMW m0 m1 m2
      generalize loB mw = lm at k0 k1 k2 ⊢
      have HO24 := hide (CmI.md HO12.out 3)
      have HB24 := hide (HB12.out.setCell (p := ⟨W5.heap.size, 6, none⟩) (Nat.le_refl _) (.int .i64 3))
      have HF24 := hide (HF12.out.other (j := 6) hq1 (.int .i64 3))
      go_upto_region 24 with fail
      generalize w12.setCell ⟨W5.heap.size, 6, none⟩ (.int .i64 3) = W24 at HO24 HB24 HF24 ⊢
      clear o0 o1 o2 o3 o4 o5 o6 o7 o8 f12 HO12 HB12 HF12
      obtain ⟨o0, o1, o2, o3, o4, o5, o6, o7, o8⟩ := cmI_cells HO24.out
      have f24 := fun j => HO24.out.fz j
      have b0 : W24.cell? ⟨w10.heap.size, 0, none⟩ = some (.bool rf.isSome) := HF24.out.cell 0
      have b1 : W24.cell? ⟨w10.heap.size, 1, none⟩ = some (.int .u32 ((rf.getD 0 : Nat) : Int)) := HF24.out.cell 1
      cases hb2 with
      | false =>
        have HN := hide (show R.getD noF = noF by rw [HON.out.2.1 rfl]; rfl)
        obtain ⟨p0, p1, p2, p3, p4, p5, p6, p7, p8⟩ := cmI_cells (HK.out W24 HB24.out).1
        obtain ⟨r0, r1, r2, r3, r4, r5, r6, r7, r8⟩ := cmI_cells (HK.out W24 HB24.out).2.1
        have fz := fun j => (HK.out W24 HB24.out).2.1.fz j
        have HX2 := hide (HK.out W24 HB24.out).2.1
        have HX4 := hide (HK.out W24 HB24.out).2.2.2
        clear HK HR HON
        go_wp2
        exact bodyPost_ret (ret_cmdI (w.heap.size + 1) _ (cmI 0 tag false (.slice none 0 0) 0 0 0 (.slice none 0 0)) rfl rfl rfl (put9_blk HX2.out 0 tag false (.slice none 0 0) 0 0 0 (.slice none 0 0))) rfl (cm_no HN.out (put9_below HX4.out (by omega) _ _ _ _ _ _ _ _ _))
      | true =>
      cases rf with
      | none =>
        simp only [Option.isSome_none] at b0
        have HN := hide (show R.getD noF = noF by rw [HON.out.1 rfl]; rfl)
        obtain ⟨p0, p1, p2, p3, p4, p5, p6, p7, p8⟩ := cmI_cells (HK.out W24 HB24.out).1
        obtain ⟨r0, r1, r2, r3, r4, r5, r6, r7, r8⟩ := cmI_cells (HK.out W24 HB24.out).2.1
        have fz := fun j => (HK.out W24 HB24.out).2.1.fz j
        have HX2 := hide (HK.out W24 HB24.out).2.1
        have HX4 := hide (HK.out W24 HB24.out).2.2.2
        clear HK HR HON
        go_wp2
        exact bodyPost_ret (ret_cmdI (w.heap.size + 1) _ (cmI 0 tag false (.slice none 0 0) 0 0 0 (.slice none 0 0)) rfl rfl rfl (put9_blk HX2.out 0 tag false (.slice none 0 0) 0 0 0 (.slice none 0 0))) rfl (cm_no HN.out (put9_below HX4.out (by omega) _ _ _ _ _ _ _ _ _))
      | some fl =>
      simp only [Option.isSome_some, Option.getD_some] at b0 b1
      have HRN := hide (show R = some ⟨10, false, ps, 0, 3, fl, []⟩ by have h := HON.out.2.2.2 fl rfl rfl (by rw [HMD.out]; decide); rw [HMD.out] at h; exact h)
      have HO28 := hide (CmI.fl (CmI.kind HO24.out 10) (fl : Int))
      have HB28 := hide ((HB24.out.setCell (p := ⟨W5.heap.size, 0, none⟩) (Nat.le_refl _) (.int .i64 10)).setCell (p := ⟨W5.heap.size, 7, none⟩) (Nat.le_refl _) (.int .u32 (fl : Int)))
      clear HON
      go_upto_region 28 with fail
      generalize (W24.setCell ⟨W5.heap.size, 0, none⟩ (.int .i64 10)).setCell ⟨W5.heap.size, 7, none⟩ (.int .u32 (fl : Int)) = W28 at HO28 HB28 ⊢
      clear o0 o1 o2 o3 o4 o5 o6 o7 o8 f24 b0 b1 HO24 HB24 HF24
      have HM := hide (show R.getD noF = ⟨10, false, ps, 0, 3, fl, []⟩ by rw [HRN.out]; rfl)
      obtain ⟨o0, o1, o2, o3, o4, o5, o6, o7, o8⟩ := cmI_cells HO28.out
      obtain ⟨r0, r1, r2, r3, r4, r5, r6, r7, r8⟩ := cmI_cells (HK.out W28 HB28.out).2.1
      have fz := fun j => (HK.out W28 HB28.out).2.1.fz j
      have HX2 := hide (HK.out W28 HB28.out).2.1
      have HX3 := hide (HK.out W28 HB28.out).2.2.1
      have HX4 := hide (HK.out W28 HB28.out).2.2.2
      clear HK HR
      go_wp2
      refine bodyPost_ret (ret_cmdI (w.heap.size + 1) _ (cmI 10 tag false (.slice a4 ln c4) 0 3 (fl : Int) (.slice none 0 0)) rfl rfl rfl (put9_blk HX2.out 10 tag false (.slice a4 ln c4) 0 3 (fl : Int) (.slice none 0 0))) rfl ?_
      rw [HM.out]
      exact ⟨_, _, rfl, (own9 (g := w.heap.size + 1) HX3.out _ _ _ _ _ _ _ _ _).mono (by omega), OwnB.nil _ _, .inr rfl, put9_below HX4.out (by omega) _ _ _ _ _ _ _ _ _⟩
    have k2 := lo_no (c := [45, 70, 76, 65, 71, 83]) (d := [45, 102, 108, 97, 103, 115]) (e := [45, 102, 108, 97, 103, 115]) m2 (by decide) (by decide) (by decide) (by decide) rfl
    have HMD := hide (show modeOf mu = 0 by rw [← HMW.out, mode_is, if_neg m0, if_neg m1, if_neg m2])
    clear HMW m0 m1 m2
    generalize loB mw = lm at k0 k1 k2 ⊢
    have HO24 := hide HO12.out
    have HB24 := hide HB12.out
    have HF24 := hide HF12.out
    go_upto_region 24 with fail
    clear f12 HO12 HB12 HF12
    have f24 := fun j => HO24.out.fz j
    have b0 : w12.cell? ⟨w10.heap.size, 0, none⟩ = some (.bool rf.isSome) := HF24.out.cell 0
    have b1 : w12.cell? ⟨w10.heap.size, 1, none⟩ = some (.int .u32 ((rf.getD 0 : Nat) : Int)) := HF24.out.cell 1
    cases hb2 with
    | false =>
      have HN := hide (show R.getD noF = noF by rw [HON.out.2.1 rfl]; rfl)
      obtain ⟨p0, p1, p2, p3, p4, p5, p6, p7, p8⟩ := cmI_cells (HK.out w12 HB24.out).1
      obtain ⟨r0, r1, r2, r3, r4, r5, r6, r7, r8⟩ := cmI_cells (HK.out w12 HB24.out).2.1
      have fz := fun j => (HK.out w12 HB24.out).2.1.fz j
      have HX2 := hide (HK.out w12 HB24.out).2.1
      have HX4 := hide (HK.out w12 HB24.out).2.2.2
      clear HK HR HON
      go_wp2
      exact bodyPost_ret (ret_cmdI (w.heap.size + 1) _ (cmI 0 tag false (.slice none 0 0) 0 0 0 (.slice none 0 0)) rfl rfl rfl (put9_blk HX2.out 0 tag false (.slice none 0 0) 0 0 0 (.slice none 0 0))) rfl (cm_no HN.out (put9_below HX4.out (by omega) _ _ _ _ _ _ _ _ _))
    | true =>
    cases rf with
    | none =>
      simp only [Option.isSome_none] at b0
      have HN := hide (show R.getD noF = noF by rw [HON.out.1 rfl]; rfl)
      obtain ⟨p0, p1, p2, p3, p4, p5, p6, p7, p8⟩ := cmI_cells (HK.out w12 HB24.out).1
      obtain ⟨r0, r1, r2, r3, r4, r5, r6, r7, r8⟩ := cmI_cells (HK.out w12 HB24.out).2.1
      have fz := fun j => (HK.out w12 HB24.out).2.1.fz j
      have HX2 := hide (HK.out w12 HB24.out).2.1
      have HX4 := hide (HK.out w12 HB24.out).2.2.2
      clear HK HR HON
      go_wp2
      exact bodyPost_ret (ret_cmdI (w.heap.size + 1) _ (cmI 0 tag false (.slice none 0 0) 0 0 0 (.slice none 0 0)) rfl rfl rfl (put9_blk HX2.out 0 tag false (.slice none 0 0) 0 0 0 (.slice none 0 0))) rfl (cm_no HN.out (put9_below HX4.out (by omega) _ _ _ _ _ _ _ _ _))
    | some fl =>
    simp only [Option.isSome_some, Option.getD_some] at b0 b1
    have HN := hide (show R.getD noF = noF by rw [HON.out.2.2.1 HMD.out]; rfl)
    obtain ⟨p0, p1, p2, p3, p4, p5, p6, p7, p8⟩ := cmI_cells (HK.out w12 HB24.out).1
    obtain ⟨r0, r1, r2, r3, r4, r5, r6, r7, r8⟩ := cmI_cells (HK.out w12 HB24.out).2.1
    have fz := fun j => (HK.out w12 HB24.out).2.1.fz j
    have HX2 := hide (HK.out w12 HB24.out).2.1
    have HX4 := hide (HK.out w12 HB24.out).2.2.2
    clear HK HR HON
    go_wp2
    exact bodyPost_ret (ret_cmdI (w.heap.size + 1) _ (cmI 0 tag false (.slice none 0 0) 0 0 0 (.slice none 0 0)) rfl rfl rfl (put9_blk HX2.out 0 tag false (.slice none 0 0) 0 0 0 (.slice none 0 0))) rfl (cm_no HN.out (put9_below HX4.out (by omega) _ _ _ _ _ _ _ _ _))
  have e1 := lo_no (c := [83, 84, 79, 82, 69]) (d := [115, 116, 111, 114, 101]) (e := [115, 116, 111, 114, 101]) v1 (by decide) (by decide) (by decide) (by decide) rfl
  have HRN := hide (HR.out.symm.trans (onSet_o (u := upB v) HSO.out v0 v1))
  clear v0 v1
  generalize loB v = lo at e0 e1 ⊢
  have HN := hide (show R.getD noF = noF by rw [HRN.out]; rfl)
  obtain ⟨p0, p1, p2, p3, p4, p5, p6, p7, p8⟩ := cmI_cells (HK.out W8 HB8.out).1
  obtain ⟨r0, r1, r2, r3, r4, r5, r6, r7, r8⟩ := cmI_cells (HK.out W8 HB8.out).2.1
  have fz := fun j => (HK.out W8 HB8.out).2.1.fz j
  have HX2 := hide (HK.out W8 HB8.out).2.1
  have HX4 := hide (HK.out W8 HB8.out).2.2.2
  clear HK HR
  go_wp2
  exact bodyPost_ret (ret_cmdI (w.heap.size + 1) _ (cmI 0 tag false (.slice none 0 0) 0 0 0 (.slice none 0 0)) rfl rfl rfl (put9_blk HX2.out 0 tag false (.slice none 0 0) 0 0 0 (.slice none 0 0))) rfl (cm_no HN.out (put9_below HX4.out (by omega) _ _ _ _ _ _ _ _ _))
end Go.Proofs.YtpedmebigcchnaaGreatDoor
