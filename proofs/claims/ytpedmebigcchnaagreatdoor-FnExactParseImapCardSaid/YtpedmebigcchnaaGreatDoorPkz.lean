import Derived.Test.YtpedmebigcchnaaGreatDoorPkw
import Derived.Test.YtpedmebigcchnaaGreatDoorPkb
import Derived.Deep.RegionHeld3
import Derived.Deep.DeepCutAuto
namespace Go.Proofs.YtpedmebigcchnaaGreatDoor
open Go.RowKit
set_option linter.unusedVariables false
theorem box3 (w : World) (A B C : Array Value) (t u v : TypeId) : Blk (((w.alloc (.cells A t)).alloc (.cells B u)).alloc (.cells C v)) w.heap.size A t ∧ Blk (((w.alloc (.cells A t)).alloc (.cells B u)).alloc (.cells C v)) (w.heap.size + 1) B u ∧ Blk (((w.alloc (.cells A t)).alloc (.cells B u)).alloc (.cells C v)) (w.heap.size + 2) C v ∧ Below w.heap.size w (((w.alloc (.cells A t)).alloc (.cells B u)).alloc (.cells C v)) ∧ (((w.alloc (.cells A t)).alloc (.cells B u)).alloc (.cells C v)).heap.size = w.heap.size + 3 := by
  obtain ⟨h1, h2, h3, h4⟩ := box2 w A B t u
  have hal := (Below.refl ((w.alloc (.cells A t)).alloc (.cells B u)).heap.size ((w.alloc (.cells A t)).alloc (.cells B u))).alloc (Nat.le_refl _) (.cells C v)
  refine ⟨h1.below hal h1.lt, h2.below hal h2.lt, ?_, h3.trans (hal.mono h3.size), by simp⟩
  have h := blk_new ((w.alloc (.cells A t)).alloc (.cells B u)) C v
  rw [h4] at h
  exact h
theorem ownB_low9 {w : World} {base : Nat} {v : Value} {l : List Nat} (h : OwnB w base v l) {p : Addr} (hp : p.block < base) (u : Value) : OwnB (w.setCell p u) base v l := by
  refine ⟨h.1, ?_⟩
  rcases h.2 with hn | ⟨g, cap, cur, hv, hbase, hg, rest⟩
  · exact .inl hn
  · exact .inr ⟨g, cap, cur, hv, hbase, (heap_setCell_other w p g u (by omega)).trans hg, rest⟩
theorem own9B {W : World} {g : Nat} {v : Value} {l : List Nat} (h : OwnB W (g + 1) v l) (u0 u1 u2 u3 u4 u5 u6 u7 u8 : Value) : OwnB (put9 W g u0 u1 u2 u3 u4 u5 u6 u7 u8) (g + 1) v l := by
  unfold put9
  exact ownB_low9 (ownB_low9 (ownB_low9 (ownB_low9 (ownB_low9 (ownB_low9 (ownB_low9 (ownB_low9 (ownB_low9 h (p := ⟨g, 0, none⟩) (Nat.lt_succ_self g) u0) (p := ⟨g, 1, none⟩) (Nat.lt_succ_self g) u1) (p := ⟨g, 2, none⟩) (Nat.lt_succ_self g) u2) (p := ⟨g, 3, none⟩) (Nat.lt_succ_self g) u3) (p := ⟨g, 4, none⟩) (Nat.lt_succ_self g) u4) (p := ⟨g, 5, none⟩) (Nat.lt_succ_self g) u5) (p := ⟨g, 6, none⟩) (Nat.lt_succ_self g) u6) (p := ⟨g, 7, none⟩) (Nat.lt_succ_self g) u7) (p := ⟨g, 8, none⟩) (Nat.lt_succ_self g) u8
/-- What ParseImap answers. -/
def ImPost (w : World) (R : List UInt8 × MF) (e : Ending) (w' : World) : Prop := CmPost w ⟨R.1.toArray⟩ R.2 e w'
theorem tag_arr {x : ByteArray} {t : List UInt8} (h : x.data.toList = t) : (⟨t.toArray⟩ : ByteArray) = x := by
  apply ByteArray.ext
  rw [← h]
theorem imA_no {bad has : Bool} {b : List Nat} {l : List UInt8} (h : bad = true ∨ 300 < l.length ∨ tagOk (pcL l) = false ∨ hbL l = false) : imA bad has b l = ([42], noF) := by
  unfold imA
  rw [if_pos h]
theorem imA_yes {has : Bool} {b : List Nat} {l : List UInt8} (h2 : ¬ 300 < l.length) (h3 : tagOk (pcL l) = true) (h4 : hbL l = true) : imA false has b l = (pcL l, (imOf has b (nbL l)).getD noF) := by
  unfold imA
  rw [if_neg]
  rintro (h | h | h | h)
  · cases h
  · exact h2 h
  · rw [h3] at h; cases h
  · rw [h4] at h; cases h
theorem im_app_no {b : List Nat} {t : List UInt8} (h : ¬ (upT (pcL t) = ⟨#[65, 80, 80, 69, 78, 68]⟩ ∧ hbL t = true)) : imOf true b t = none := by
  unfold imOf
  rw [if_pos rfl, if_neg h]
theorem im_app {b : List Nat} {t : List UInt8} (h : upT (pcL t) = ⟨#[65, 80, 80, 69, 78, 68]⟩ ∧ hbL t = true) : imOf true b t = onApp b (nbL t) := by
  unfold imOf
  rw [if_pos rfl, if_pos h]
theorem im_short {b : List Nat} {t : List UInt8} (h : hbL t = false) : imOf false b t = (if upT (pcL t) = ⟨#[78, 79, 79, 80]⟩ then some ⟨1, false, [], 0, 0, 0, []⟩
     else if upT (pcL t) = ⟨#[76, 79, 71, 79, 85, 84]⟩ then some ⟨2, false, [], 0, 0, 0, []⟩
     else if upT (pcL t) = ⟨#[69, 88, 80, 85, 78, 71, 69]⟩ then some ⟨11, false, [], 0, 0, 0, []⟩
     else none) := by
  unfold imOf
  rw [if_neg (by simp), if_pos h]
theorem im_set {b : List Nat} {t : List UInt8} (h : hbL t = true) (hu : ¬ upT (pcL t) = ⟨#[85, 73, 68]⟩) : imOf false b t = onSet (upT (pcL t)) (nbL t) := by
  unfold imOf
  rw [if_neg (by simp), if_neg (by rw [h]; simp), if_neg hu]
theorem onSet_kind {u : ByteArray} {t : List UInt8} {m : MF} (h : onSet u t = some m) : m.kind ≠ 0 ∧ m.uid = false := by
  unfold onSet at h
  repeat' split at h
  all_goals first
    | (cases h; done)
    | (simp only [Option.some.injEq] at h; subst h; exact ⟨by simp, rfl⟩)
theorem im_uid {b : List Nat} {t : List UInt8} (h : hbL t = true) (hu : upT (pcL t) = ⟨#[85, 73, 68]⟩) : (imOf false b t).getD noF = { (onSet (upT (pcL (nbL t))) (nbL (nbL t))).getD noF with uid := decide (((onSet (upT (pcL (nbL t))) (nbL (nbL t))).getD noF).kind ≠ 0) } := by
  unfold imOf
  rw [if_neg (by simp), if_neg (by rw [h]; simp), if_pos hu]
  cases e : onSet (upT (pcL (nbL t))) (nbL (nbL t)) with
  | none => rfl
  | some m =>
    have hk := (onSet_kind e).1
    show withUid m = { m with uid := decide (m.kind ≠ 0) }
    unfold withUid
    rw [decide_eq_true hk]
theorem app_nil (b : List Nat) {t : List UInt8} (h : t = []) : onApp b t = some ⟨12, false, [], 0, 0, 0, b⟩ := by
  unfold onApp
  rw [if_pos h]
theorem app_no (b : List Nat) {t : List UInt8} (h : t ≠ []) (h2 : ¬ t.getLast? = some 32 ∨ rfOf t.dropLast = none) : onApp b t = none := by
  unfold onApp
  rw [if_neg h]
  split
  · next e =>
    rcases h2 with h2 | h2
    · exact absurd e h2
    · rw [h2]
  · rfl
theorem app_yes (b : List Nat) {t : List UInt8} {fl : Nat} (h : t ≠ []) (h1 : t.getLast? = some 32) (h2 : rfOf t.dropLast = some fl) : onApp b t = some ⟨12, false, [], 0, 0, fl, b⟩ := by
  unfold onApp
  rw [if_neg h, if_pos h1, h2]
theorem own_off7 {W : World} {B g j : Nat} {v u : Value} {l : List Nat} (h : OwnB W B v l) (hne : ∀ k, v.ownBlock = some k → ¬ k = g) : OwnB (W.setCell ⟨g, j, none⟩ u) B v l := by
  refine ⟨h.1, ?_⟩
  rcases h.2 with hn | ⟨k, cap, cur, hv, hbase, hk, rest⟩
  · exact .inl hn
  · exact .inr ⟨k, cap, cur, hv, hbase, (heap_setCell_other W ⟨g, j, none⟩ k u (hne k (by rw [hv]; rfl))).trans hk, rest⟩
set_option maxRecDepth 20000 in
set_option maxHeartbeats 8000000 in
theorem specImap_any (al ab : Option Addr) (cl cb : Nat) (l b : List Nat) (has bad : Bool) (w : World) (hl : l.length ≤ 1048576) (hlb : b.length ≤ 1048576) (hr : RowAt w al l) (hrb : RowAt w ab b) :
    Calls Tryz.prog 5 #[.agg #[.slice al l.length cl, .slice ab b.length cb, .bool has, .bool bad]] w (ImPost w (imA bad has b (strB l).data.toList)) := by
  obtain ⟨L1, L2, L3, hA, hz⟩ := box3 w #[.slice al l.length cl, .slice ab b.length cb, .bool has, .bool bad] #[.int .i64 0, .string ⟨#[]⟩, .int .u32 0, .bool false, .slice none 0 0, .int .i64 0, .int .i64 0, .int .u32 0, .slice none 0 0] #[.int .i64 0, .string ⟨#[42]⟩, .int .u32 0, .bool false, .slice none 0 0, .int .i64 0, .int .i64 0, .int .u32 0, .slice none 0 0] 31 29 29
  have htl : (strB l).data.toList.length = l.length := strB_size l
  have hss : (strB l).size ≤ 1048576 := by rw [strB_size]; omega
  generalize hR : imA bad has b (strB l).data.toList = R
  have HR := hide hR
  have HRW := hide (fun (X : World) (hb : Below w.heap.size w X) => And.intro (hr.below hb) (hrb.below hb))
  clear hR hr hrb
  go_enter Tryz.func5, Tryz.ntmps5
  go_upto_region 2 with fail
  generalize ((w.alloc (.cells #[.slice al l.length cl, .slice ab b.length cb, .bool has, .bool bad] 31)).alloc (.cells #[.int .i64 0, .string ⟨#[]⟩, .int .u32 0, .bool false, .slice none 0 0, .int .i64 0, .int .i64 0, .int .u32 0, .slice none 0 0] 29)).alloc (.cells #[.int .i64 0, .string ⟨#[42]⟩, .int .u32 0, .bool false, .slice none 0 0, .int .i64 0, .int .i64 0, .int .u32 0, .slice none 0 0] 29) = W3 at L1 L2 L3 hA hz ⊢
  have HK := hide (fun (X : World) (hb : Below W3.heap.size W3 X) => And.intro (L1.below hb L1.lt) (And.intro (show CmI X (w.heap.size + 1) 0 ⟨#[]⟩ false (.slice none 0 0) 0 0 0 (.slice none 0 0) from L2.below hb L2.lt) (And.intro (show CmI X (w.heap.size + 2) 0 ⟨#[42]⟩ false (.slice none 0 0) 0 0 0 (.slice none 0 0) from L3.below hb L3.lt) (And.intro (hA.trans (hb.mono hA.size)) (HRW.out X (hA.trans (hb.mono hA.size)))))))
  have u0 : W3.cell? ⟨w.heap.size, 0, none⟩ = some (.slice al l.length cl) := L1.cell 0
  have u3 : W3.cell? ⟨w.heap.size, 3, none⟩ = some (.bool bad) := L1.cell 3
  have HZ := hide hz
  clear L1 L2 L3 hA HRW hz
  cases bad with
  | true =>
    have HN := hide (show R = ([42], noF) by rw [← HR.out]; exact imA_no (.inl rfl))
    obtain ⟨p0, p1, p2, p3, p4, p5, p6, p7, p8⟩ := cmI_cells (HK.out W3 (Below.refl _ _)).2.2.1
    obtain ⟨r0, r1, r2, r3, r4, r5, r6, r7, r8⟩ := cmI_cells (HK.out W3 (Below.refl _ _)).2.1
    have fz := fun j => (HK.out W3 (Below.refl _ _)).2.1.fz j
    have HX2 := hide (HK.out W3 (Below.refl _ _)).2.1
    have HX4 := hide (HK.out W3 (Below.refl _ _)).2.2.2.1
    clear HK HR
    go_wp2
    refine bodyPost_ret (ret_cmdI (w.heap.size + 1) _ (cmI 0 ⟨#[42]⟩ false (.slice none 0 0) 0 0 0 (.slice none 0 0)) rfl rfl rfl (put9_blk HX2.out 0 ⟨#[42]⟩ false (.slice none 0 0) 0 0 0 (.slice none 0 0))) rfl ?_
    rw [HN.out]
    exact cm_no rfl (put9_below HX4.out (by omega) _ _ _ _ _ _ _ _ _)
  | false =>
  by_cases hlen : 300 < l.length
  · have hli : (300 : Int) < (l.length : Int) := by omega
    have HN := hide (show R = ([42], noF) by rw [← HR.out]; exact imA_no (.inr (.inl (by rw [htl]; exact hlen))))
    obtain ⟨p0, p1, p2, p3, p4, p5, p6, p7, p8⟩ := cmI_cells (HK.out W3 (Below.refl _ _)).2.2.1
    obtain ⟨r0, r1, r2, r3, r4, r5, r6, r7, r8⟩ := cmI_cells (HK.out W3 (Below.refl _ _)).2.1
    have fz := fun j => (HK.out W3 (Below.refl _ _)).2.1.fz j
    have HX2 := hide (HK.out W3 (Below.refl _ _)).2.1
    have HX4 := hide (HK.out W3 (Below.refl _ _)).2.2.2.1
    clear HK HR
    go_wp2
    refine bodyPost_ret (ret_cmdI (w.heap.size + 1) _ (cmI 0 ⟨#[42]⟩ false (.slice none 0 0) 0 0 0 (.slice none 0 0)) rfl rfl rfl (put9_blk HX2.out 0 ⟨#[42]⟩ false (.slice none 0 0) 0 0 0 (.slice none 0 0))) rfl ?_
    rw [HN.out]
    exact cm_no rfl (put9_below HX4.out (by omega) _ _ _ _ _ _ _ _ _)
  have hli : ¬ (300 : Int) < (l.length : Int) := by omega
  have hcv := run_string_of W3 al cl l (HK.out W3 (Below.refl _ _)).2.2.2.2.1
  generalize strB l = s at hcv HR htl hss
  have HC := hide (show Calls Tryz.prog 14 #[.string s, .int .u8 32] W3 (CutPost s 32 W3) from l4Cut_any s 32 W3 hss)
  have hlen' : ¬ 300 < s.data.toList.length := by omega
  go_wp2_with fail
  refine HC.out.mono ?_
  rintro e w4 ⟨x, y, ok, rfl, hcut, n4, rfl⟩
  obtain ⟨hx, hy, rfl⟩ := cutIs_pc hcut
  have hpl := pc_le s.data.toList
  have hnl := nb_len s.data.toList
  have hxs : x.size ≤ 1048576 := size_le hx (by omega)
  have hys : y.size ≤ 1048576 := size_le hy (by omega)
  have HB4 := hide (below_drewN (Below.refl W3.heap.size W3) n4)
  have hz4 : (W3.drewN n4).heap.size = W3.heap.size := rfl
  generalize W3.drewN n4 = W4 at HB4 hz4 ⊢
  have TG := hide (l6Tag_any x W4 hxs)
  rw [hx] at TG
  have HY := hide hy
  have HTX := hide (tag_arr hx)
  have HZ4 := hide hz4
  generalize hok : hbL s.data.toList = ok
  have HOK := hide hok
  generalize htk : tagOk (pcL s.data.toList) = tk at TG
  have HTK := hide htk
  clear hcut hx hy HC hcv u0 u3 hpl hnl hok htk hz4
  cases ok with
  | false =>
    have HN := hide (show R = ([42], noF) by rw [← HR.out]; exact imA_no (.inr (.inr (.inr HOK.out))))
    obtain ⟨p0, p1, p2, p3, p4, p5, p6, p7, p8⟩ := cmI_cells (HK.out W4 HB4.out).2.2.1
    obtain ⟨r0, r1, r2, r3, r4, r5, r6, r7, r8⟩ := cmI_cells (HK.out W4 HB4.out).2.1
    have fz := fun j => (HK.out W4 HB4.out).2.1.fz j
    have HX2 := hide (HK.out W4 HB4.out).2.1
    have HX4 := hide (HK.out W4 HB4.out).2.2.2.1
    clear HK HR TG
    go_wp2
    refine bodyPost_ret (ret_cmdI (w.heap.size + 1) _ (cmI 0 ⟨#[42]⟩ false (.slice none 0 0) 0 0 0 (.slice none 0 0)) rfl rfl rfl (put9_blk HX2.out 0 ⟨#[42]⟩ false (.slice none 0 0) 0 0 0 (.slice none 0 0))) rfl ?_
    rw [HN.out]
    exact cm_no rfl (put9_below HX4.out (by omega) _ _ _ _ _ _ _ _ _)
  | true =>
  go_wp2_with fail
  refine TG.out.mono ?_
  rintro e w5 ⟨rfl, rfl⟩
  clear TG
  cases tk with
  | false =>
    have HN := hide (show R = ([42], noF) by rw [← HR.out]; exact imA_no (.inr (.inr (.inl HTK.out))))
    obtain ⟨p0, p1, p2, p3, p4, p5, p6, p7, p8⟩ := cmI_cells (HK.out w5 HB4.out).2.2.1
    obtain ⟨r0, r1, r2, r3, r4, r5, r6, r7, r8⟩ := cmI_cells (HK.out w5 HB4.out).2.1
    have fz := fun j => (HK.out w5 HB4.out).2.1.fz j
    have HX2 := hide (HK.out w5 HB4.out).2.1
    have HX4 := hide (HK.out w5 HB4.out).2.2.2.1
    clear HK HR
    go_wp2
    refine bodyPost_ret (ret_cmdI (w.heap.size + 1) _ (cmI 0 ⟨#[42]⟩ false (.slice none 0 0) 0 0 0 (.slice none 0 0)) rfl rfl rfl (put9_blk HX2.out 0 ⟨#[42]⟩ false (.slice none 0 0) 0 0 0 (.slice none 0 0))) rfl ?_
    rw [HN.out]
    exact cm_no rfl (put9_below HX4.out (by omega) _ _ _ _ _ _ _ _ _)
  | true =>
  have HRY := hide (HR.out.symm.trans (imA_yes hlen' HTK.out HOK.out))
  have hb7 := (Below.refl w5.heap.size w5).alloc (Nat.le_refl _) (.cells #[.int .i64 0, .string x, .int .u32 0, .bool false, .slice none 0 0, .int .i64 0, .int .i64 0, .int .u32 0, .slice none 0 0] 29)
  have g7 := blk_new w5 #[.int .i64 0, .string x, .int .u32 0, .bool false, .slice none 0 0, .int .i64 0, .int .i64 0, .int .u32 0, .slice none 0 0] 29
  have HB7 := hide (HB4.out.trans (hb7.mono HB4.out.size))
  clear hb7
  go_upto_region 8 with fail
  generalize w5.alloc (.cells #[.int .i64 0, .string x, .int .u32 0, .bool false, .slice none 0 0, .int .i64 0, .int .i64 0, .int .u32 0, .slice none 0 0] 29) = W7 at HB7 g7 ⊢
  have HK7 := hide (fun (X : World) (hb : Below W7.heap.size W7 X) => And.intro (HK.out X (HB7.out.trans (hb.mono HB7.out.size))) (show CmI X w5.heap.size 0 x false (.slice none 0 0) 0 0 0 (.slice none 0 0) from g7.below hb g7.lt))
  have HC7 := hide (show Calls Tryz.prog 14 #[.string y, .int .u8 32] W7 (CutPost y 32 W7) from l4Cut_any y 32 W7 hys)
  clear g7 HB4 HB7
  go_wp2_with fail
  refine HC7.out.mono ?_
  rintro e w8 ⟨x2, y2, ok2, rfl, hcut2, n8, rfl⟩
  obtain ⟨hx2, hy2, rfl⟩ := cutIs_pc hcut2
  have hpl := pc_le y.data.toList
  have hnl := nb_len y.data.toList
  have hyl : y.data.toList.length = y.size := rfl
  have hx2s : x2.size ≤ 1048576 := size_le hx2 (by omega)
  have hy2s : y2.size ≤ 1048576 := size_le hy2 (by omega)
  rw [HY.out] at hx2 hy2
  have HH2 := hide (congrArg hbL HY.out)
  have HB8 := hide (below_drewN (Below.refl W7.heap.size W7) n8)
  rw [HH2.out]
  generalize W7.drewN n8 = W8 at HB8 ⊢
  have LO := hide (loB_any x2 W8 hx2s)
  have HU := hide (upB_T hx2)
  have HY2 := hide hy2
  generalize hok2 : hbL (nbL s.data.toList) = ok2
  have HOK2 := hide hok2
  clear hcut2 hx2 hy2 HC7 hpl hnl hyl hok2 HH2
  go_wp2_with fail
  refine LO.out.mono ?_
  rintro e w9 ⟨rfl, hb9⟩
  have HB9 := hide (HB8.out.trans (hb9.mono HB8.out.size))
  have u2 : w9.cell? ⟨w.heap.size, 2, none⟩ = some (.bool has) := (HK7.out w9 HB9.out).1.1.cell 2
  clear hb9 LO HB8
  cases has with
  | true =>
    by_cases v0 : upB x2 = strB [65, 80, 80, 69, 78, 68]
    · have e0 := lo_yes (c := [65, 80, 80, 69, 78, 68]) (d := [97, 112, 112, 101, 110, 100]) (e := [97, 112, 112, 101, 110, 100]) v0 (by decide) (by decide) (by decide) (by decide) rfl
      cases ok2 with
      | false =>
        clear v0
        generalize loB x2 = lo at e0 ⊢
        have HN := hide (show R = (pcL s.data.toList, noF) by rw [HRY.out, im_app_no (fun h => by rw [HOK2.out] at h; cases h.2)]; rfl)
        obtain ⟨p0, p1, p2, p3, p4, p5, p6, p7, p8⟩ := cmI_cells (HK7.out w9 HB9.out).2
        obtain ⟨r0, r1, r2, r3, r4, r5, r6, r7, r8⟩ := cmI_cells (HK7.out w9 HB9.out).1.2.1
        have fz := fun j => (HK7.out w9 HB9.out).1.2.1.fz j
        have HX2 := hide (HK7.out w9 HB9.out).1.2.1
        have HX4 := hide (HK7.out w9 HB9.out).1.2.2.2.1
        clear HK HK7 HR HRY
        go_wp2
        refine bodyPost_ret (ret_cmdI (w.heap.size + 1) _ (cmI 0 x false (.slice none 0 0) 0 0 0 (.slice none 0 0)) rfl rfl rfl (put9_blk HX2.out 0 x false (.slice none 0 0) 0 0 0 (.slice none 0 0))) rfl ?_
        rw [HN.out]
        unfold ImPost
        rw [HTX.out]
        exact cm_no rfl (put9_below HX4.out (by omega) _ _ _ _ _ _ _ _ _)
      | true =>
        have HAP := hide (im_app (b := b) (t := nbL s.data.toList) ⟨HU.out.symm.trans v0, HOK2.out⟩)
        clear v0
        generalize loB x2 = lo at e0 ⊢
        have u1 : w9.cell? ⟨w.heap.size, 1, none⟩ = some (.slice ab b.length cb) := (HK7.out w9 HB9.out).1.1.cell 1
        have BY := hide (l1Bytes_any ab cb b w9 hlb (HK7.out w9 HB9.out).1.2.2.2.2.2)
        go_wp2_with fail
        refine BY.out.mono ?_
        rintro e w10 ⟨rfl, ho10, hb10⟩
        have hal := (Below.refl w10.heap.size w10).alloc (Nat.le_refl _) (.cells #[.int .i64 12, .string x, .int .u32 0, .bool false, .slice none 0 0, .int .i64 0, .int .i64 0, .int .u32 0, .slice (some ⟨w9.heap.size, 0, none⟩) b.length b.length] 29)
        have hb11 := hb10.trans (hal.mono hb10.size)
        have O14 := blk_new w10 #[.int .i64 12, .string x, .int .u32 0, .bool false, .slice none 0 0, .int .i64 0, .int .i64 0, .int .u32 0, .slice (some ⟨w9.heap.size, 0, none⟩) b.length b.length] 29
        have HB14 := hide (HB9.out.trans (hb11.mono HB9.out.size))
        have hbs : w.heap.size + 2 ≤ w9.heap.size := by have h1 := (HK7.out w9 HB9.out).1.2.2.1.lt; omega
        have HBO := hide ((ho10.below hal (Nat.le_refl _)).mono hbs)
        have HQ9 := hide (show ¬ w9.heap.size = w10.heap.size by have h1 := World.ownsRow.lt ho10 w9.heap.size rfl; omega)
        have hs910 : W7.heap.size ≤ w10.heap.size := by have h1 := HB9.out.size; have h2 := hb10.size; omega
        clear hal hb11 ho10 hb10 BY u1 u2
        go_upto_region 14 with fail
        generalize w10.alloc (.cells #[.int .i64 12, .string x, .int .u32 0, .bool false, .slice none 0 0, .int .i64 0, .int .i64 0, .int .u32 0, .slice (some ⟨w9.heap.size, 0, none⟩) b.length b.length] 29) = W14 at O14 HB14 HBO ⊢
        have HO14 := hide (show CmI W14 w10.heap.size 12 x false (.slice none 0 0) 0 0 0 (.slice (some ⟨w9.heap.size, 0, none⟩) b.length b.length) from O14)
        clear O14
        by_cases hmo : y2.data.toList = []
        · have hmz : y2.toList.isEmpty = true := by rw [ByteArray.toList_eq, hmo]; rfl
          have HI := hide (show imOf true b (nbL s.data.toList) = some ⟨12, false, [], 0, 0, 0, b⟩ by rw [HAP.out, app_nil b (HY2.out.symm.trans hmo)])
          clear hmo HAP
          have HN := hide (show R = (pcL s.data.toList, ⟨12, false, [], 0, 0, 0, b⟩) by rw [HRY.out, HI.out]; rfl)
          obtain ⟨p0, p1, p2, p3, p4, p5, p6, p7, p8⟩ := cmI_cells HO14.out
          obtain ⟨r0, r1, r2, r3, r4, r5, r6, r7, r8⟩ := cmI_cells (HK7.out W14 HB14.out).1.2.1
          have fz := fun j => (HK7.out W14 HB14.out).1.2.1.fz j
          have HX2 := hide (HK7.out W14 HB14.out).1.2.1
          have HX4 := hide (HK7.out W14 HB14.out).1.2.2.2.1
          clear HK HK7 HR HRY
          go_wp2
          refine bodyPost_ret (ret_cmdI (w.heap.size + 1) _ (cmI 12 x false (.slice none 0 0) 0 0 0 (.slice (some ⟨w9.heap.size, 0, none⟩) b.length b.length)) rfl rfl rfl (put9_blk HX2.out 12 x false (.slice none 0 0) 0 0 0 (.slice (some ⟨w9.heap.size, 0, none⟩) b.length b.length))) rfl ?_
          rw [HN.out]
          unfold ImPost
          rw [HTX.out]
          exact ⟨_, _, rfl, OwnP.nil _ _, (own9B (g := w.heap.size + 1) HBO.out _ _ _ _ _ _ _ _ _).mono (by omega), .inl rfl, put9_below HX4.out (by omega) _ _ _ _ _ _ _ _ _⟩
        have hmz : y2.toList.isEmpty = false := by rw [ByteArray.toList_eq]; simpa using hmo
        have hyz : 0 < y2.size := by
          have h1 : y2.data.toList.length = y2.size := rfl
          have h2 : 0 < y2.data.toList.length := List.length_pos_iff.2 hmo
          omega
        have hyi : (1 : Int) ≤ (y2.size : Int) := by omega
        have hnn : nbL (nbL s.data.toList) ≠ [] := fun h => hmo (HY2.out.trans h)
        have HNN := hide hnn
        have hex : (y2.extract 0 (y2.size - 1)).data.toList = (nbL (nbL s.data.toList)).dropLast := by
          rw [ext_list, List.drop_zero, Nat.sub_zero, ← HY2.out, List.dropLast_eq_take]
          rfl
        have hlast : (nbL (nbL s.data.toList)).getLast? = some (y2[y2.size - 1]'(by omega)) := by
          rw [← HY2.out, List.getLast?_eq_getElem?, List.getElem?_eq_getElem (show y2.data.toList.length - 1 < y2.data.toList.length from (show y2.size - 1 < y2.size by omega))]
          rfl
        have HLA := hide hlast
        have hes : (y2.extract 0 (y2.size - 1)).size ≤ 1048576 := size_le hex (by rw [List.length_dropLast, ← HY2.out]; show y2.size - 1 ≤ 1048576; omega)
        have RF := hide (specRf_any (y2.extract 0 (y2.size - 1)) W14 hes)
        rw [hex] at RF
        generalize hrf : rfOf (nbL (nbL s.data.toList)).dropLast = rf at RF
        have HRF := hide hrf
        clear hrf hlast hex hnn hmo hes
        go_wp2_with fail
        refine RF.out.mono ?_
        rintro e w16 ⟨rfl, hb16⟩
        have hal := (Below.refl w16.heap.size w16).alloc (Nat.le_refl _) (.cells #[.bool rf.isSome, .int .u32 ((rf.getD 0 : Nat) : Int)] 45)
        have hb17 := hb16.trans (hal.mono hb16.size)
        have B17 := blk_new w16 #[.bool rf.isSome, .int .u32 ((rf.getD 0 : Nat) : Int)] 45
        have HO17 := hide (HO14.out.below hb17 HO14.out.lt)
        have HB17 := hide (HB14.out.trans (hb17.mono HB14.out.size))
        have HBO17 := hide (HBO.out.below hb17 (Nat.le_refl _))
        have hq1 : ¬ w16.heap.size = w10.heap.size := by have h1 := HO14.out.lt; have h2 := hb16.size; omega
        have hq2 : ¬ w10.heap.size = w16.heap.size := fun h => hq1 h.symm
        clear hal hb17 hb16 HO14 HB14 HBO RF
        go_upto_region 17 with fail
        generalize w16.alloc (.cells #[.bool rf.isSome, .int .u32 ((rf.getD 0 : Nat) : Int)] 45) = W17 at B17 HO17 HB17 HBO17 ⊢
        have b0 : W17.cell? ⟨w16.heap.size, 0, none⟩ = some (.bool rf.isSome) := B17.cell 0
        have b1 : W17.cell? ⟨w16.heap.size, 1, none⟩ = some (.int .u32 ((rf.getD 0 : Nat) : Int)) := B17.cell 1
        clear B17
        by_cases hla : y2[y2.size - 1]'(by omega) = 32
        · cases rf with
          | none =>
            simp only [Option.isSome_none] at b0
            have HI := hide (show imOf true b (nbL s.data.toList) = none by rw [HAP.out, app_no b HNN.out (.inr HRF.out)])
            clear HAP
            have HN := hide (show R = (pcL s.data.toList, noF) by rw [HRY.out, HI.out]; rfl)
            obtain ⟨p0, p1, p2, p3, p4, p5, p6, p7, p8⟩ := cmI_cells (HK7.out W17 HB17.out).2
            obtain ⟨r0, r1, r2, r3, r4, r5, r6, r7, r8⟩ := cmI_cells (HK7.out W17 HB17.out).1.2.1
            have fz := fun j => (HK7.out W17 HB17.out).1.2.1.fz j
            have HX2 := hide (HK7.out W17 HB17.out).1.2.1
            have HX4 := hide (HK7.out W17 HB17.out).1.2.2.2.1
            clear HK HK7 HR HRY
            go_wp2
            refine bodyPost_ret (ret_cmdI (w.heap.size + 1) _ (cmI 0 x false (.slice none 0 0) 0 0 0 (.slice none 0 0)) rfl rfl rfl (put9_blk HX2.out 0 x false (.slice none 0 0) 0 0 0 (.slice none 0 0))) rfl ?_
            rw [HN.out]
            unfold ImPost
            rw [HTX.out]
            exact cm_no rfl (put9_below HX4.out (by omega) _ _ _ _ _ _ _ _ _)
          | some fl =>
            simp only [Option.isSome_some, Option.getD_some] at b0 b1
            have HI := hide (show imOf true b (nbL s.data.toList) = some ⟨12, false, [], 0, 0, fl, b⟩ by rw [HAP.out, app_yes b HNN.out (by rw [HLA.out, hla]) HRF.out])
            have HO19 := hide (CmI.fl HO17.out (fl : Int))
            have HB19 := hide (HB17.out.setCell (p := ⟨w10.heap.size, 7, none⟩) hs910 (.int .u32 (fl : Int)))
            obtain ⟨o0, o1, o2, o3, o4, o5, o6, o7, o8⟩ := cmI_cells HO17.out
            have f17 := fun j => HO17.out.fz j
            have HBL := hide (show OwnB (W17.setCell ⟨w10.heap.size, 7, none⟩ (.int .u32 (fl : Int))) (w.heap.size + 2) (.slice (some ⟨w9.heap.size, 0, none⟩) b.length b.length) b from own_off7 HBO17.out (by intro g hg; cases hg; exact HQ9.out))
            clear HAP
            go_upto_region 20 with fail
            generalize W17.setCell ⟨w10.heap.size, 7, none⟩ (.int .u32 (fl : Int)) = W19 at HO19 HB19 HBL ⊢
            clear o0 o1 o2 o3 o4 o5 o6 o7 o8 f17 b0 b1 HO17 HB17 HBO17
            have HN := hide (show R = (pcL s.data.toList, ⟨12, false, [], 0, 0, fl, b⟩) by rw [HRY.out, HI.out]; rfl)
            obtain ⟨p0, p1, p2, p3, p4, p5, p6, p7, p8⟩ := cmI_cells HO19.out
            obtain ⟨r0, r1, r2, r3, r4, r5, r6, r7, r8⟩ := cmI_cells (HK7.out W19 HB19.out).1.2.1
            have fz := fun j => (HK7.out W19 HB19.out).1.2.1.fz j
            have HX2 := hide (HK7.out W19 HB19.out).1.2.1
            have HX4 := hide (HK7.out W19 HB19.out).1.2.2.2.1
            clear HK HK7 HR HRY
            go_wp2
            refine bodyPost_ret (ret_cmdI (w.heap.size + 1) _ (cmI 12 x false (.slice none 0 0) 0 0 (fl : Int) (.slice (some ⟨w9.heap.size, 0, none⟩) b.length b.length)) rfl rfl rfl (put9_blk HX2.out 12 x false (.slice none 0 0) 0 0 (fl : Int) (.slice (some ⟨w9.heap.size, 0, none⟩) b.length b.length))) rfl ?_
            rw [HN.out]
            unfold ImPost
            rw [HTX.out]
            exact ⟨_, _, rfl, OwnP.nil _ _, (own9B (g := w.heap.size + 1) HBL.out _ _ _ _ _ _ _ _ _).mono (by omega), .inl rfl, put9_below HX4.out (by omega) _ _ _ _ _ _ _ _ _⟩
        · have hla2 : ¬ ((y2[y2.size - 1]'(by omega)).toNat : Int) = 32 := by have h : (((y2[y2.size - 1]'(by omega)).toNat : Int) == 32) = false := u8_ne hla; simpa using h
          have HI := hide (show imOf true b (nbL s.data.toList) = none by rw [HAP.out, app_no b HNN.out (.inl (by rw [HLA.out]; intro h; exact hla (Option.some.inj h)))])
          clear HAP
          have HN := hide (show R = (pcL s.data.toList, noF) by rw [HRY.out, HI.out]; rfl)
          obtain ⟨p0, p1, p2, p3, p4, p5, p6, p7, p8⟩ := cmI_cells (HK7.out W17 HB17.out).2
          obtain ⟨r0, r1, r2, r3, r4, r5, r6, r7, r8⟩ := cmI_cells (HK7.out W17 HB17.out).1.2.1
          have fz := fun j => (HK7.out W17 HB17.out).1.2.1.fz j
          have HX2 := hide (HK7.out W17 HB17.out).1.2.1
          have HX4 := hide (HK7.out W17 HB17.out).1.2.2.2.1
          clear HK HK7 HR HRY
          go_wp2
          refine bodyPost_ret (ret_cmdI (w.heap.size + 1) _ (cmI 0 x false (.slice none 0 0) 0 0 0 (.slice none 0 0)) rfl rfl rfl (put9_blk HX2.out 0 x false (.slice none 0 0) 0 0 0 (.slice none 0 0))) rfl ?_
          rw [HN.out]
          unfold ImPost
          rw [HTX.out]
          exact cm_no rfl (put9_below HX4.out (by omega) _ _ _ _ _ _ _ _ _)
    · have e0 := lo_no (c := [65, 80, 80, 69, 78, 68]) (d := [97, 112, 112, 101, 110, 100]) (e := [97, 112, 112, 101, 110, 100]) v0 (by decide) (by decide) (by decide) (by decide) rfl
      have HV0 := hide v0
      clear v0
      generalize loB x2 = lo at e0 ⊢
      have HN := hide (show R = (pcL s.data.toList, noF) by rw [HRY.out, im_app_no (fun h => HV0.out (HU.out.trans h.1))]; rfl)
      obtain ⟨p0, p1, p2, p3, p4, p5, p6, p7, p8⟩ := cmI_cells (HK7.out w9 HB9.out).2
      obtain ⟨r0, r1, r2, r3, r4, r5, r6, r7, r8⟩ := cmI_cells (HK7.out w9 HB9.out).1.2.1
      have fz := fun j => (HK7.out w9 HB9.out).1.2.1.fz j
      have HX2 := hide (HK7.out w9 HB9.out).1.2.1
      have HX4 := hide (HK7.out w9 HB9.out).1.2.2.2.1
      clear HK HK7 HR HRY
      go_wp2
      refine bodyPost_ret (ret_cmdI (w.heap.size + 1) _ (cmI 0 x false (.slice none 0 0) 0 0 0 (.slice none 0 0)) rfl rfl rfl (put9_blk HX2.out 0 x false (.slice none 0 0) 0 0 0 (.slice none 0 0))) rfl ?_
      rw [HN.out]
      unfold ImPost
      rw [HTX.out]
      exact cm_no rfl (put9_below HX4.out (by omega) _ _ _ _ _ _ _ _ _)
  | false =>
    cases ok2 with
    | false =>
      have HSH := hide (im_short (b := b) HOK2.out)
      rw [← HU.out] at HSH
      by_cases v0 : upB x2 = strB [78, 79, 79, 80]
      · have e0 := lo_yes (c := [78, 79, 79, 80]) (d := [110, 111, 111, 112]) (e := [110, 111, 111, 112]) v0 (by decide) (by decide) (by decide) (by decide) rfl
        have HI := hide (show imOf false b (nbL s.data.toList) = some ⟨1, false, [], 0, 0, 0, []⟩ by rw [HSH.out]; exact if_pos v0)
        clear HSH v0
        generalize loB x2 = lo at e0 ⊢
        have HN := hide (show R = (pcL s.data.toList, ⟨1, false, [], 0, 0, 0, []⟩) by rw [HRY.out, HI.out]; rfl)
        obtain ⟨r0, r1, r2, r3, r4, r5, r6, r7, r8⟩ := cmI_cells (HK7.out w9 HB9.out).1.2.1
        have fz := fun j => (HK7.out w9 HB9.out).1.2.1.fz j
        have HX2 := hide (HK7.out w9 HB9.out).1.2.1
        have HX4 := hide (HK7.out w9 HB9.out).1.2.2.2.1
        clear HK HK7 HR HRY
        go_wp2
        refine bodyPost_ret (ret_cmdI (w.heap.size + 1) _ (cmI 1 x false (.slice none 0 0) 0 0 0 (.slice none 0 0)) rfl rfl rfl (put9_blk HX2.out 1 x false (.slice none 0 0) 0 0 0 (.slice none 0 0))) rfl ?_
        rw [HN.out]
        unfold ImPost
        rw [HTX.out]
        exact ⟨_, _, rfl, OwnP.nil _ _, OwnB.nil _ _, .inl rfl, put9_below HX4.out (by omega) _ _ _ _ _ _ _ _ _⟩
      have e0 := lo_no (c := [78, 79, 79, 80]) (d := [110, 111, 111, 112]) (e := [110, 111, 111, 112]) v0 (by decide) (by decide) (by decide) (by decide) rfl
      by_cases v1 : upB x2 = strB [76, 79, 71, 79, 85, 84]
      · have e1 := lo_yes (c := [76, 79, 71, 79, 85, 84]) (d := [108, 111, 103, 111, 117, 116]) (e := [108, 111, 103, 111, 117, 116]) v1 (by decide) (by decide) (by decide) (by decide) rfl
        have HI := hide (show imOf false b (nbL s.data.toList) = some ⟨2, false, [], 0, 0, 0, []⟩ by rw [HSH.out]; exact (if_neg v0).trans (if_pos v1))
        clear HSH v0 v1
        generalize loB x2 = lo at e0 e1 ⊢
        have HN := hide (show R = (pcL s.data.toList, ⟨2, false, [], 0, 0, 0, []⟩) by rw [HRY.out, HI.out]; rfl)
        obtain ⟨r0, r1, r2, r3, r4, r5, r6, r7, r8⟩ := cmI_cells (HK7.out w9 HB9.out).1.2.1
        have fz := fun j => (HK7.out w9 HB9.out).1.2.1.fz j
        have HX2 := hide (HK7.out w9 HB9.out).1.2.1
        have HX4 := hide (HK7.out w9 HB9.out).1.2.2.2.1
        clear HK HK7 HR HRY
        go_wp2
        refine bodyPost_ret (ret_cmdI (w.heap.size + 1) _ (cmI 2 x false (.slice none 0 0) 0 0 0 (.slice none 0 0)) rfl rfl rfl (put9_blk HX2.out 2 x false (.slice none 0 0) 0 0 0 (.slice none 0 0))) rfl ?_
        rw [HN.out]
        unfold ImPost
        rw [HTX.out]
        exact ⟨_, _, rfl, OwnP.nil _ _, OwnB.nil _ _, .inl rfl, put9_below HX4.out (by omega) _ _ _ _ _ _ _ _ _⟩
      have e1 := lo_no (c := [76, 79, 71, 79, 85, 84]) (d := [108, 111, 103, 111, 117, 116]) (e := [108, 111, 103, 111, 117, 116]) v1 (by decide) (by decide) (by decide) (by decide) rfl
      by_cases v2 : upB x2 = strB [69, 88, 80, 85, 78, 71, 69]
      · have e2 := lo_yes (c := [69, 88, 80, 85, 78, 71, 69]) (d := [101, 120, 112, 117, 110, 103, 101]) (e := [101, 120, 112, 117, 110, 103, 101]) v2 (by decide) (by decide) (by decide) (by decide) rfl
        have HI := hide (show imOf false b (nbL s.data.toList) = some ⟨11, false, [], 0, 0, 0, []⟩ by rw [HSH.out]; exact (if_neg v0).trans ((if_neg v1).trans (if_pos v2)))
        clear HSH v0 v1 v2
        generalize loB x2 = lo at e0 e1 e2 ⊢
        have HN := hide (show R = (pcL s.data.toList, ⟨11, false, [], 0, 0, 0, []⟩) by rw [HRY.out, HI.out]; rfl)
        obtain ⟨r0, r1, r2, r3, r4, r5, r6, r7, r8⟩ := cmI_cells (HK7.out w9 HB9.out).1.2.1
        have fz := fun j => (HK7.out w9 HB9.out).1.2.1.fz j
        have HX2 := hide (HK7.out w9 HB9.out).1.2.1
        have HX4 := hide (HK7.out w9 HB9.out).1.2.2.2.1
        clear HK HK7 HR HRY
        go_wp2
        refine bodyPost_ret (ret_cmdI (w.heap.size + 1) _ (cmI 11 x false (.slice none 0 0) 0 0 0 (.slice none 0 0)) rfl rfl rfl (put9_blk HX2.out 11 x false (.slice none 0 0) 0 0 0 (.slice none 0 0))) rfl ?_
        rw [HN.out]
        unfold ImPost
        rw [HTX.out]
        exact ⟨_, _, rfl, OwnP.nil _ _, OwnB.nil _ _, .inl rfl, put9_below HX4.out (by omega) _ _ _ _ _ _ _ _ _⟩
      have e2 := lo_no (c := [69, 88, 80, 85, 78, 71, 69]) (d := [101, 120, 112, 117, 110, 103, 101]) (e := [101, 120, 112, 117, 110, 103, 101]) v2 (by decide) (by decide) (by decide) (by decide) rfl
      have HI := hide (show imOf false b (nbL s.data.toList) = none by rw [HSH.out]; exact (if_neg v0).trans ((if_neg v1).trans (if_neg v2)))
      clear HSH v0 v1 v2
      generalize loB x2 = lo at e0 e1 e2 ⊢
      have HN := hide (show R = (pcL s.data.toList, noF) by rw [HRY.out, HI.out]; rfl)
      obtain ⟨p0, p1, p2, p3, p4, p5, p6, p7, p8⟩ := cmI_cells (HK7.out w9 HB9.out).2
      obtain ⟨r0, r1, r2, r3, r4, r5, r6, r7, r8⟩ := cmI_cells (HK7.out w9 HB9.out).1.2.1
      have fz := fun j => (HK7.out w9 HB9.out).1.2.1.fz j
      have HX2 := hide (HK7.out w9 HB9.out).1.2.1
      have HX4 := hide (HK7.out w9 HB9.out).1.2.2.2.1
      clear HK HK7 HR HRY
      go_wp2
      refine bodyPost_ret (ret_cmdI (w.heap.size + 1) _ (cmI 0 x false (.slice none 0 0) 0 0 0 (.slice none 0 0)) rfl rfl rfl (put9_blk HX2.out 0 x false (.slice none 0 0) 0 0 0 (.slice none 0 0))) rfl ?_
      rw [HN.out]
      unfold ImPost
      rw [HTX.out]
      exact cm_no rfl (put9_below HX4.out (by omega) _ _ _ _ _ _ _ _ _)
    | true =>
      by_cases v0 : upB x2 = strB [85, 73, 68]
      · have e0 := lo_yes (c := [85, 73, 68]) (d := [117, 105, 100]) (e := [117, 105, 100]) v0 (by decide) (by decide) (by decide) (by decide) rfl
        have HUI := hide (im_uid (b := b) HOK2.out (HU.out.symm.trans v0))
        clear v0
        generalize loB x2 = lo at e0 ⊢
        have HC9 := hide (show Calls Tryz.prog 14 #[.string y2, .int .u8 32] w9 (CutPost y2 32 w9) from l4Cut_any y2 32 w9 hy2s)
        go_wp2_with fail
        refine HC9.out.mono ?_
        rintro e w31 ⟨x3, y3, ok3, rfl, hcut3, n31, rfl⟩
        obtain ⟨hx3, hy3, rfl⟩ := cutIs_pc hcut3
        have hpl := pc_le y2.data.toList
        have hnl := nb_len y2.data.toList
        have hyl : y2.data.toList.length = y2.size := rfl
        have hx3s : x3.size ≤ 1048576 := size_le hx3 (by omega)
        have hy3s : y3.size ≤ 1048576 := size_le hy3 (by omega)
        rw [HY2.out] at hx3 hy3
        have HB31 := hide (below_drewN HB9.out n31)
        generalize w9.drewN n31 = W31 at HB31 ⊢
        have LO3 := hide (fun X => loB_any x3 X hx3s)
        have ON := hide (fun X => l6OnSet_any x x3 y3 X hy3s)
        rw [upB_T hx3, hy3] at ON
        generalize (onSet (upT (pcL (nbL (nbL s.data.toList)))) (nbL (nbL (nbL s.data.toList)))).getD noF = M at ON HUI
        obtain ⟨K, ud, ps, it, md, fl, bd0⟩ := M
        have HI := hide (show (imOf false b (nbL s.data.toList)).getD noF = ⟨K, decide (K ≠ 0), ps, it, md, fl, bd0⟩ from HUI.out)
        generalize hbL y2.data.toList = ok3
        obtain ⟨p0, p1, p2, p3, p4, p5, p6, p7, p8⟩ := cmI_cells (HK7.out W31 HB31.out).2
        have n31 : ¬ W31.heap.size = w5.heap.size := by have h1 := (HK7.out W31 HB31.out).2.lt; omega
        have m31 : ¬ w5.heap.size = W31.heap.size := fun h => n31 h.symm
        clear hcut3 hx3 hy3 HC9 hpl hnl hyl HUI u2 HB9
        go_upto_region 32 with fail
        go_cut [16] (fun p wx => ∃ (g : Nat) (sa : Option Addr) (sn sc : Nat) (ba : Option Addr) (bn bc : Nat), p = .pointer (some ⟨g, 0, none⟩) ∧ CmI wx g K x ud (.slice sa sn sc) (it : Int) (md : Int) (fl : Int) (.slice ba bn bc) ∧ (∀ u : Value, Below W7.heap.size W7 (wx.setCell ⟨g, 3, none⟩ u)) ∧ (∀ u : Value, OwnP (wx.setCell ⟨g, 3, none⟩ u) (w.heap.size + 2) (.slice sa sn sc) (List.map prI ps)) ∧ (∀ u : Value, OwnB (wx.setCell ⟨g, 3, none⟩ u) (w.heap.size + 2) (.slice ba bn bc) bd0) ∧ (Value.slice sa sn sc = .slice none 0 0 ∨ Value.slice ba bn bc = .slice none 0 0))
        case first =>
          go_region_held3 (fun w' => w'.cell? ⟨w5.heap.size, 0, none⟩ = some (.int .i64 0) ∧ w'.cell? ⟨w5.heap.size, 1, none⟩ = some (.string x) ∧ w'.cell? ⟨w5.heap.size, 2, none⟩ = some (.int .u32 0) ∧ w'.cell? ⟨w5.heap.size, 3, none⟩ = some (.bool false) ∧ w'.cell? ⟨w5.heap.size, 4, none⟩ = some (.slice none 0 0) ∧ w'.cell? ⟨w5.heap.size, 5, none⟩ = some (.int .i64 0) ∧ w'.cell? ⟨w5.heap.size, 6, none⟩ = some (.int .i64 0) ∧ w'.cell? ⟨w5.heap.size, 7, none⟩ = some (.int .u32 0) ∧ w'.cell? ⟨w5.heap.size, 8, none⟩ = some (.slice none 0 0)) (go_keep)
            (first
            | (go_at_call 16; refine (LO3.out _).mono ?_; rintro e w13 ⟨rfl, hb13⟩; first
                | (have HB13 := hide (HB31.out.trans (((Below.refl W31.heap.size W31).drew.trans hb13).mono HB31.out.size)); obtain ⟨q0, q1, q2, q3, q4, q5, q6, q7, q8⟩ := cmI_cells (HK7.out w13 HB13.out).2; have n13 : ¬ w13.heap.size = w5.heap.size := (by have h1 := (HK7.out w13 HB13.out).2.lt; omega); have m13 : ¬ w5.heap.size = w13.heap.size := (fun h => n13 h.symm); clear hb13)
                | (have hbX := ((Below.refl W31.heap.size W31).alloc (Nat.le_refl _) (.cells #[.int .i64 0, .string ⟨#[]⟩, .int .u32 0, .bool false, .slice none 0 0, .int .i64 0, .int .i64 0, .int .u32 0, .slice none 0 0] 29)).drew; have HB13 := hide (HB31.out.trans ((hbX.trans (hb13.mono hbX.size)).mono HB31.out.size)); obtain ⟨q0, q1, q2, q3, q4, q5, q6, q7, q8⟩ := cmI_cells (HK7.out w13 HB13.out).2; have hBX : CmI w13 W31.heap.size 0 ⟨#[]⟩ false (.slice none 0 0) 0 0 0 (.slice none 0 0) := (Blk.below (w := (W31.alloc (.cells #[.int .i64 0, .string ⟨#[]⟩, .int .u32 0, .bool false, .slice none 0 0, .int .i64 0, .int .i64 0, .int .u32 0, .slice none 0 0] 29)).drew) (show Blk (W31.alloc (.cells #[.int .i64 0, .string ⟨#[]⟩, .int .u32 0, .bool false, .slice none 0 0, .int .i64 0, .int .i64 0, .int .u32 0, .slice none 0 0] 29)).drew W31.heap.size #[.int .i64 0, .string ⟨#[]⟩, .int .u32 0, .bool false, .slice none 0 0, .int .i64 0, .int .i64 0, .int .u32 0, .slice none 0 0] 29 from blk_new W31 #[.int .i64 0, .string ⟨#[]⟩, .int .u32 0, .bool false, .slice none 0 0, .int .i64 0, .int .i64 0, .int .u32 0, .slice none 0 0] 29) hb13 (show W31.heap.size < (W31.alloc (.cells #[.int .i64 0, .string ⟨#[]⟩, .int .u32 0, .bool false, .slice none 0 0, .int .i64 0, .int .i64 0, .int .u32 0, .slice none 0 0] 29)).heap.size by simp)); have HBX := hide hBX; have n13 : ¬ w13.heap.size = w5.heap.size := (by have h1 := (HK7.out w13 HB13.out).2.lt; omega); have m13 : ¬ w5.heap.size = w13.heap.size := (fun h => n13 h.symm); clear hb13 hbX hBX))
            | (go_at_call 19; first
                | (refine (ON.out (w13.alloc (.cells #[.int .i64 0, .string ⟨#[]⟩, .int .u32 0, .bool false, .slice none 0 0, .int .i64 0, .int .i64 0, .int .u32 0, .slice none 0 0] 29))).mono ?_; rintro e w14 ⟨st, bd, rfl, hP0, hB0, hor, hb14⟩; have hal := (Below.refl w13.heap.size w13).alloc (Nat.le_refl _) (.cells #[.int .i64 0, .string ⟨#[]⟩, .int .u32 0, .bool false, .slice none 0 0, .int .i64 0, .int .i64 0, .int .u32 0, .slice none 0 0] 29); have HB14 := hide (HB13.out.trans ((hal.trans (hb14.mono hal.size)).mono HB13.out.size)); have hP : OwnP w14 (w13.heap.size + 1) st (List.map prI ps) := (by have h := hP0; rw [World.size_alloc] at h; exact h); have hB : OwnB w14 (w13.heap.size + 1) bd bd0 := (by have h := hB0; rw [World.size_alloc] at h; exact h); have hG : CmI w14 w13.heap.size 0 ⟨#[]⟩ false (.slice none 0 0) 0 0 0 (.slice none 0 0) := (Blk.below (blk_new w13 #[.int .i64 0, .string ⟨#[]⟩, .int .u32 0, .bool false, .slice none 0 0, .int .i64 0, .int .i64 0, .int .u32 0, .slice none 0 0] 29) hb14 (by simp)); have HG := hide hG; clear hP0 hB0 hb14 hal hG; obtain ⟨yy0, yy1, yy2, yy3, yy4, yy5, yy6, yy7, yy8⟩ := cmI_cells HG.out; have fzb := fun j => HG.out.fz j; obtain ⟨sa, sc, rfl⟩ := hP.slice; obtain ⟨ba, bc, rfl⟩ := OwnB.slice hB; generalize (List.map prI ps).length = sn at hP hor ⊢; generalize bd0.length = bn at hB hor ⊢; have HP14 := hide hP; have HBB14 := hide hB; have HOR := hide hor; obtain ⟨o0, o1, o2, o3, o4, o5, o6, o7, o8⟩ := cmI_cells (HK7.out w14 HB14.out).2; have n14 : ¬ w14.heap.size = w5.heap.size := (by have h1 := (HK7.out w14 HB14.out).2.lt; omega); have m14 : ¬ w5.heap.size = w14.heap.size := (fun h => n14 h.symm); clear hP hB hor; unfold cmI)
                | (refine (ON.out w13).mono ?_; rintro e w14 ⟨st, bd, rfl, hP0, hB0, hor, hb14⟩; have HB14 := hide (HB13.out.trans (hb14.mono HB13.out.size)); have hP : OwnP w14 w13.heap.size st (List.map prI ps) := hP0; have hB : OwnB w14 w13.heap.size bd bd0 := hB0; have HG := hide (HBX.out.below hb14 HBX.out.lt); clear hP0 hB0 hb14; obtain ⟨yy0, yy1, yy2, yy3, yy4, yy5, yy6, yy7, yy8⟩ := cmI_cells HG.out; have fzb := fun j => HG.out.fz j; obtain ⟨sa, sc, rfl⟩ := hP.slice; obtain ⟨ba, bc, rfl⟩ := OwnB.slice hB; generalize (List.map prI ps).length = sn at hP hor ⊢; generalize bd0.length = bn at hB hor ⊢; have HP14 := hide hP; have HBB14 := hide hB; have HOR := hide hor; obtain ⟨o0, o1, o2, o3, o4, o5, o6, o7, o8⟩ := cmI_cells (HK7.out w14 HB14.out).2; have n14 : ¬ w14.heap.size = w5.heap.size := (by have h1 := (HK7.out w14 HB14.out).2.lt; omega); have m14 : ¬ w5.heap.size = w14.heap.size := (fun h => n14 h.symm); clear hP hB hor; unfold cmI)
                | (refine (ON.out w13).mono ?_; rintro e w14 ⟨st, bd, rfl, hP0, hB0, hor, hb14⟩; have HB14 := hide (HB13.out.trans (hb14.mono HB13.out.size)); have hP : OwnP w14 w13.heap.size st (List.map prI ps) := hP0; have hB : OwnB w14 w13.heap.size bd bd0 := hB0; clear hP0 hB0 hb14; obtain ⟨sa, sc, rfl⟩ := hP.slice; obtain ⟨ba, bc, rfl⟩ := OwnB.slice hB; generalize (List.map prI ps).length = sn at hP hor ⊢; generalize bd0.length = bn at hB hor ⊢; have HP14 := hide hP; have HBB14 := hide hB; have HOR := hide hor; obtain ⟨o0, o1, o2, o3, o4, o5, o6, o7, o8⟩ := cmI_cells (HK7.out w14 HB14.out).2; have n14 : ¬ w14.heap.size = w5.heap.size := (by have h1 := (HK7.out w14 HB14.out).2.lt; omega); have m14 : ¬ w5.heap.size = w14.heap.size := (fun h => n14 h.symm); clear hP hB hor; unfold cmI))
            | fail)
          all_goals
            have hw7 : w.heap.size + 3 ≤ W7.heap.size := by have h1 := (HK7.out W7 (Below.refl _ _)).1.2.2.1.lt; omega
            have hbs : w.heap.size + 2 ≤ w13.heap.size := by have h1 := HB13.out.size; omega
            first
            | (
              have hgl : W31.heap.size + 1 ≤ w13.heap.size := by (have h1 := HBX.out.lt; omega)
              have hg7 : W7.heap.size ≤ W31.heap.size := by exact HB31.out.size
              have HO15 := hide (show CmI (((((((((w14.setCell ⟨W31.heap.size, 0, none⟩ (.int .i64 K)).setCell ⟨W31.heap.size, 1, none⟩ (.string x)).setCell ⟨W31.heap.size, 2, none⟩ (.int .u32 0)).setCell ⟨W31.heap.size, 3, none⟩ (.bool ud)).setCell ⟨W31.heap.size, 4, none⟩ (.slice sa sn sc)).setCell ⟨W31.heap.size, 5, none⟩ (.int .i64 (it : Int))).setCell ⟨W31.heap.size, 6, none⟩ (.int .i64 (md : Int))).setCell ⟨W31.heap.size, 7, none⟩ (.int .u32 (fl : Int))).setCell ⟨W31.heap.size, 8, none⟩ (.slice ba bn bc)) W31.heap.size K x ud (.slice sa sn sc) (it : Int) (md : Int) (fl : Int) (.slice ba bn bc) from put9_blk HG.out K x ud (.slice sa sn sc) (it : Int) (md : Int) (fl : Int) (.slice ba bn bc))
              have HB16 := hide (fun (u : Value) => (show Below W7.heap.size W7 (((((((((w14.setCell ⟨W31.heap.size, 0, none⟩ (.int .i64 K)).setCell ⟨W31.heap.size, 1, none⟩ (.string x)).setCell ⟨W31.heap.size, 2, none⟩ (.int .u32 0)).setCell ⟨W31.heap.size, 3, none⟩ (.bool ud)).setCell ⟨W31.heap.size, 4, none⟩ (.slice sa sn sc)).setCell ⟨W31.heap.size, 5, none⟩ (.int .i64 (it : Int))).setCell ⟨W31.heap.size, 6, none⟩ (.int .i64 (md : Int))).setCell ⟨W31.heap.size, 7, none⟩ (.int .u32 (fl : Int))).setCell ⟨W31.heap.size, 8, none⟩ (.slice ba bn bc)) from put9_below HB14.out hg7 _ _ _ _ _ _ _ _ _).setCell (p := ⟨W31.heap.size, 3, none⟩) hg7 u)
              have HP16 := hide (fun (u : Value) => ((show OwnP (((((((((w14.setCell ⟨W31.heap.size, 0, none⟩ (.int .i64 K)).setCell ⟨W31.heap.size, 1, none⟩ (.string x)).setCell ⟨W31.heap.size, 2, none⟩ (.int .u32 0)).setCell ⟨W31.heap.size, 3, none⟩ (.bool ud)).setCell ⟨W31.heap.size, 4, none⟩ (.slice sa sn sc)).setCell ⟨W31.heap.size, 5, none⟩ (.int .i64 (it : Int))).setCell ⟨W31.heap.size, 6, none⟩ (.int .i64 (md : Int))).setCell ⟨W31.heap.size, 7, none⟩ (.int .u32 (fl : Int))).setCell ⟨W31.heap.size, 8, none⟩ (.slice ba bn bc)) (W31.heap.size + 1) (.slice sa sn sc) (List.map prI ps) from own9 (HP14.out.mono hgl) _ _ _ _ _ _ _ _ _).other (j := 3) (Nat.lt_succ_self _) u).mono (lo' := w.heap.size + 2) (by omega))
              have HBB16 := hide (fun (u : Value) => (ownB_low9 (show OwnB (((((((((w14.setCell ⟨W31.heap.size, 0, none⟩ (.int .i64 K)).setCell ⟨W31.heap.size, 1, none⟩ (.string x)).setCell ⟨W31.heap.size, 2, none⟩ (.int .u32 0)).setCell ⟨W31.heap.size, 3, none⟩ (.bool ud)).setCell ⟨W31.heap.size, 4, none⟩ (.slice sa sn sc)).setCell ⟨W31.heap.size, 5, none⟩ (.int .i64 (it : Int))).setCell ⟨W31.heap.size, 6, none⟩ (.int .i64 (md : Int))).setCell ⟨W31.heap.size, 7, none⟩ (.int .u32 (fl : Int))).setCell ⟨W31.heap.size, 8, none⟩ (.slice ba bn bc)) (W31.heap.size + 1) (.slice ba bn bc) bd0 from own9B (HBB14.out.mono hgl) _ _ _ _ _ _ _ _ _) (p := ⟨W31.heap.size, 3, none⟩) (Nat.lt_succ_self _) u).mono (base' := w.heap.size + 2) (by omega))
              clear yy0 yy1 yy2 yy3 yy4 yy5 yy6 yy7 yy8 fzb
              clear p0 p1 p2 p3 p4 p5 p6 p7 p8 o0 o1 o2 o3 o4 o5 o6 o7 o8 q0 q1 q2 q3 q4 q5 q6 q7 q8
              go_wp2_with fail
              go_meet
              case rel => exact ⟨_, _, _, _, _, _, _, rfl, HO15.out, HB16.out, HP16.out, HBB16.out, HOR.out⟩)
            | (
              have hgl : w13.heap.size + 1 ≤ w13.heap.size + 1 := by omega
              have hg7 : W7.heap.size ≤ w13.heap.size := by exact HB13.out.size
              have HO15 := hide (show CmI (((((((((w14.setCell ⟨w13.heap.size, 0, none⟩ (.int .i64 K)).setCell ⟨w13.heap.size, 1, none⟩ (.string x)).setCell ⟨w13.heap.size, 2, none⟩ (.int .u32 0)).setCell ⟨w13.heap.size, 3, none⟩ (.bool ud)).setCell ⟨w13.heap.size, 4, none⟩ (.slice sa sn sc)).setCell ⟨w13.heap.size, 5, none⟩ (.int .i64 (it : Int))).setCell ⟨w13.heap.size, 6, none⟩ (.int .i64 (md : Int))).setCell ⟨w13.heap.size, 7, none⟩ (.int .u32 (fl : Int))).setCell ⟨w13.heap.size, 8, none⟩ (.slice ba bn bc)) w13.heap.size K x ud (.slice sa sn sc) (it : Int) (md : Int) (fl : Int) (.slice ba bn bc) from put9_blk HG.out K x ud (.slice sa sn sc) (it : Int) (md : Int) (fl : Int) (.slice ba bn bc))
              have HB16 := hide (fun (u : Value) => (show Below W7.heap.size W7 (((((((((w14.setCell ⟨w13.heap.size, 0, none⟩ (.int .i64 K)).setCell ⟨w13.heap.size, 1, none⟩ (.string x)).setCell ⟨w13.heap.size, 2, none⟩ (.int .u32 0)).setCell ⟨w13.heap.size, 3, none⟩ (.bool ud)).setCell ⟨w13.heap.size, 4, none⟩ (.slice sa sn sc)).setCell ⟨w13.heap.size, 5, none⟩ (.int .i64 (it : Int))).setCell ⟨w13.heap.size, 6, none⟩ (.int .i64 (md : Int))).setCell ⟨w13.heap.size, 7, none⟩ (.int .u32 (fl : Int))).setCell ⟨w13.heap.size, 8, none⟩ (.slice ba bn bc)) from put9_below HB14.out hg7 _ _ _ _ _ _ _ _ _).setCell (p := ⟨w13.heap.size, 3, none⟩) hg7 u)
              have HP16 := hide (fun (u : Value) => ((show OwnP (((((((((w14.setCell ⟨w13.heap.size, 0, none⟩ (.int .i64 K)).setCell ⟨w13.heap.size, 1, none⟩ (.string x)).setCell ⟨w13.heap.size, 2, none⟩ (.int .u32 0)).setCell ⟨w13.heap.size, 3, none⟩ (.bool ud)).setCell ⟨w13.heap.size, 4, none⟩ (.slice sa sn sc)).setCell ⟨w13.heap.size, 5, none⟩ (.int .i64 (it : Int))).setCell ⟨w13.heap.size, 6, none⟩ (.int .i64 (md : Int))).setCell ⟨w13.heap.size, 7, none⟩ (.int .u32 (fl : Int))).setCell ⟨w13.heap.size, 8, none⟩ (.slice ba bn bc)) (w13.heap.size + 1) (.slice sa sn sc) (List.map prI ps) from own9 (HP14.out.mono hgl) _ _ _ _ _ _ _ _ _).other (j := 3) (Nat.lt_succ_self _) u).mono (lo' := w.heap.size + 2) (by omega))
              have HBB16 := hide (fun (u : Value) => (ownB_low9 (show OwnB (((((((((w14.setCell ⟨w13.heap.size, 0, none⟩ (.int .i64 K)).setCell ⟨w13.heap.size, 1, none⟩ (.string x)).setCell ⟨w13.heap.size, 2, none⟩ (.int .u32 0)).setCell ⟨w13.heap.size, 3, none⟩ (.bool ud)).setCell ⟨w13.heap.size, 4, none⟩ (.slice sa sn sc)).setCell ⟨w13.heap.size, 5, none⟩ (.int .i64 (it : Int))).setCell ⟨w13.heap.size, 6, none⟩ (.int .i64 (md : Int))).setCell ⟨w13.heap.size, 7, none⟩ (.int .u32 (fl : Int))).setCell ⟨w13.heap.size, 8, none⟩ (.slice ba bn bc)) (w13.heap.size + 1) (.slice ba bn bc) bd0 from own9B (HBB14.out.mono hgl) _ _ _ _ _ _ _ _ _) (p := ⟨w13.heap.size, 3, none⟩) (Nat.lt_succ_self _) u).mono (base' := w.heap.size + 2) (by omega))
              clear yy0 yy1 yy2 yy3 yy4 yy5 yy6 yy7 yy8 fzb
              clear p0 p1 p2 p3 p4 p5 p6 p7 p8 o0 o1 o2 o3 o4 o5 o6 o7 o8 q0 q1 q2 q3 q4 q5 q6 q7 q8
              go_wp2_with fail
              go_meet
              case rel => exact ⟨_, _, _, _, _, _, _, rfl, HO15.out, HB16.out, HP16.out, HBB16.out, HOR.out⟩)
            | (
              have hal := (Below.refl w14.heap.size w14).alloc (Nat.le_refl _) (.cells #[.int .i64 K, .string x, .int .u32 0, .bool ud, .slice sa sn sc, .int .i64 (it : Int), .int .i64 (md : Int), .int .u32 (fl : Int), .slice ba bn bc] 29)
              have HO15 := hide (show CmI (w14.alloc (.cells #[.int .i64 K, .string x, .int .u32 0, .bool ud, .slice sa sn sc, .int .i64 (it : Int), .int .i64 (md : Int), .int .u32 (fl : Int), .slice ba bn bc] 29)) w14.heap.size K x ud (.slice sa sn sc) (it : Int) (md : Int) (fl : Int) (.slice ba bn bc) from blk_new w14 _ _)
              have HX16 := hide (fun (u : Value) => hal.setCell (p := ⟨w14.heap.size, 3, none⟩) (Nat.le_refl _) u)
              have HB16 := hide (fun (u : Value) => HB14.out.trans ((HX16.out u).mono HB14.out.size))
              have HP16 := hide (fun (u : Value) => (HP14.out.below (HX16.out u) (Nat.le_refl _)).mono hbs)
              have HBB16 := hide (fun (u : Value) => (HBB14.out.below (HX16.out u) (Nat.le_refl _)).mono hbs)
              clear hal
              clear p0 p1 p2 p3 p4 p5 p6 p7 p8 o0 o1 o2 o3 o4 o5 o6 o7 o8 q0 q1 q2 q3 q4 q5 q6 q7 q8
              go_wp2_with fail
              go_meet
              case rel => exact ⟨_, _, _, _, _, _, _, rfl, HO15.out, HB16.out, HP16.out, HBB16.out, HOR.out⟩)
        case rest =>
          obtain ⟨g, sa, sn, sc, ba, bn, bc, rfl, hO, hB, hP, hBB, hor⟩ := hcut
          have HO15 := hide hO
          have HB16 := hide hB
          have HP16 := hide hP
          have HBB16 := hide hBB
          have HOR := hide hor
          clear hO hB hP hBB hor p0 p1 p2 p3 p4 p5 p6 p7 p8 LO3 ON
          obtain ⟨z0, z1, z2, z3, z4, z5, z6, z7, z8⟩ := cmI_cells HO15.out
          have f15 := fun j => HO15.out.fz j
          by_cases hK : K = 0
          · subst hK
            have HO16 := hide (CmI.ud HO15.out false)
            have HB17 := hide (HB16.out (.bool false))
            have HP17 := hide (HP16.out (.bool false))
            have HBB17 := hide (HBB16.out (.bool false))
            clear HB16 HP16 HBB16
            go_upto_region 34 with fail
            generalize wc.setCell ⟨g, 3, none⟩ (.bool false) = W16 at HO16 HB17 HP17 HBB17 ⊢
            clear z0 z1 z2 z3 z4 z5 z6 z7 z8 f15
            have HN := hide (show R = (pcL s.data.toList, ⟨0, false, ps, it, md, fl, bd0⟩) by rw [HRY.out, HI.out]; rfl)
            obtain ⟨o0, o1, o2, o3, o4, o5, o6, o7, o8⟩ := cmI_cells HO16.out
            obtain ⟨r0, r1, r2, r3, r4, r5, r6, r7, r8⟩ := cmI_cells (HK7.out W16 HB17.out).1.2.1
            have fz := fun j => (HK7.out W16 HB17.out).1.2.1.fz j
            have HX2 := hide (HK7.out W16 HB17.out).1.2.1
            have HX4 := hide (HK7.out W16 HB17.out).1.2.2.2.1
            clear HK HK7 HR HRY
            go_wp2
            refine bodyPost_ret (ret_cmdI (w.heap.size + 1) _ (cmI 0 x false (.slice sa sn sc) (it : Int) (md : Int) (fl : Int) (.slice ba bn bc)) rfl rfl rfl (put9_blk HX2.out 0 x false (.slice sa sn sc) (it : Int) (md : Int) (fl : Int) (.slice ba bn bc))) rfl ?_
            rw [HN.out]
            unfold ImPost
            rw [HTX.out]
            exact ⟨_, _, rfl, (own9 (g := w.heap.size + 1) HP17.out _ _ _ _ _ _ _ _ _).mono (by omega), (own9B (g := w.heap.size + 1) HBB17.out _ _ _ _ _ _ _ _ _).mono (by omega), HOR.out, put9_below HX4.out (by omega) _ _ _ _ _ _ _ _ _⟩
          · have HO16 := hide (CmI.ud HO15.out true)
            have HB17 := hide (HB16.out (.bool true))
            have HP17 := hide (HP16.out (.bool true))
            have HBB17 := hide (HBB16.out (.bool true))
            clear HB16 HP16 HBB16
            have hKb : (K != 0) = true := by simp [hK]
            have hKc : (K == 0) = false := by simp [hK]
            go_upto_region 34 with fail
            generalize wc.setCell ⟨g, 3, none⟩ (.bool true) = W16 at HO16 HB17 HP17 HBB17 ⊢
            clear z0 z1 z2 z3 z4 z5 z6 z7 z8 f15
            have HN := hide (show R = (pcL s.data.toList, ⟨K, true, ps, it, md, fl, bd0⟩) by rw [HRY.out, HI.out, decide_eq_true hK])
            obtain ⟨o0, o1, o2, o3, o4, o5, o6, o7, o8⟩ := cmI_cells HO16.out
            obtain ⟨r0, r1, r2, r3, r4, r5, r6, r7, r8⟩ := cmI_cells (HK7.out W16 HB17.out).1.2.1
            have fz := fun j => (HK7.out W16 HB17.out).1.2.1.fz j
            have HX2 := hide (HK7.out W16 HB17.out).1.2.1
            have HX4 := hide (HK7.out W16 HB17.out).1.2.2.2.1
            clear HK HK7 HR HRY
            go_wp2
            refine bodyPost_ret (ret_cmdI (w.heap.size + 1) _ (cmI K x true (.slice sa sn sc) (it : Int) (md : Int) (fl : Int) (.slice ba bn bc)) rfl rfl rfl (put9_blk HX2.out K x true (.slice sa sn sc) (it : Int) (md : Int) (fl : Int) (.slice ba bn bc))) rfl ?_
            rw [HN.out]
            unfold ImPost
            rw [HTX.out]
            exact ⟨_, _, rfl, (own9 (g := w.heap.size + 1) HP17.out _ _ _ _ _ _ _ _ _).mono (by omega), (own9B (g := w.heap.size + 1) HBB17.out _ _ _ _ _ _ _ _ _).mono (by omega), HOR.out, put9_below HX4.out (by omega) _ _ _ _ _ _ _ _ _⟩
      · have e0 := lo_no (c := [85, 73, 68]) (d := [117, 105, 100]) (e := [117, 105, 100]) v0 (by decide) (by decide) (by decide) (by decide) rfl
        have HI := hide (show imOf false b (nbL s.data.toList) = onSet (upT (pcL (nbL s.data.toList))) (nbL (nbL s.data.toList)) from im_set HOK2.out (fun h => v0 (HU.out.trans h)))
        have ON := hide (l6OnSet_any x x2 y2 w9 hy2s)
        rw [HU.out, HY2.out, ← HI.out] at ON
        generalize imOf false b (nbL s.data.toList) = im at ON HRY
        generalize loB x2 = lo at e0 ON ⊢
        obtain ⟨p0, p1, p2, p3, p4, p5, p6, p7, p8⟩ := cmI_cells (HK7.out w9 HB9.out).2
        clear v0 HI
        go_wp2_with fail
        refine ON.out.mono ?_
        rintro e w10 ⟨st, bd, rfl, hP, hB, hor, hb10⟩
        have HB10 := hide (HB9.out.trans (hb10.mono HB9.out.size))
        have hbs : w.heap.size + 2 ≤ w9.heap.size := by have h1 := (HK7.out w9 HB9.out).1.2.2.1.lt; omega
        generalize im.getD noF = M at hP hB HRY ⊢
        obtain ⟨K, ud, ps, it, md, fl, bd0⟩ := M
        simp only at hP hB
        obtain ⟨sa, sc, rfl⟩ := hP.slice
        obtain ⟨ba, bc, rfl⟩ := OwnB.slice hB
        generalize (List.map prI ps).length = sn at hP hor ⊢
        generalize bd0.length = bn at hB hor ⊢
        have HP10 := hide (hP.mono hbs)
        have HBB10 := hide (hB.mono hbs)
        have HOR := hide hor
        clear p0 p1 p2 p3 p4 p5 p6 p7 p8 hP hB hor hb10 ON u2
        simp only [cmI]
        have HN := hide (show R = (pcL s.data.toList, ⟨K, ud, ps, it, md, fl, bd0⟩) by rw [HRY.out])
        obtain ⟨r0, r1, r2, r3, r4, r5, r6, r7, r8⟩ := cmI_cells (HK7.out w10 HB10.out).1.2.1
        have fz := fun j => (HK7.out w10 HB10.out).1.2.1.fz j
        have HX2 := hide (HK7.out w10 HB10.out).1.2.1
        have HX4 := hide (HK7.out w10 HB10.out).1.2.2.2.1
        clear HK HK7 HR HRY
        go_wp2
        refine bodyPost_ret (ret_cmdI (w.heap.size + 1) _ (cmI K x ud (.slice sa sn sc) (it : Int) (md : Int) (fl : Int) (.slice ba bn bc)) rfl rfl rfl (put9_blk HX2.out K x ud (.slice sa sn sc) (it : Int) (md : Int) (fl : Int) (.slice ba bn bc))) rfl ?_
        rw [HN.out]
        unfold ImPost
        rw [HTX.out]
        exact ⟨_, _, rfl, (own9 (g := w.heap.size + 1) HP10.out _ _ _ _ _ _ _ _ _).mono (by omega), (own9B (g := w.heap.size + 1) HBB10.out _ _ _ _ _ _ _ _ _).mono (by omega), HOR.out, put9_below HX4.out (by omega) _ _ _ _ _ _ _ _ _⟩
end Go.Proofs.YtpedmebigcchnaaGreatDoor
