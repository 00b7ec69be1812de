import Derived.Test.YtpedmebigcchnaaGreatDoorPkzc
import Derived.Test.YtpedmebigcchnaaGreatDoorPky
import Derived.Test.YtpedmebigcchnaaGreatDoorPkz
namespace Go.Proofs.YtpedmebigcchnaaGreatDoor
open Go.RowKit
set_option linter.unusedVariables false
theorem Two.low {gr gc : Nat} {W w6 X : World} (h1 : Two gr gr W w6) (h2 : Two gr gc w6 X) (hg : W.heap.size ≤ gc) : Two gr gr W X :=
  ⟨h2.os.trans h1.os, h2.tape.trans h1.tape, h2.output.trans h1.output, Nat.le_trans h1.size h2.size, fun k hk a _ => (h2.block k (Nat.lt_of_lt_of_le hk h1.size) a (by omega)).trans (h1.block k hk a a)⟩
theorem putF {R0 : Option MF} {m : MF} {ud : Bool} (h : R0 = some m) : (R0.map (putUid ud)).getD noF = putUid ud m := by rw [h]; rfl
theorem putN {R0 : Option MF} {ud : Bool} (h : R0 = none) : (R0.map (putUid ud)).getD noF = noF := by rw [h]; rfl
theorem vd_same {gr gc : Nat} {R : Option MF} {w w' : World} (h : VD gr gc false R w w') : R = R.map (putUid false) := by
  obtain ⟨r, fd, m, sa, sn, sc, ba, bn, bc, h1, h2, h3, h4, h5, h6, h7, h8, h9⟩ := h
  by_cases hw : fd = false ∧ r.data.toList = []
  · rw [h8 hw.1 hw.2]
    show some m = some (putUid false m)
    unfold putUid
    rw [← h7]
  · rw [h9 (by cases fd with
      | true => exact .inl rfl
      | false => exact .inr (fun e => hw ⟨rfl, e⟩))]
    rfl
/-- How the end stands: c's block, the answer's, and the rows that c tells. -/
structure ImS (w W : World) (gc : Nat) (K : Int) (tag : ByteArray) (ud : Bool) (st : Value) (it md fl : Int) (bd : Value) (es : List (Int × Int)) (body : List Nat) : Prop where
  c : CmI W gc K tag ud st it md fl bd
  a : CmI W (w.heap.size + 1) 0 ⟨#[]⟩ false (.slice none 0 0) 0 0 0 (.slice none 0 0)
  b : Below w.heap.size w W
  p : OwnP W (gc + 1) st es
  o : OwnB W (gc + 1) bd body
theorem ImS.put {w W : World} {gc : Nat} {K : Int} {tag : ByteArray} {ud : Bool} {st : Value} {it md fl : Int} {bd : Value} {es : List (Int × Int)} {body : List Nat} (h : ImS w W gc K tag ud st it md fl bd es body) (hg : w.heap.size + 3 ≤ gc) (K' : Int) (tag' : ByteArray) (ud' : Bool) (st' : Value) (it' md' fl' : Int) (bd' : Value) (es' : List (Int × Int)) (body' : List Nat) (p' : OwnP W (gc + 1) st' es') (o' : OwnB W (gc + 1) bd' body') :
    ImS w (put9 W gc (.int .i64 K') (.string tag') (.int .u32 0) (.bool ud') st' (.int .i64 it') (.int .i64 md') (.int .u32 fl') bd') gc K' tag' ud' st' it' md' fl' bd' es' body' :=
  ⟨put9_blk h.c K' tag' ud' st' it' md' fl' bd', Blk.below h.a (put9_below (B := w.heap.size + 3) (Below.refl _ _) hg _ _ _ _ _ _ _ _ _) (by omega), put9_below h.b (by omega) _ _ _ _ _ _ _ _ _, own9 p' _ _ _ _ _ _ _ _ _, own9B o' _ _ _ _ _ _ _ _ _⟩
theorem ImS.tag {w W : World} {gc : Nat} {K : Int} {tag : ByteArray} {ud : Bool} {st : Value} {it md fl : Int} {bd : Value} {es : List (Int × Int)} {body : List Nat} (h : ImS w W gc K tag ud st it md fl bd es body) (hg : w.heap.size + 3 ≤ gc) (x : ByteArray) :
    ImS w (W.setCell ⟨gc, 1, none⟩ (.string x)) gc K x ud st it md fl bd es body :=
  ⟨CmI.tg h.c x, Blk.other h.a (by omega) _, h.b.setCell (p := ⟨gc, 1, none⟩) (by show w.heap.size ≤ gc; omega) _, h.p.other (j := 1) (Nat.lt_succ_self gc) _, ownB_low9 h.o (p := ⟨gc, 1, none⟩) (Nat.lt_succ_self gc) _⟩
theorem ImS.fin {w W : World} {gc : Nat} {K : Int} {x : ByteArray} {ud : Bool} {st : Value} {it md fl : Int} {bd : Value} {m : MF} (h : ImS w W gc K x ud st it md fl bd (m.set.map prI) m.body) (hg : w.heap.size + 3 ≤ gc) (e0 : K = m.kind) (e1 : ud = m.uid) (e2 : it = (m.items : Int)) (e3 : md = (m.mode : Int)) (e4 : fl = (m.flags : Int)) (e5 : st = st) (e6 : bd = bd) (hn : st = .slice none 0 0 ∨ bd = .slice none 0 0) :
    CmPost w x m (.returned (.agg (cmI K x ud st it md fl bd))) (put9 W (w.heap.size + 1) (.int .i64 K) (.string x) (.int .u32 0) (.bool ud) st (.int .i64 it) (.int .i64 md) (.int .u32 fl) bd) := by
  subst e0 e1 e2 e3 e4
  refine ⟨st, bd, rfl, ?_, ?_, hn, ?_⟩
  · exact (own9 (g := w.heap.size + 1) (h.p.mono (by omega)) _ _ _ _ _ _ _ _ _).mono (by omega)
  · exact (own9B (g := w.heap.size + 1) (h.o.mono (by omega)) _ _ _ _ _ _ _ _ _).mono (by omega)
  · exact put9_below h.b (by omega) _ _ _ _ _ _ _ _ _
set_option maxRecDepth 20000 in
set_option maxHeartbeats 2000000 in
theorem implImap_any (al ab : Option Addr) (cl cb : Nat) (l b : List Nat) (has bad : Bool) (w : World) (hl : l.length ≤ 1048576) (hlb : b.length ≤ 1048576) (hr : RowAt w al l) (hrb : RowAt w ab b) (hE : Env w) (hM : MaxL w) :
    Calls Tryz.prog 7 #[.agg #[.slice al l.length cl, .slice ab b.length cb, .bool has, .bool bad]] w (ImPost w (imA bad has b (strB l).data.toList)) := by
  obtain ⟨L1, L2, L3, hA, hz⟩ := box3 w #[.slice al l.length cl, .slice ab b.length cb, .bool has, .bool bad] #[.int .i64 0, .string ⟨#[]⟩, .int .u32 0, .bool false, .slice none 0 0, .int .i64 0, .int .i64 0, .int .u32 0, .slice none 0 0] #[.string (strB l), .bool false] 31 29 49
  have hcv := run_string_of ((w.alloc (.cells #[.slice al l.length cl, .slice ab b.length cb, .bool has, .bool bad] 31)).alloc (.cells #[.int .i64 0, .string ⟨#[]⟩, .int .u32 0, .bool false, .slice none 0 0, .int .i64 0, .int .i64 0, .int .u32 0, .slice none 0 0] 29)) al cl l (hr.below (box2 w #[.slice al l.length cl, .slice ab b.length cb, .bool has, .bool bad] #[.int .i64 0, .string ⟨#[]⟩, .int .u32 0, .bool false, .slice none 0 0, .int .i64 0, .int .i64 0, .int .u32 0, .slice none 0 0] 31 29).2.2.1)
  have htl : (strB l).data.toList.length = l.length := strB_size l
  have hss : (strB l).size ≤ 1048576 := by rw [strB_size]; omega
  generalize hR : imA bad has b (strB l).data.toList = R
  have HR := hide hR
  have HRW := hide (fun (X : World) (hb : Below w.heap.size w X) => And.intro (hrb.below hb) (And.intro (hE.below hb) (hM.below hb)))
  clear hR hr hrb hE hM
  generalize strB l = s at hcv HR htl hss L1 L2 L3 hA hz
  go_enter Tryz.func7, Tryz.ntmps7
  go_upto_region 2 with fail
  generalize ((w.alloc (.cells #[.slice al l.length cl, .slice ab b.length cb, .bool has, .bool bad] 31)).alloc (.cells #[.int .i64 0, .string ⟨#[]⟩, .int .u32 0, .bool false, .slice none 0 0, .int .i64 0, .int .i64 0, .int .u32 0, .slice none 0 0] 29)).alloc (.cells #[.string s, .bool false] 49) = W3 at L1 L2 L3 hA hz ⊢
  have HR3 := hide (show RdB W3 (w.heap.size + 2) s false from L3)
  have HK := hide (fun (X : World) (t : Two (w.heap.size + 2) (w.heap.size + 2) W3 X) => And.intro (L1.two t (by omega) (by omega)) (And.intro (show CmI X (w.heap.size + 1) 0 ⟨#[]⟩ false (.slice none 0 0) 0 0 0 (.slice none 0 0) from L2.two t (by omega) (by omega)) (And.intro (hA.trans (t.below (B := w.heap.size) (by omega) (by omega) (by omega))) (HRW.out X (hA.trans (t.below (B := w.heap.size) (by omega) (by omega) (by omega)))))))
  clear L1 L2 L3 hA HRW hcv
  go_wp2_with fail
  refine (tag_any (w.heap.size + 2) (w.heap.size + 2) s false W3 hss HR3.out (HK.out W3 (Two.refl _ _ _)).2.2.2.2.1).mono ?_
  rintro e w4 ⟨rfl, h4, t4⟩
  have T4 := hide t4
  have H4 := hide h4
  clear t4 h4 HR3
  go_wp2_with fail
  refine (blank_any (w.heap.size + 2) (w.heap.size + 2) (bhB s) _ w4 H4.out).mono ?_
  rintro e w5 ⟨⟨v5, rfl⟩, h5, t5⟩
  have T5 := hide (T4.out.trans t5)
  obtain ⟨q1, q2⟩ := bl_bh (s := bhB s) (t := s.data.toList) rfl
  have hnl := nb_len s.data.toList
  have hsl : s.data.toList.length = s.size := rfl
  have hs2 : (blB (bhB s)).size ≤ 1048576 := size_le q2 (by omega)
  rw [q1] at h5
  have Q2 := hide q2
  have HTX := hide (show (⟨(pcL s.data.toList).toArray⟩ : ByteArray) = pcB s from tag_arr rfl)
  generalize hfd : ((false || !tagOk (pcL s.data.toList)) || !hbL s.data.toList) = fd at h5
  have HFD := hide hfd
  have H5 := hide h5
  clear hfd t5 h5 q1 q2 H4 T4 hnl hsl
  generalize blB (bhB s) = y at H5 hs2 Q2
  generalize pcB s = x at HTX ⊢
  have u0 : w5.cell? ⟨w.heap.size, 0, none⟩ = some (.slice al l.length cl) := (HK.out w5 T5.out).1.cell 0
  have u3 : w5.cell? ⟨w.heap.size, 3, none⟩ = some (.bool bad) := (HK.out w5 T5.out).1.cell 3
  have y1 : w5.cell? ⟨w.heap.size + 2, 1, none⟩ = some (.bool fd) := H5.out.cell 1
  cases bad with
  | true =>
    have HN := hide (show R = ([42], noF) by rw [← HR.out]; exact imA_no (.inl rfl))
    obtain ⟨r0, r1, r2, r3, r4, r5, r6, r7, r8⟩ := cmI_cells (HK.out w5 T5.out).2.1
    have fz := fun j => (HK.out w5 T5.out).2.1.fz j
    have HX2 := hide (HK.out w5 T5.out).2.1
    have HX4 := hide (HK.out w5 T5.out).2.2.1
    clear HK HR
    go_wp2
    refine bodyPost_ret (ret_cmdI (w.heap.size + 1) _ (cmI 0 ⟨#[42]⟩ false (.slice none 0 0) 0 0 0 (.slice none 0 0)) rfl rfl rfl (put9_blk HX2.out 0 ⟨#[42]⟩ false (.slice none 0 0) 0 0 0 (.slice none 0 0))) rfl ?_
    rw [HN.out]
    exact cm_no rfl (put9_below HX4.out (by omega) _ _ _ _ _ _ _ _ _)
  | false =>
  by_cases hlen : 300 < l.length
  · have hli : (300 : Int) < (l.length : Int) := by omega
    have HN := hide (show R = ([42], noF) by rw [← HR.out]; exact imA_no (.inr (.inl (by rw [htl]; exact hlen))))
    obtain ⟨r0, r1, r2, r3, r4, r5, r6, r7, r8⟩ := cmI_cells (HK.out w5 T5.out).2.1
    have fz := fun j => (HK.out w5 T5.out).2.1.fz j
    have HX2 := hide (HK.out w5 T5.out).2.1
    have HX4 := hide (HK.out w5 T5.out).2.2.1
    clear HK HR
    go_wp2
    refine bodyPost_ret (ret_cmdI (w.heap.size + 1) _ (cmI 0 ⟨#[42]⟩ false (.slice none 0 0) 0 0 0 (.slice none 0 0)) rfl rfl rfl (put9_blk HX2.out 0 ⟨#[42]⟩ false (.slice none 0 0) 0 0 0 (.slice none 0 0))) rfl ?_
    rw [HN.out]
    exact cm_no rfl (put9_below HX4.out (by omega) _ _ _ _ _ _ _ _ _)
  have hli : ¬ (300 : Int) < (l.length : Int) := by omega
  have hlen' : ¬ 300 < s.data.toList.length := by omega
  cases fd with
  | true =>
    have HTB := hide (show tagOk (pcL s.data.toList) = false ∨ hbL s.data.toList = false by
      have h := HFD.out
      cases h1 : tagOk (pcL s.data.toList) with
      | false => exact .inl rfl
      | true =>
        cases h2 : hbL s.data.toList with
        | false => exact .inr rfl
        | true => rw [h1, h2] at h; cases h)
    clear hlen'
    have HN := hide (show R = ([42], noF) by rw [← HR.out]; exact imA_no (.inr (.inr HTB.out)))
    obtain ⟨r0, r1, r2, r3, r4, r5, r6, r7, r8⟩ := cmI_cells (HK.out w5 T5.out).2.1
    have fz := fun j => (HK.out w5 T5.out).2.1.fz j
    have HX2 := hide (HK.out w5 T5.out).2.1
    have HX4 := hide (HK.out w5 T5.out).2.2.1
    clear HK HR
    go_wp2
    refine bodyPost_ret (ret_cmdI (w.heap.size + 1) _ (cmI 0 ⟨#[42]⟩ false (.slice none 0 0) 0 0 0 (.slice none 0 0)) rfl rfl rfl (put9_blk HX2.out 0 ⟨#[42]⟩ false (.slice none 0 0) 0 0 0 (.slice none 0 0))) rfl ?_
    rw [HN.out]
    exact cm_no rfl (put9_below HX4.out (by omega) _ _ _ _ _ _ _ _ _)
  | false =>
  have HRY := hide (show R = (pcL s.data.toList, (imOf has b (nbL s.data.toList)).getD noF) by
    have h := HFD.out
    rw [← HR.out]
    refine imA_yes hlen' ?_ ?_
    · cases h1 : tagOk (pcL s.data.toList) with
      | true => rfl
      | false => rw [h1] at h; simp at h
    · cases h2 : hbL s.data.toList with
      | true => rfl
      | false => rw [h2] at h; simp at h)
  rw [← Q2.out] at HRY
  clear HR HFD hlen' Q2 htl hss
  have g6 := blk_new w5 #[.int .i64 0, .string ⟨#[]⟩, .int .u32 0, .bool false, .slice none 0 0, .int .i64 0, .int .i64 0, .int .u32 0, .slice none 0 0] 29
  have hb6 := (Below.refl w5.heap.size w5).alloc (Nat.le_refl _) (.cells #[.int .i64 0, .string ⟨#[]⟩, .int .u32 0, .bool false, .slice none 0 0, .int .i64 0, .int .i64 0, .int .u32 0, .slice none 0 0] 29)
  have z6 : (w5.alloc (.cells #[.int .i64 0, .string ⟨#[]⟩, .int .u32 0, .bool false, .slice none 0 0, .int .i64 0, .int .i64 0, .int .u32 0, .slice none 0 0] 29)).heap.size = w5.heap.size + 1 := World.size_alloc _ _
  have Z6 := hide z6
  have z5 : W3.heap.size ≤ w5.heap.size := T5.out.size
  have T6 := hide (T5.out.trans (Two.of_below hb6))
  have H6 := hide (H5.out.below hb6 H5.out.lt)
  clear hb6 H5 T5 z6
  go_upto_region 7 with fail
  generalize w5.alloc (.cells #[.int .i64 0, .string ⟨#[]⟩, .int .u32 0, .bool false, .slice none 0 0, .int .i64 0, .int .i64 0, .int .u32 0, .slice none 0 0] 29) = w6 at g6 T6 H6 Z6 ⊢
  have C6 := hide (show CmI w6 w5.heap.size 0 ⟨#[]⟩ false (.slice none 0 0) 0 0 0 (.slice none 0 0) from g6)
  have hne : w.heap.size + 2 ≠ w5.heap.size := by omega
  have hg5 : w.heap.size + 3 ≤ w5.heap.size := by omega
  have Hne := hide hne
  have HT := hide (fun X (t : Two (w.heap.size + 2) w5.heap.size w6 X) => T6.out.low t z5)
  generalize w5.heap.size = gc at C6 Hne HT Z6 hg5 ⊢
  clear hne g6 u0 u3 y1
  have u2 : w6.cell? ⟨w.heap.size, 2, none⟩ = some (.bool has) := (HK.out w6 T6.out).1.cell 2
  cases has with
  | true =>
    have u1 : w6.cell? ⟨w.heap.size, 1, none⟩ = some (.slice ab b.length cb) := (HK.out w6 T6.out).1.cell 1
    go_wp2_with fail
    refine (literal_any (w.heap.size + 2) gc ab cb b y w6 hs2 hlb H6.out C6.out Hne.out (fun X t => (HK.out X (HT.out X t)).2.2.2.1) (fun X t => (HK.out X (HT.out X t)).2.2.2.2.2) (fun X t => (HK.out X (HT.out X t)).2.2.2.2.1)).mono ?_
    rintro e w7 ⟨⟨v7, rfl⟩, hd⟩
    have HIM := hide (vd_same hd)
    clear u1 u2
    obtain ⟨r, fd, m, sa, sn, sc, ba, bn, bc, d1, d2, d3, d4, d5, d6, d7, d8, d9⟩ := hd
    rw [Z6.out] at d4 d5
    have RD7 := hide d1
    have C7 := hide d2
    have T7 := hide (HT.out w7 d3)
    have P7 := hide d4
    have B7 := hide d5
    have N7 := hide d6
    have D8 := hide d8
    have D9 := hide d9
    clear d1 d2 d3 d4 d5 d6 d7 d8 d9
    obtain ⟨p0, p1, p2, p3, p4, p5, p6, p7, p8⟩ := cmI_cells C7.out
    go_wp2_with fail
    refine (wholeI_any (w.heap.size + 2) r fd m.kind ⟨#[]⟩ false sa sn sc (m.items : Int) (m.mode : Int) (m.flags : Int) ba bn bc w7 RD7.out).mono ?_
    rintro e w8 ⟨rfl, hb8⟩
    have T8 := hide (T7.out.trans (Two.of_below hb8))
    have C8 := hide (show CmI w8 gc m.kind ⟨#[]⟩ false (.slice sa sn sc) (m.items : Int) (m.mode : Int) (m.flags : Int) (.slice ba bn bc) from Blk.below C7.out hb8 C7.out.lt)
    have P8 := hide (P7.out.below hb8 (Nat.le_refl _))
    have B8 := hide (B7.out.below hb8 (Nat.le_refl _))
    have S8 := hide (show ImS w w8 gc m.kind ⟨#[]⟩ false (.slice sa sn sc) (m.items : Int) (m.mode : Int) (m.flags : Int) (.slice ba bn bc) (m.set.map prI) m.body from ⟨C8.out, (HK.out w8 T8.out).2.1, (HK.out w8 T8.out).2.2.1, P8.out, B8.out⟩)
    clear hb8 RD7 C7 T7 P7 B7 C8 P8 B8 T8 HK C6 H6 T6 HT Hne p0 p1 p2 p3 p4 p5 p6 p7 p8
    by_cases hw : fd = false ∧ r.data.toList = []
    · rw [if_pos hw]
      have HN := hide (show R = (pcL s.data.toList, putUid false m) by rw [HRY.out, HIM.out, putF (D8.out hw.1 hw.2)])
      clear hw
      simp only [cmI]
      have S9 := hide (S8.out.put hg5 m.kind ⟨#[]⟩ false (.slice sa sn sc) (m.items : Int) (m.mode : Int) (m.flags : Int) (.slice ba bn bc) ((putUid false m).set.map prI) (putUid false m).body S8.out.p S8.out.o)
      have fz8 := fun j => S8.out.c.fz j
      obtain ⟨p0, p1, p2, p3, p4, p5, p6, p7, p8⟩ := cmI_cells S8.out.c
      unfold put9 at S9
      clear S8
      go_upto_region 11 with fail
      generalize (((((((((w8.setCell ⟨gc, 0, none⟩ (.int .i64 m.kind)).setCell ⟨gc, 1, none⟩ (.string ⟨#[]⟩)).setCell ⟨gc, 2, none⟩ (.int .u32 0)).setCell ⟨gc, 3, none⟩ (.bool false)).setCell ⟨gc, 4, none⟩ (.slice sa sn sc)).setCell ⟨gc, 5, none⟩ (.int .i64 (m.items : Int))).setCell ⟨gc, 6, none⟩ (.int .i64 (m.mode : Int))).setCell ⟨gc, 7, none⟩ (.int .u32 (m.flags : Int))).setCell ⟨gc, 8, none⟩ (.slice ba bn bc)) = w9 at S9 ⊢
      clear fz8 p0 p1 p2 p3 p4 p5 p6 p7 p8
      have z1 : w9.cell? ⟨gc, 1, none⟩ = some (.string ⟨#[]⟩) := S9.out.c.cell 1
      have fz9 := S9.out.c.fz 1
      have S10 := hide (S9.out.tag hg5 x)
      clear S9
      go_upto_region 12 with fail
      generalize w9.setCell ⟨gc, 1, none⟩ (.string x) = w10 at S10 ⊢
      clear z1 fz9
      obtain ⟨p0, p1, p2, p3, p4, p5, p6, p7, p8⟩ := cmI_cells S10.out.c
      obtain ⟨r0, r1, r2, r3, r4, r5, r6, r7, r8⟩ := cmI_cells S10.out.a
      have fz := fun j => S10.out.a.fz j
      go_wp2
      refine bodyPost_ret (ret_cmdI (w.heap.size + 1) _ (cmI m.kind x false (.slice sa sn sc) (m.items : Int) (m.mode : Int) (m.flags : Int) (.slice ba bn bc)) rfl rfl rfl (put9_blk S10.out.a m.kind x false (.slice sa sn sc) (m.items : Int) (m.mode : Int) (m.flags : Int) (.slice ba bn bc))) rfl ?_
      rw [HN.out]
      unfold ImPost
      rw [HTX.out]
      exact S10.out.fin (m := putUid false m) hg5 rfl rfl rfl rfl rfl rfl rfl N7.out
    · rw [if_neg hw]
      have HN := hide (show R = (pcL s.data.toList, noF) by
        rw [HRY.out, HIM.out, putN (D9.out (by
          cases fd with
          | true => exact .inl rfl
          | false => exact .inr (fun e => hw ⟨rfl, e⟩)))])
      clear hw
      simp only [cmZ, cmI]
      have S9 := hide (S8.out.put hg5 0 ⟨#[]⟩ false (.slice none 0 0) 0 0 0 (.slice none 0 0) ((noF).set.map prI) (noF).body (OwnP.nil _ _) (OwnB.nil _ _))
      have fz8 := fun j => S8.out.c.fz j
      obtain ⟨p0, p1, p2, p3, p4, p5, p6, p7, p8⟩ := cmI_cells S8.out.c
      unfold put9 at S9
      clear S8
      go_upto_region 11 with fail
      generalize (((((((((w8.setCell ⟨gc, 0, none⟩ (.int .i64 0)).setCell ⟨gc, 1, none⟩ (.string ⟨#[]⟩)).setCell ⟨gc, 2, none⟩ (.int .u32 0)).setCell ⟨gc, 3, none⟩ (.bool false)).setCell ⟨gc, 4, none⟩ (.slice none 0 0)).setCell ⟨gc, 5, none⟩ (.int .i64 0)).setCell ⟨gc, 6, none⟩ (.int .i64 0)).setCell ⟨gc, 7, none⟩ (.int .u32 0)).setCell ⟨gc, 8, none⟩ (.slice none 0 0)) = w9 at S9 ⊢
      clear fz8 p0 p1 p2 p3 p4 p5 p6 p7 p8
      have z1 : w9.cell? ⟨gc, 1, none⟩ = some (.string ⟨#[]⟩) := S9.out.c.cell 1
      have fz9 := S9.out.c.fz 1
      have S10 := hide (S9.out.tag hg5 x)
      clear S9
      go_upto_region 12 with fail
      generalize w9.setCell ⟨gc, 1, none⟩ (.string x) = w10 at S10 ⊢
      clear z1 fz9
      obtain ⟨p0, p1, p2, p3, p4, p5, p6, p7, p8⟩ := cmI_cells S10.out.c
      obtain ⟨r0, r1, r2, r3, r4, r5, r6, r7, r8⟩ := cmI_cells S10.out.a
      have fz := fun j => S10.out.a.fz j
      go_wp2
      refine bodyPost_ret (ret_cmdI (w.heap.size + 1) _ (cmI 0 x false (.slice none 0 0) 0 0 0 (.slice none 0 0)) rfl rfl rfl (put9_blk S10.out.a 0 x false (.slice none 0 0) 0 0 0 (.slice none 0 0))) rfl ?_
      rw [HN.out]
      unfold ImPost
      rw [HTX.out]
      exact S10.out.fin (m := noF) hg5 rfl rfl rfl rfl rfl rfl rfl (.inl rfl)
  | false =>
    go_wp2_with fail
    refine (imap_any (w.heap.size + 2) gc b y w6 hs2 H6.out C6.out Hne.out (fun X t => (HK.out X (HT.out X t)).2.2.2.2.2) (fun X t => (HK.out X (HT.out X t)).2.2.2.2.1)).mono ?_
    rintro e w7 ⟨⟨v7, rfl⟩, ud, R0, hd, him⟩
    have HIM := hide him
    clear him u2
    obtain ⟨r, fd, m, sa, sn, sc, ba, bn, bc, d1, d2, d3, d4, d5, d6, d7, d8, d9⟩ := hd
    rw [Z6.out] at d4 d5
    have RD7 := hide d1
    have C7 := hide d2
    have T7 := hide (HT.out w7 d3)
    have P7 := hide d4
    have B7 := hide d5
    have N7 := hide d6
    have D8 := hide d8
    have D9 := hide d9
    clear d1 d2 d3 d4 d5 d6 d7 d8 d9
    obtain ⟨p0, p1, p2, p3, p4, p5, p6, p7, p8⟩ := cmI_cells C7.out
    go_wp2_with fail
    refine (wholeI_any (w.heap.size + 2) r fd m.kind ⟨#[]⟩ ud sa sn sc (m.items : Int) (m.mode : Int) (m.flags : Int) ba bn bc w7 RD7.out).mono ?_
    rintro e w8 ⟨rfl, hb8⟩
    have T8 := hide (T7.out.trans (Two.of_below hb8))
    have C8 := hide (show CmI w8 gc m.kind ⟨#[]⟩ ud (.slice sa sn sc) (m.items : Int) (m.mode : Int) (m.flags : Int) (.slice ba bn bc) from Blk.below C7.out hb8 C7.out.lt)
    have P8 := hide (P7.out.below hb8 (Nat.le_refl _))
    have B8 := hide (B7.out.below hb8 (Nat.le_refl _))
    have S8 := hide (show ImS w w8 gc m.kind ⟨#[]⟩ ud (.slice sa sn sc) (m.items : Int) (m.mode : Int) (m.flags : Int) (.slice ba bn bc) (m.set.map prI) m.body from ⟨C8.out, (HK.out w8 T8.out).2.1, (HK.out w8 T8.out).2.2.1, P8.out, B8.out⟩)
    clear hb8 RD7 C7 T7 P7 B7 C8 P8 B8 T8 HK C6 H6 T6 HT Hne p0 p1 p2 p3 p4 p5 p6 p7 p8
    by_cases hw : fd = false ∧ r.data.toList = []
    · rw [if_pos hw]
      have HN := hide (show R = (pcL s.data.toList, putUid ud m) by rw [HRY.out, HIM.out, putF (D8.out hw.1 hw.2)])
      clear hw
      simp only [cmI]
      have S9 := hide (S8.out.put hg5 m.kind ⟨#[]⟩ ud (.slice sa sn sc) (m.items : Int) (m.mode : Int) (m.flags : Int) (.slice ba bn bc) ((putUid ud m).set.map prI) (putUid ud m).body S8.out.p S8.out.o)
      have fz8 := fun j => S8.out.c.fz j
      obtain ⟨p0, p1, p2, p3, p4, p5, p6, p7, p8⟩ := cmI_cells S8.out.c
      unfold put9 at S9
      clear S8
      go_upto_region 11 with fail
      generalize (((((((((w8.setCell ⟨gc, 0, none⟩ (.int .i64 m.kind)).setCell ⟨gc, 1, none⟩ (.string ⟨#[]⟩)).setCell ⟨gc, 2, none⟩ (.int .u32 0)).setCell ⟨gc, 3, none⟩ (.bool ud)).setCell ⟨gc, 4, none⟩ (.slice sa sn sc)).setCell ⟨gc, 5, none⟩ (.int .i64 (m.items : Int))).setCell ⟨gc, 6, none⟩ (.int .i64 (m.mode : Int))).setCell ⟨gc, 7, none⟩ (.int .u32 (m.flags : Int))).setCell ⟨gc, 8, none⟩ (.slice ba bn bc)) = w9 at S9 ⊢
      clear fz8 p0 p1 p2 p3 p4 p5 p6 p7 p8
      have z1 : w9.cell? ⟨gc, 1, none⟩ = some (.string ⟨#[]⟩) := S9.out.c.cell 1
      have fz9 := S9.out.c.fz 1
      have S10 := hide (S9.out.tag hg5 x)
      clear S9
      go_upto_region 12 with fail
      generalize w9.setCell ⟨gc, 1, none⟩ (.string x) = w10 at S10 ⊢
      clear z1 fz9
      obtain ⟨p0, p1, p2, p3, p4, p5, p6, p7, p8⟩ := cmI_cells S10.out.c
      obtain ⟨r0, r1, r2, r3, r4, r5, r6, r7, r8⟩ := cmI_cells S10.out.a
      have fz := fun j => S10.out.a.fz j
      go_wp2
      refine bodyPost_ret (ret_cmdI (w.heap.size + 1) _ (cmI m.kind x ud (.slice sa sn sc) (m.items : Int) (m.mode : Int) (m.flags : Int) (.slice ba bn bc)) rfl rfl rfl (put9_blk S10.out.a m.kind x ud (.slice sa sn sc) (m.items : Int) (m.mode : Int) (m.flags : Int) (.slice ba bn bc))) rfl ?_
      rw [HN.out]
      unfold ImPost
      rw [HTX.out]
      exact S10.out.fin (m := putUid ud m) hg5 rfl rfl rfl rfl rfl rfl rfl N7.out
    · rw [if_neg hw]
      have HN := hide (show R = (pcL s.data.toList, noF) by
        rw [HRY.out, HIM.out, putN (D9.out (by
          cases fd with
          | true => exact .inl rfl
          | false => exact .inr (fun e => hw ⟨rfl, e⟩)))])
      clear hw
      simp only [cmZ, cmI]
      have S9 := hide (S8.out.put hg5 0 ⟨#[]⟩ false (.slice none 0 0) 0 0 0 (.slice none 0 0) ((noF).set.map prI) (noF).body (OwnP.nil _ _) (OwnB.nil _ _))
      have fz8 := fun j => S8.out.c.fz j
      obtain ⟨p0, p1, p2, p3, p4, p5, p6, p7, p8⟩ := cmI_cells S8.out.c
      unfold put9 at S9
      clear S8
      go_upto_region 11 with fail
      generalize (((((((((w8.setCell ⟨gc, 0, none⟩ (.int .i64 0)).setCell ⟨gc, 1, none⟩ (.string ⟨#[]⟩)).setCell ⟨gc, 2, none⟩ (.int .u32 0)).setCell ⟨gc, 3, none⟩ (.bool false)).setCell ⟨gc, 4, none⟩ (.slice none 0 0)).setCell ⟨gc, 5, none⟩ (.int .i64 0)).setCell ⟨gc, 6, none⟩ (.int .i64 0)).setCell ⟨gc, 7, none⟩ (.int .u32 0)).setCell ⟨gc, 8, none⟩ (.slice none 0 0)) = w9 at S9 ⊢
      clear fz8 p0 p1 p2 p3 p4 p5 p6 p7 p8
      have z1 : w9.cell? ⟨gc, 1, none⟩ = some (.string ⟨#[]⟩) := S9.out.c.cell 1
      have fz9 := S9.out.c.fz 1
      have S10 := hide (S9.out.tag hg5 x)
      clear S9
      go_upto_region 12 with fail
      generalize w9.setCell ⟨gc, 1, none⟩ (.string x) = w10 at S10 ⊢
      clear z1 fz9
      obtain ⟨p0, p1, p2, p3, p4, p5, p6, p7, p8⟩ := cmI_cells S10.out.c
      obtain ⟨r0, r1, r2, r3, r4, r5, r6, r7, r8⟩ := cmI_cells S10.out.a
      have fz := fun j => S10.out.a.fz j
      go_wp2
      refine bodyPost_ret (ret_cmdI (w.heap.size + 1) _ (cmI 0 x false (.slice none 0 0) 0 0 0 (.slice none 0 0)) rfl rfl rfl (put9_blk S10.out.a 0 x false (.slice none 0 0) 0 0 0 (.slice none 0 0))) rfl ?_
      rw [HN.out]
      unfold ImPost
      rw [HTX.out]
      exact S10.out.fin (m := noF) hg5 rfl rfl rfl rfl rfl rfl rfl (.inl rfl)
end Go.Proofs.YtpedmebigcchnaaGreatDoor
