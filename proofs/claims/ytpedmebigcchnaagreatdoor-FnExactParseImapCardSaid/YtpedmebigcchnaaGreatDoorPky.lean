import Derived.Test.YtpedmebigcchnaaGreatDoorPkx
import Derived.Deep.DeepCutAuto
namespace Go.Proofs.YtpedmebigcchnaaGreatDoor
open Go.RowKit
set_option linter.unusedVariables false
theorem CmI.two {g gc : Nat} {w w' : World} {K : Int} {tag : ByteArray} {uid : Bool} {st : Value} {it md fl : Int} {bd : Value} (h : CmI w gc K tag uid st it md fl bd) (t : Two g g w w') (hne : g ≠ gc) : CmI w' gc K tag uid st it md fl bd :=
  (t.block gc h.lt (Ne.symm hne) (Ne.symm hne)).trans h
set_option maxRecDepth 20000 in
theorem fetch_any (gr gc : Nat) (s : ByteArray) (f : Bool) (K : Int) (tag : ByteArray) (uid : Bool) (st : Value) (it md fl : Int) (bd : Value) (w : World) (hs : s.size ≤ 1048576) (hr : RdB w gr s f) (hc : CmI w gc K tag uid st it md fl bd) (hne : gr ≠ gc) (hM : ∀ X, Two gr gc w X → MaxL X) :
    Calls Tryz.prog 54 #[.pointer (some ⟨gr, 0, none⟩), .pointer (some ⟨gc, 0, none⟩)] w fun e w' => (∃ v, e = .returned v) ∧ ∃ (n : Nat) (bad : Bool), RdB w' gr ⟨#[]⟩ (f || bad) ∧ CmI w' gc K tag uid st (n : Int) md fl bd ∧ Two gr gc w w' ∧ (bad = false → itemsOf s.data.toList = n ∧ n ≠ 0) ∧ (bad = true → itemsOf s.data.toList = 0) := by
  have IT := hide (items_any gr gr s f w hs hr (fun X h => hM X h.one))
  have HC := hide hc
  clear hr hc hM
  go_enter Tryz.func54, Tryz.ntmps54
  go_wp2_with fail
  refine IT.out.mono ?_
  rintro e w1 ⟨n, bad, rfl, h1, t1, hp1, hp2, hn⟩
  have hc1 := HC.out.two t1 hne
  have c5 : w1.cell? ⟨gc, 5, none⟩ = some (.int .i64 it) := hc1.cell 5
  have f5 := hc1.fz 5
  have HE := hide (And.intro (h1.other (j := 5) (g' := gc) hne (.int .i64 (n : Int))) (And.intro (CmI.it hc1 (n : Int)) (And.intro ((t1.one (gc := gc)).set2 (j := 5) (.int .i64 (n : Int))) (And.intro hp1 hp2))))
  clear h1 t1 hp1 hp2 hc1 IT HC
  go_wp2
  go_end0
  exact ⟨⟨_, rfl⟩, n, bad, HE.out.1, HE.out.2.1, HE.out.2.2.1, HE.out.2.2.2.1, HE.out.2.2.2.2⟩
set_option maxRecDepth 20000 in
theorem store_any (gr gc : Nat) (s : ByteArray) (f : Bool) (K : Int) (tag : ByteArray) (uid : Bool) (st : Value) (it md fl : Int) (bd : Value) (w : World) (hs : s.size ≤ 1048576) (hr : RdB w gr s f) (hc : CmI w gc K tag uid st it md fl bd) (hne : gr ≠ gc) (hM : ∀ X, Two gr gc w X → MaxL X) (hE : ∀ X, Two gr gc w X → Env X) :
    Calls Tryz.prog 55 #[.pointer (some ⟨gr, 0, none⟩), .pointer (some ⟨gc, 0, none⟩)] w fun e w' => (∃ v, e = .returned v) ∧ RdB w' gr ⟨#[]⟩ ((((f || !decide (modeOf (upT (pcL s.data.toList)) ≠ 0)) || !hbL s.data.toList)) || !(rfOf (nbL s.data.toList)).isSome) ∧ CmI w' gc K tag uid st it ((modeOf (upT (pcL s.data.toList)) : Nat) : Int) (((rfOf (nbL s.data.toList)).getD 0 : Nat) : Int) bd ∧ Two gr gc w w' := by
  have MD := hide (mode_any gr gr s f w hs hr (fun X h => hE X h.one))
  rw [show upB (pcB s) = upT (pcL s.data.toList) from upB_T rfl] at MD
  obtain ⟨hb1, hb2⟩ := bl_bh (s := bhB s) (t := s.data.toList) rfl
  have HB1 := hide hb1
  have HB2 := hide hb2
  have hbl := bh_len s
  have hnl := nb_len s.data.toList
  have hsl : s.data.toList.length = s.size := rfl
  have hns : (blB (bhB s)).size ≤ 1048576 := size_le hb2 (by omega)
  generalize modeOf (upT (pcL s.data.toList)) = mo at MD ⊢
  generalize decide (mo ≠ 0) = kn at MD ⊢
  generalize hrf : rfOf (nbL s.data.toList) = rf
  have HRF := hide hrf
  generalize hhb : hbL s.data.toList = hb
  have HHB := hide hhb
  have HC := hide hc
  have HM := hide hM
  clear hr hc hM hE hb1 hb2 hrf hhb
  go_enter Tryz.func55, Tryz.ntmps55
  go_wp2_with fail
  refine MD.out.mono ?_
  rintro e w1 ⟨rfl, h1, t1⟩
  have hc1 := HC.out.two t1 hne
  have c6 : w1.cell? ⟨gc, 6, none⟩ = some (.int .i64 md) := hc1.cell 6
  have f6 := hc1.fz 6
  have H2 := hide (h1.other (j := 6) (g' := gc) hne (.int .i64 (mo : Int)))
  have C2 := hide (CmI.md hc1 (mo : Int))
  have T2 := hide ((t1.one (gc := gc)).set2 (j := 6) (.int .i64 (mo : Int)))
  clear h1 t1 hc1 MD HC
  go_upto_region 1 with fail
  generalize w1.setCell ⟨gc, 6, none⟩ (.int .i64 (mo : Int)) = w2 at H2 C2 T2 ⊢
  clear c6 f6
  have BL := hide (blank_any gr gr (bhB s) (f || !kn) w2 H2.out)
  rw [HB1.out, HHB.out] at BL
  go_wp2_with fail
  refine BL.out.mono ?_
  rintro e w3 ⟨⟨v3, rfl⟩, h3, t3⟩
  have H3 := hide h3
  have C3 := hide (C2.out.two t3 hne)
  have T3 := hide (T2.out.trans (t3.one (gc := gc)))
  clear h3 t3 BL H2 C2 T2
  go_wp2_with fail
  refine (all_any gr gr (blB (bhB s)) _ w3 H3.out).mono ?_
  rintro e w4 ⟨rfl, h4, t4⟩
  have T4' := T3.out.trans (t4.one (gc := gc))
  have FL := hide (flags_any gr gr ⟨#[]⟩ (blB (bhB s)) _ w4 hns h4 (HM.out w4 T4'))
  rw [HB2.out, HRF.out] at FL
  have C4 := hide (C3.out.two t4 hne)
  have T4 := hide T4'
  clear h4 t4 T4' C3 T3 H3
  go_wp2_with fail
  refine FL.out.mono ?_
  rintro e w5 ⟨rfl, h5, t5⟩
  have hc5 := C4.out.two t5 hne
  have c7 : w5.cell? ⟨gc, 7, none⟩ = some (.int .u32 fl) := hc5.cell 7
  have f7 := hc5.fz 7
  have HE := hide (And.intro (h5.other (j := 7) (g' := gc) hne (.int .u32 ((rf.getD 0 : Nat) : Int))) (And.intro (CmI.fl hc5 ((rf.getD 0 : Nat) : Int)) ((T4.out.trans (t5.one (gc := gc))).set2 (j := 7) (.int .u32 ((rf.getD 0 : Nat) : Int)))))
  clear h5 t5 hc5 FL C4 T4
  go_wp2
  go_end0
  exact ⟨⟨_, rfl⟩, HE.out.1, HE.out.2.1, HE.out.2.2⟩
end Go.Proofs.YtpedmebigcchnaaGreatDoor
namespace Go.Proofs.YtpedmebigcchnaaGreatDoor
open Go.RowKit
set_option linter.unusedVariables false
/-- What a verb leaves: the reader, the command, and that both tell R. -/
def VD (gr gc : Nat) (ud : Bool) (R : Option MF) (w w' : World) : Prop := ∃ (r : ByteArray) (fd : Bool) (m : MF) (sa : Option Addr) (sn sc : Nat) (ba : Option Addr) (bn bc : Nat), RdB w' gr r fd ∧ CmI w' gc m.kind ⟨#[]⟩ ud (.slice sa sn sc) (m.items : Int) (m.mode : Int) (m.flags : Int) (.slice ba bn bc) ∧ Two gr gc w w' ∧ OwnP w' w.heap.size (.slice sa sn sc) (m.set.map prI) ∧ OwnB w' w.heap.size (.slice ba bn bc) m.body ∧ (Value.slice sa sn sc = .slice none 0 0 ∨ Value.slice ba bn bc = .slice none 0 0) ∧ m.uid = false ∧ (fd = false → r.data.toList = [] → R = some m) ∧ (fd = true ∨ r.data.toList ≠ [] → R = none)
theorem fetch_fin {f bad : Bool} {t : List UInt8} {n : Nat} {so : Option (List (Nat × Nat))} (hso : setOf (pcL (nbL t)) = so) (h1 : bad = false → itemsOf (nbL (nbL t)) = n ∧ n ≠ 0) (h2 : bad = true → itemsOf (nbL (nbL t)) = 0) :
    (((((f || !hbL t) || !so.isSome) || !hbL (nbL t)) || bad) = false → (if (f || !hbL t) = true then none else onSet ⟨#[70, 69, 84, 67, 72]⟩ (nbL t)) = some ⟨9, false, so.getD [], n, 0, 0, []⟩) ∧
    (((((f || !hbL t) || !so.isSome) || !hbL (nbL t)) || bad) = true → (if (f || !hbL t) = true then none else onSet ⟨#[70, 69, 84, 67, 72]⟩ (nbL t)) = none) := by
  cases hF : (f || !hbL t) with
  | true => exact ⟨fun h => by simp at h, fun _ => if_pos rfl⟩
  | false =>
    rw [if_neg (by simp)]
    cases so with
    | none => exact ⟨fun h => by simp at h, fun _ => onSet_no2 hso⟩
    | some ps =>
      cases hb : hbL (nbL t) with
      | false => exact ⟨fun h => by simp at h, fun _ => onSet_no1 hb⟩
      | true =>
        have e := onSet_f (u := ⟨#[70, 69, 84, 67, 72]⟩) hso hb rfl
        cases bad with
        | false =>
          obtain ⟨h3, h4⟩ := h1 rfl
          rw [e, h3]
          exact ⟨fun _ => if_neg h4, fun h => by simp at h⟩
        | true =>
          rw [e, h2 rfl]
          exact ⟨fun h => by simp at h, fun _ => if_pos rfl⟩
theorem store_fin {f : Bool} {t : List UInt8} {so : Option (List (Nat × Nat))} (hso : setOf (pcL (nbL t)) = so) :
    ((((((((f || !hbL t) || !so.isSome) || !hbL (nbL t)) || !decide (modeOf (upT (pcL (nbL (nbL t)))) ≠ 0)) || !hbL (nbL (nbL t)))) || !(rfOf (nbL (nbL (nbL t)))).isSome) = false → (if (f || !hbL t) = true then none else onSet ⟨#[83, 84, 79, 82, 69]⟩ (nbL t)) = some ⟨10, false, so.getD [], 0, modeOf (upT (pcL (nbL (nbL t)))), (rfOf (nbL (nbL (nbL t)))).getD 0, []⟩) ∧
    ((((((((f || !hbL t) || !so.isSome) || !hbL (nbL t)) || !decide (modeOf (upT (pcL (nbL (nbL t)))) ≠ 0)) || !hbL (nbL (nbL t)))) || !(rfOf (nbL (nbL (nbL t)))).isSome) = true → (if (f || !hbL t) = true then none else onSet ⟨#[83, 84, 79, 82, 69]⟩ (nbL t)) = none) := by
  cases hF : (f || !hbL t) with
  | true => exact ⟨fun h => by simp at h, fun _ => if_pos rfl⟩
  | false =>
    rw [if_neg (by simp)]
    cases so with
    | none => exact ⟨fun h => by simp at h, fun _ => onSet_no2 hso⟩
    | some ps =>
      cases hb : hbL (nbL t) with
      | false => exact ⟨fun h => by simp at h, fun _ => onSet_no1 hb⟩
      | true =>
        have e := onSet_s (u := ⟨#[83, 84, 79, 82, 69]⟩) hso hb (by decide) rfl
        by_cases hm : modeOf (upT (pcL (nbL (nbL t)))) = 0
        · exact ⟨fun h => by simp [hm] at h, fun _ => e.2.2.1 hm⟩
        · cases hb2 : hbL (nbL (nbL t)) with
          | false => exact ⟨fun h => by simp at h, fun _ => e.2.1 hb2⟩
          | true =>
            cases hr : rfOf (nbL (nbL (nbL t))) with
            | none => exact ⟨fun h => by simp at h, fun _ => e.1 hr⟩
            | some fl => exact ⟨fun _ => e.2.2.2 fl hr hb2 hm, fun h => by simp [hm] at h⟩
set_option maxRecDepth 20000 in
set_option maxHeartbeats 1000000 in
theorem over_fetch (gr gc gk gv : Nat) (ud : Bool) (t : List UInt8) (s : ByteArray) (f : Bool) (w : World) (hst : s.data.toList = bhL t) (hs : t.length ≤ 1048576) (hr : RdB w gr s f) (hc : CmI w gc 0 ⟨#[]⟩ ud (.slice none 0 0) 0 0 0 (.slice none 0 0)) (hk : Blk w gk #[.int .i64 9] 3) (hv : Blk w gv #[.func (.func 54) #[] #[]] 73) (hne : gr ≠ gc) (hkr : gk ≠ gr ∧ gk ≠ gc) (hvr : gv ≠ gr ∧ gv ≠ gc) (hM : ∀ X, Two gr gc w X → MaxL X) (hE : ∀ X, Two gr gc w X → Env X) :
    Calls Tryz.prog 65 #[.pointer (some ⟨gr, 0, none⟩), .pointer (some ⟨gc, 0, none⟩), .pointer (some ⟨gk, 0, none⟩), .pointer (some ⟨gv, 0, none⟩)] w fun e w' => (∃ v, e = .returned v) ∧ VD gr gc ud (if (f || !hbL t) = true then none else onSet ⟨#[70, 69, 84, 67, 72]⟩ (nbL t)) w w' := by
  obtain ⟨q1, q2⟩ := bl_bh hst
  have hnl := nb_len t
  have hnl2 := nb_len (nbL t)
  have hs1 : (blB s).size ≤ 1048576 := size_le q2 (by omega)
  have q3 : (bhB (blB s)).data.toList = bhL (nbL t) := by show bhL (blB s).data.toList = _; rw [q2]
  obtain ⟨q4, q5⟩ := bl_bh q3
  have hs2 : (blB (bhB (blB s))).size ≤ 1048576 := size_le q5 (by omega)
  have Q1 := hide q1
  have Q2 := hide q2
  have Q4 := hide q4
  have Q5 := hide q5
  generalize hR : (if (f || !hbL t) = true then none else onSet ⟨#[70, 69, 84, 67, 72]⟩ (nbL t)) = R
  have HRR := hide hR
  have hgl := hr.lt
  have hcl := hc.lt
  have c0 : w.cell? ⟨gc, 0, none⟩ = some (.int .i64 0) := hc.cell 0
  have f0 := hc.fz 0
  have k0 : w.cell? ⟨gk, 0, none⟩ = some (.int .i64 9) := hk.cell 0
  have H1 := hide (hr.other (j := 0) (g' := gc) hne (.int .i64 9))
  have C1 := hide (CmI.kind hc 9)
  have V1 := hide (hv.other (j := 0) (g' := gc) hvr.2 (.int .i64 9))
  have T1 := hide ((Two.refl gr gc w).set2 (j := 0) (.int .i64 9))
  have HM := hide hM
  have HE := hide hE
  clear hr hc hk hv hM hE hR q1 q2 q3 q4 q5 hnl hnl2
  go_enter Tryz.func65, Tryz.ntmps65
  go_upto_region 1 with fail
  generalize w.setCell ⟨gc, 0, none⟩ (.int .i64 9) = w1 at H1 C1 V1 T1 ⊢
  clear c0 f0 k0
  have BL := hide (blank_any gr gr s f w1 H1.out)
  rw [Q1.out] at BL
  go_wp2_with fail
  refine BL.out.mono ?_
  rintro e w2 ⟨⟨v2, rfl⟩, h2, t2⟩
  have C2 := hide (C1.out.two t2 hne)
  have V2 := hide (V1.out.two t2 hvr.1 hvr.1)
  have T2 := hide (T1.out.trans (t2.one (gc := gc)))
  have ST := hide (set_any gr gr (blB s) _ w2 hs1 h2.lt h2 (fun X h => HE.out X (T2.out.trans h.one)))
  rw [Q2.out] at ST
  generalize hso : setOf (pcL (nbL t)) = so at ST
  have HSO := hide hso
  clear h2 t2 BL H1 C1 V1 T1 hso
  go_wp2_with fail
  refine ST.out.mono ?_
  rintro e w3 ⟨sa, sn, sc, rfl, hP3, h3, t3⟩
  have hc3 := C2.out.two t3 hne
  have c4 : w3.cell? ⟨gc, 4, none⟩ = some (.slice none 0 0) := hc3.cell 4
  have f4 := hc3.fz 4
  have hlo : gr < w2.heap.size ∧ gc < w2.heap.size := ⟨Nat.lt_of_lt_of_le hgl T2.out.size, Nat.lt_of_lt_of_le hcl T2.out.size⟩
  have H4 := hide (h3.other (j := 4) (g' := gc) hne (.slice sa sn sc))
  have C4 := hide (CmI.st hc3 (.slice sa sn sc))
  have V4 := hide ((V2.out.two t3 hvr.1 hvr.1).other (j := 4) (g' := gc) hvr.2 (.slice sa sn sc))
  have T4 := hide ((T2.out.trans (t3.one (gc := gc))).set2 (j := 4) (.slice sa sn sc))
  have P4 := hide (hP3.other (j := 4) hlo.2 (.slice sa sn sc))
  have HLW := hide (show w.heap.size ≤ w2.heap.size from T2.out.size)
  clear hP3 h3 t3 hc3 ST C2 V2 T2
  go_upto_region 3 with fail
  generalize w3.setCell ⟨gc, 4, none⟩ (.slice sa sn sc) = w4 at H4 C4 V4 T4 P4 ⊢
  clear c4 f4
  have BL := hide (blank_any gr gr (bhB (blB s)) _ w4 H4.out)
  rw [Q4.out] at BL
  go_wp2_with fail
  refine BL.out.mono ?_
  rintro e w5 ⟨⟨v5, rfl⟩, h5, t5⟩
  have C5 := hide (C4.out.two t5 hne)
  have v5c : w5.cell? ⟨gv, 0, none⟩ = some (.func (.func 54) #[] #[]) := (V4.out.two t5 hvr.1 hvr.1).cell 0
  have T5 := hide (T4.out.trans (t5.one (gc := gc)))
  have P5 := hide (P4.out.two t5 hlo.1 hlo.1)
  have H5 := hide h5
  clear h5 t5 BL H4 C4 V4 T4 P4
  have FT := hide (fetch_any gr gc (blB (bhB (blB s))) _ 9 ⟨#[]⟩ ud (.slice sa sn sc) 0 0 0 (.slice none 0 0) w5 hs2 H5.out C5.out hne (fun X h => HM.out X (T5.out.trans h)))
  rw [Q5.out] at FT
  go_wp2_with fail
  refine FT.out.mono ?_
  rintro e w6 ⟨⟨v6, rfl⟩, n, bad, h6, c6, t6, hp1, hp2⟩
  have HF := hide (fetch_fin (f := f) HSO.out hp1 hp2)
  rw [HRR.out] at HF
  have HFIN := hide (show VD gr gc ud R w w6 from ⟨⟨#[]⟩, _, ⟨9, false, so.getD [], n, 0, 0, []⟩, sa, sn, sc, none, 0, 0, h6, c6, T5.out.trans t6, (P5.out.two t6 hlo.1 hlo.2).mono HLW.out, OwnB.nil _ _, .inr rfl, rfl, fun h _ => HF.out.1 h, fun h => HF.out.2 (h.resolve_right (fun h => h rfl))⟩)
  clear h6 c6 t6 hp1 hp2 HF FT
  go_wp2
  go_end0
  exact ⟨⟨_, rfl⟩, HFIN.out⟩
set_option maxRecDepth 20000 in
set_option maxHeartbeats 1000000 in
theorem over_store (gr gc gk gv : Nat) (ud : Bool) (t : List UInt8) (s : ByteArray) (f : Bool) (w : World) (hst : s.data.toList = bhL t) (hs : t.length ≤ 1048576) (hr : RdB w gr s f) (hc : CmI w gc 0 ⟨#[]⟩ ud (.slice none 0 0) 0 0 0 (.slice none 0 0)) (hk : Blk w gk #[.int .i64 10] 3) (hv : Blk w gv #[.func (.func 55) #[] #[]] 73) (hne : gr ≠ gc) (hkr : gk ≠ gr ∧ gk ≠ gc) (hvr : gv ≠ gr ∧ gv ≠ gc) (hM : ∀ X, Two gr gc w X → MaxL X) (hE : ∀ X, Two gr gc w X → Env X) :
    Calls Tryz.prog 65 #[.pointer (some ⟨gr, 0, none⟩), .pointer (some ⟨gc, 0, none⟩), .pointer (some ⟨gk, 0, none⟩), .pointer (some ⟨gv, 0, none⟩)] w fun e w' => (∃ v, e = .returned v) ∧ VD gr gc ud (if (f || !hbL t) = true then none else onSet ⟨#[83, 84, 79, 82, 69]⟩ (nbL t)) w w' := by
  obtain ⟨q1, q2⟩ := bl_bh hst
  have hnl := nb_len t
  have hnl2 := nb_len (nbL t)
  have hs1 : (blB s).size ≤ 1048576 := size_le q2 (by omega)
  have q3 : (bhB (blB s)).data.toList = bhL (nbL t) := by show bhL (blB s).data.toList = _; rw [q2]
  obtain ⟨q4, q5⟩ := bl_bh q3
  have hs2 : (blB (bhB (blB s))).size ≤ 1048576 := size_le q5 (by omega)
  have Q1 := hide q1
  have Q2 := hide q2
  have Q4 := hide q4
  have Q5 := hide q5
  generalize hR : (if (f || !hbL t) = true then none else onSet ⟨#[83, 84, 79, 82, 69]⟩ (nbL t)) = R
  have HRR := hide hR
  have hgl := hr.lt
  have hcl := hc.lt
  have c0 : w.cell? ⟨gc, 0, none⟩ = some (.int .i64 0) := hc.cell 0
  have f0 := hc.fz 0
  have k0 : w.cell? ⟨gk, 0, none⟩ = some (.int .i64 10) := hk.cell 0
  have H1 := hide (hr.other (j := 0) (g' := gc) hne (.int .i64 10))
  have C1 := hide (CmI.kind hc 10)
  have V1 := hide (hv.other (j := 0) (g' := gc) hvr.2 (.int .i64 10))
  have T1 := hide ((Two.refl gr gc w).set2 (j := 0) (.int .i64 10))
  have HM := hide hM
  have HE := hide hE
  clear hr hc hk hv hM hE hR q1 q2 q3 q4 q5 hnl hnl2
  go_enter Tryz.func65, Tryz.ntmps65
  go_upto_region 1 with fail
  generalize w.setCell ⟨gc, 0, none⟩ (.int .i64 10) = w1 at H1 C1 V1 T1 ⊢
  clear c0 f0 k0
  have BL := hide (blank_any gr gr s f w1 H1.out)
  rw [Q1.out] at BL
  go_wp2_with fail
  refine BL.out.mono ?_
  rintro e w2 ⟨⟨v2, rfl⟩, h2, t2⟩
  have C2 := hide (C1.out.two t2 hne)
  have V2 := hide (V1.out.two t2 hvr.1 hvr.1)
  have T2 := hide (T1.out.trans (t2.one (gc := gc)))
  have ST := hide (set_any gr gr (blB s) _ w2 hs1 h2.lt h2 (fun X h => HE.out X (T2.out.trans h.one)))
  rw [Q2.out] at ST
  generalize hso : setOf (pcL (nbL t)) = so at ST
  have HSO := hide hso
  clear h2 t2 BL H1 C1 V1 T1 hso
  go_wp2_with fail
  refine ST.out.mono ?_
  rintro e w3 ⟨sa, sn, sc, rfl, hP3, h3, t3⟩
  have hc3 := C2.out.two t3 hne
  have c4 : w3.cell? ⟨gc, 4, none⟩ = some (.slice none 0 0) := hc3.cell 4
  have f4 := hc3.fz 4
  have hlo : gr < w2.heap.size ∧ gc < w2.heap.size := ⟨Nat.lt_of_lt_of_le hgl T2.out.size, Nat.lt_of_lt_of_le hcl T2.out.size⟩
  have H4 := hide (h3.other (j := 4) (g' := gc) hne (.slice sa sn sc))
  have C4 := hide (CmI.st hc3 (.slice sa sn sc))
  have V4 := hide ((V2.out.two t3 hvr.1 hvr.1).other (j := 4) (g' := gc) hvr.2 (.slice sa sn sc))
  have T4 := hide ((T2.out.trans (t3.one (gc := gc))).set2 (j := 4) (.slice sa sn sc))
  have P4 := hide (hP3.other (j := 4) hlo.2 (.slice sa sn sc))
  have HLW := hide (show w.heap.size ≤ w2.heap.size from T2.out.size)
  clear hP3 h3 t3 hc3 ST C2 V2 T2
  go_upto_region 3 with fail
  generalize w3.setCell ⟨gc, 4, none⟩ (.slice sa sn sc) = w4 at H4 C4 V4 T4 P4 ⊢
  clear c4 f4
  have BL := hide (blank_any gr gr (bhB (blB s)) _ w4 H4.out)
  rw [Q4.out] at BL
  go_wp2_with fail
  refine BL.out.mono ?_
  rintro e w5 ⟨⟨v5, rfl⟩, h5, t5⟩
  have C5 := hide (C4.out.two t5 hne)
  have v5c : w5.cell? ⟨gv, 0, none⟩ = some (.func (.func 55) #[] #[]) := (V4.out.two t5 hvr.1 hvr.1).cell 0
  have T5 := hide (T4.out.trans (t5.one (gc := gc)))
  have P5 := hide (P4.out.two t5 hlo.1 hlo.1)
  have H5 := hide h5
  clear h5 t5 BL H4 C4 V4 T4 P4
  have FT := hide (store_any gr gc (blB (bhB (blB s))) _ 10 ⟨#[]⟩ ud (.slice sa sn sc) 0 0 0 (.slice none 0 0) w5 hs2 H5.out C5.out hne (fun X h => HM.out X (T5.out.trans h)) (fun X h => HE.out X (T5.out.trans h)))
  rw [Q5.out] at FT
  go_wp2_with fail
  refine FT.out.mono ?_
  rintro e w6 ⟨⟨v6, rfl⟩, h6, c6, t6⟩
  have HF := hide (store_fin (f := f) (t := t) HSO.out)
  rw [HRR.out] at HF
  have HFIN := hide (show VD gr gc ud R w w6 from ⟨⟨#[]⟩, _, ⟨10, false, so.getD [], 0, modeOf (upT (pcL (nbL (nbL t)))), (rfOf (nbL (nbL (nbL t)))).getD 0, []⟩, sa, sn, sc, none, 0, 0, h6, c6, T5.out.trans t6, (P5.out.two t6 hlo.1 hlo.2).mono HLW.out, OwnB.nil _ _, .inr rfl, rfl, fun h _ => HF.out.1 h, fun h => HF.out.2 (h.resolve_right (fun h => h rfl))⟩)
  clear h6 c6 t6 HF FT
  go_wp2
  go_end0
  exact ⟨⟨_, rfl⟩, HFIN.out⟩
end Go.Proofs.YtpedmebigcchnaaGreatDoor
namespace Go.Proofs.YtpedmebigcchnaaGreatDoor
open Go.RowKit
set_option linter.unusedVariables false
def isU (x : Nat) : Bool := decide (65 ≤ x ∧ x ≤ 90) || decide (48 ≤ x ∧ x ≤ 57)
theorem isU_up (c : UInt8) : isU (upN c.toNat) = isAl c := by
  have h : ∀ n, n < 256 → isU (upN n) = (decide (48 ≤ n ∧ n ≤ 57) || decide (97 ≤ n ∧ n ≤ 122) || decide (65 ≤ n ∧ n ≤ 90)) := by decide +kernel
  exact h _ c.toNat_lt
theorem all_up (p : ByteArray) : ((bytesL p).map upN).all isU = p.data.toList.all isAl := by
  unfold bytesL
  rw [List.map_map, List.all_map]
  congr 1
  funext c
  exact isU_up c
theorem RowF.two {b1 b2 : Nat} {w w' : World} {g c : Nat} {l : List Nat} (h : RowF w g c l) (t : Two b1 b2 w w') (h1 : g ≠ b1) (h2 : g ≠ b2) : RowF w' g c l := by
  obtain ⟨⟨cur, hg, hz⟩, hl⟩ := h
  exact ⟨⟨cur, (t.block g (lt_of_block hg) h1 h2).trans hg, hz⟩, hl⟩
theorem all_take {l : List Nat} {k : Nat} (hk : k < l.length) : (l.take (k + 1)).all isU = ((l.take k).all isU && isU l[k]) := by
  rw [List.take_succ_eq_append_getElem hk, List.all_append]
  simp
theorem or_and (F A B : Bool) : ((F || !A) || !B) = (F || !(A && B)) := by cases F <;> cases A <;> cases B <;> rfl
theorem tag_fin {f c : Bool} {t : List UInt8} (hc : c = decide (1 ≤ t.length ∧ t.length ≤ 20)) : ((f || !c) || !t.all isAl) = (f || !tagOk t) := by
  unfold tagOk
  rw [← hc, or_and]
set_option maxRecDepth 20000 in
set_option maxHeartbeats 4000000 in
theorem tag_any (g gc : Nat) (s : ByteArray) (f : Bool) (w : World) (hs : s.size ≤ 1048576) (hr : RdB w g s f) (hE : Env w) :
    Calls Tryz.prog 21 #[.pointer (some ⟨g, 0, none⟩)] w fun e w' => e = .returned (.string (pcB s)) ∧ RdB w' g (bhB s) (f || !tagOk (pcL s.data.toList)) ∧ Two g gc w w' := by
  have PC := hide (piece_any g gc s f w hs hr hE)
  have hpl := pc_len s
  have hgl := hr.lt
  have HD := hide (show (pcB s).data.toList = pcL s.data.toList from rfl)
  have HAU := hide (all_up (pcB s))
  rw [HD.out] at HAU
  generalize htk : tagOk (pcL s.data.toList) = tk
  have HTK := hide htk
  have hplen : (pcL s.data.toList).length = (pcB s).size := (pcB_sz s).symm
  have HPL := hide hplen
  generalize pcL s.data.toList = pl at HD HAU HTK HPL
  have hub := up_lt (bytesL_lt (pcB s))
  have hul : ((bytesL (pcB s)).map upN).length = (pcB s).size := by rw [List.length_map, bytesL_len]
  have CP := hide (fun W => capitals_any (bytesL (pcB s)) W (by rw [bytesL_len]; omega) (bytesL_lt _))
  rw [strB_bytesL] at CP
  generalize (bytesL (pcB s)).map upN = lu at HAU hub hul CP
  have HUB := hide hub
  clear hr hE hub htk hplen
  generalize pcB s = p at PC HD HPL hul CP hpl ⊢
  generalize bhB s = r at PC ⊢
  go_enter Tryz.func21, Tryz.ntmps21
  go_wp2_with fail
  refine PC.out.mono ?_
  rintro e w1 ⟨rfl, h1, t1⟩
  have H1 := hide h1
  have T1 := hide t1
  clear h1 t1 PC
  generalize hc0 : decide (1 ≤ p.size ∧ p.size ≤ 20) = c0
  have HC0 := hide hc0
  have HFN := hide (tag_fin (f := f) (c := c0) (t := pl) (by rw [HPL.out]; exact HC0.out.symm))
  rw [HTK.out, ← HAU.out] at HFN
  clear hc0
  go_upto_region 2 with fail
  go_cut [17] (fun _ wx => RdB wx g r (f || !c0) ∧ Two g gc w wx)
  case first =>
    by_cases h1 : p.size < 1
    · have h1i : ¬ (1 : Int) ≤ (p.size : Int) := by omega
      have hc : c0 = false := by rw [← HC0.out]; exact decide_eq_false (by omega)
      have HC := hide hc
      clear hc
      go_wp2_with fail
      refine (need_any g g r f false w1 H1.out).mono ?_
      rintro e w2 ⟨⟨v2, rfl⟩, h2, t2⟩
      have H2 := hide (And.intro h2 (T1.out.trans (t2.one (gc := gc))))
      clear h2 t2
      go_wp2_with fail
      go_meet
      case rel => rw [HC.out]; exact H2.out
    by_cases h2 : 20 < p.size
    · have h1i : (1 : Int) ≤ (p.size : Int) := by omega
      have h2i : ¬ (p.size : Int) ≤ 20 := by omega
      have hc : c0 = false := by rw [← HC0.out]; exact decide_eq_false (by omega)
      have HC := hide hc
      clear hc
      go_wp2_with fail
      refine (need_any g g r f false w1 H1.out).mono ?_
      rintro e w2 ⟨⟨v2, rfl⟩, h2, t2⟩
      have H2 := hide (And.intro h2 (T1.out.trans (t2.one (gc := gc))))
      clear h2 t2
      go_wp2_with fail
      go_meet
      case rel => rw [HC.out]; exact H2.out
    have h1i : (1 : Int) ≤ (p.size : Int) := by omega
    have h2i : (p.size : Int) ≤ 20 := by omega
    have hc : c0 = true := by rw [← HC0.out]; exact decide_eq_true (by omega)
    have HC := hide hc
    clear hc
    go_wp2_with fail
    refine (need_any g g r f true w1 H1.out).mono ?_
    rintro e w2 ⟨⟨v2, rfl⟩, h2, t2⟩
    have H2 := hide (And.intro h2 (T1.out.trans (t2.one (gc := gc))))
    clear h2 t2
    go_wp2_with fail
    go_meet
    case rel => rw [HC.out]; exact H2.out
  case rest =>
    have H2 := hide hcut.1
    have T2 := hide hcut.2
    clear hcut H1 T1
    go_wp2_with fail
    refine (CP.out wc).mono ?_
    rintro e w3 ⟨rfl, hb3⟩
    have H3 := hide (H2.out.below hb3 H2.out.lt)
    have T3 := hide (T2.out.trans (Two.of_below hb3))
    have hne : ¬ w3.heap.size = g := by have h1 := H3.out.lt; omega
    have HNE := hide hne
    have hconv := Lib.run_convert_string_bytes (P := Tryz.prog) w3 9 22 5 (strB lu) Tryz.underlying9 Tryz.underlying22 Tryz.underlying5
    rw [strB_size] at hconv
    have HF := hide (rowF_new w3 lu HUB.out)
    have HB := hide (bytesW_below w3 (strB lu))
    clear hb3 CP hne
    generalize Lib.bytesWorld w3 5 (strB lu) = w4 at hconv HF HB
    generalize (Lib.bytesCells w3 5 (strB lu)).size = cc at HF
    generalize grownCap w3 lu.length 0 5 = cg at hconv
    generalize strB lu = sl at hconv ⊢
    have H4 := hide (H3.out.below HB.out H3.out.lt)
    have T4 := hide (T3.out.trans (Two.of_below HB.out))
    clear H3 T3 HB H2 T2
    go_wp2
    clear hconv
    go_loopw [5, 22] (fun _ i wr => ∃ k : Nat, k ≤ lu.length ∧ i = .int .i64 (k : Int) ∧ Hid (RdB wr g r ((f || !c0) || !(lu.take k).all isU)) ∧ Hid (RowF wr w3.heap.size cc lu) ∧ Hid (Two g gc w wr)) (fun _ i _ => lu.length - (intOf i).toNat)
    case atStart => exact ⟨0, Nat.zero_le _, rfl, hide (by have h := H4.out; simpa using h), HF, T4⟩
    case round =>
      obtain ⟨k, hk, rfl, HR, HF, HT⟩ := hrel
      by_cases hlt : k < lu.length
      · have hc := HF.out.cell k hlt
        have hx : lu[k] < 256 := HUB.out _ (List.getElem_mem hlt)
        have HAT := hide (all_take hlt)
        have hki : (k : Int) < (lu.length : Int) := by omega
        generalize lu[k] = x at hc hx HAT
        generalize hA : (lu.take k).all isU = A at HR HAT
        clear hA
        by_cases i0 : x < 48
        · have g0 : ¬ (65 : Int) ≤ (x : Int) := by omega
          have g1 : (x : Int) ≤ 90 := by omega
          have g2 : ¬ (48 : Int) ≤ (x : Int) := by omega
          have g3 : (x : Int) ≤ 57 := by omega
          have hu : isU x = false := by unfold isU; simp; omega
          have HU := hide hu
          clear hu
          go_wp2_with fail
          refine (need_any g g r _ false wr HR.out).mono ?_
          rintro e w6 ⟨⟨v6, rfl⟩, h6, t6⟩
          have HR6 := hide (show RdB w6 g r ((f || !c0) || !(lu.take (k + 1)).all isU) by have h := h6; rw [or_and, ← HU.out, ← HAT.out] at h; exact h)
          have HF6 := hide (HF.out.two t6 HNE.out HNE.out)
          have HT6 := hide (HT.out.trans (t6.one (gc := gc)))
          clear h6 t6 HR HF HT hc
          go_wp2
          go_roundw
          case rel => exact ⟨k + 1, by omega, by go_num, HR6, HF6, HT6⟩
          case measure => simp [intOf]; omega
        by_cases i1 : x ≤ 57
        · have g0 : ¬ (65 : Int) ≤ (x : Int) := by omega
          have g1 : (x : Int) ≤ 90 := by omega
          have g2 : (48 : Int) ≤ (x : Int) := by omega
          have g3 : (x : Int) ≤ 57 := by omega
          have hu : isU x = true := by unfold isU; simp; omega
          have HU := hide hu
          clear hu
          go_wp2_with fail
          refine (need_any g g r _ true wr HR.out).mono ?_
          rintro e w6 ⟨⟨v6, rfl⟩, h6, t6⟩
          have HR6 := hide (show RdB w6 g r ((f || !c0) || !(lu.take (k + 1)).all isU) by have h := h6; rw [or_and, ← HU.out, ← HAT.out] at h; exact h)
          have HF6 := hide (HF.out.two t6 HNE.out HNE.out)
          have HT6 := hide (HT.out.trans (t6.one (gc := gc)))
          clear h6 t6 HR HF HT hc
          go_wp2
          go_roundw
          case rel => exact ⟨k + 1, by omega, by go_num, HR6, HF6, HT6⟩
          case measure => simp [intOf]; omega
        by_cases i2 : x < 65
        · have g0 : ¬ (65 : Int) ≤ (x : Int) := by omega
          have g1 : (x : Int) ≤ 90 := by omega
          have g2 : (48 : Int) ≤ (x : Int) := by omega
          have g3 : ¬ (x : Int) ≤ 57 := by omega
          have hu : isU x = false := by unfold isU; simp; omega
          have HU := hide hu
          clear hu
          go_wp2_with fail
          refine (need_any g g r _ false wr HR.out).mono ?_
          rintro e w6 ⟨⟨v6, rfl⟩, h6, t6⟩
          have HR6 := hide (show RdB w6 g r ((f || !c0) || !(lu.take (k + 1)).all isU) by have h := h6; rw [or_and, ← HU.out, ← HAT.out] at h; exact h)
          have HF6 := hide (HF.out.two t6 HNE.out HNE.out)
          have HT6 := hide (HT.out.trans (t6.one (gc := gc)))
          clear h6 t6 HR HF HT hc
          go_wp2
          go_roundw
          case rel => exact ⟨k + 1, by omega, by go_num, HR6, HF6, HT6⟩
          case measure => simp [intOf]; omega
        by_cases i3 : x ≤ 90
        · have g0 : (65 : Int) ≤ (x : Int) := by omega
          have g1 : (x : Int) ≤ 90 := by omega
          have g2 : (48 : Int) ≤ (x : Int) := by omega
          have g3 : ¬ (x : Int) ≤ 57 := by omega
          have hu : isU x = true := by unfold isU; simp; omega
          have HU := hide hu
          clear hu
          go_wp2_with fail
          refine (need_any g g r _ true wr HR.out).mono ?_
          rintro e w6 ⟨⟨v6, rfl⟩, h6, t6⟩
          have HR6 := hide (show RdB w6 g r ((f || !c0) || !(lu.take (k + 1)).all isU) by have h := h6; rw [or_and, ← HU.out, ← HAT.out] at h; exact h)
          have HF6 := hide (HF.out.two t6 HNE.out HNE.out)
          have HT6 := hide (HT.out.trans (t6.one (gc := gc)))
          clear h6 t6 HR HF HT hc
          go_wp2
          go_roundw
          case rel => exact ⟨k + 1, by omega, by go_num, HR6, HF6, HT6⟩
          case measure => simp [intOf]; omega
        have g0 : (65 : Int) ≤ (x : Int) := by omega
        have g1 : ¬ (x : Int) ≤ 90 := by omega
        have g2 : (48 : Int) ≤ (x : Int) := by omega
        have g3 : ¬ (x : Int) ≤ 57 := by omega
        have hu : isU x = false := by unfold isU; simp; omega
        have HU := hide hu
        clear hu
        go_wp2_with fail
        refine (need_any g g r _ false wr HR.out).mono ?_
        rintro e w6 ⟨⟨v6, rfl⟩, h6, t6⟩
        have HR6 := hide (show RdB w6 g r ((f || !c0) || !(lu.take (k + 1)).all isU) by have h := h6; rw [or_and, ← HU.out, ← HAT.out] at h; exact h)
        have HF6 := hide (HF.out.two t6 HNE.out HNE.out)
        have HT6 := hide (HT.out.trans (t6.one (gc := gc)))
        clear h6 t6 HR HF HT hc
        go_wp2
        go_roundw
        case rel => exact ⟨k + 1, by omega, by go_num, HR6, HF6, HT6⟩
        case measure => simp [intOf]; omega
      · have hke : lu.take k = lu := List.take_of_length_le (by omega)
        have HRE := hide (show RdB wr g r (f || !tk) by have h := HR.out; rw [hke, HFN.out] at h; exact h)
        have hki : ¬ (k : Int) < (lu.length : Int) := by omega
        clear HR hke
        go_wp2
        go_ret
        exact ⟨rfl, HRE.out, HT.out⟩
end Go.Proofs.YtpedmebigcchnaaGreatDoor
