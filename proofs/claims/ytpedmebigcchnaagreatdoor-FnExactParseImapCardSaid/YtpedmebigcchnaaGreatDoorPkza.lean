import Derived.Test.YtpedmebigcchnaaGreatDoorPky
import Derived.Test.YtpedmebigcchnaaGreatDoorPkz
import Derived.Test.YtpedmebigcchnaaGreatDoorPkt
namespace Go.Proofs.YtpedmebigcchnaaGreatDoor
open Go.RowKit
set_option linter.unusedVariables false
theorem suf32 (t : List UInt8) : Lib.hasSuffix t [32] = decide (t.getLast? = some 32) := by
  unfold Lib.hasSuffix
  by_cases h : t.getLast? = some 32
  · rw [decide_eq_true h]
    obtain ⟨a, rfl⟩ := List.getLast?_eq_some_iff.1 h
    exact List.isSuffixOf_iff_suffix.2 ⟨a, rfl⟩
  · rw [decide_eq_false h]
    cases e : List.isSuffixOf [32] t with
    | false => rfl
    | true =>
      obtain ⟨a, ha⟩ := List.isSuffixOf_iff_suffix.1 e
      exact absurd (by rw [← ha]; simp) h
theorem trim32 {t : List UInt8} (h : t.getLast? = some 32) : Lib.trimSuffix t [32] = t.dropLast := by
  unfold Lib.trimSuffix
  rw [suf32, decide_eq_true h, if_pos rfl, List.dropLast_eq_take]
  rfl
theorem trim32_len (t : List UInt8) : (Lib.trimSuffix t [32]).length ≤ t.length := by
  unfold Lib.trimSuffix
  split
  · simp
  · exact Nat.le_refl _
/-- What a verb that stands alone tells. -/
def onAlone (k : Int) (f : Bool) (t : List UInt8) : Option MF := if f = false ∧ hbL t = false then some ⟨k, false, [], 0, 0, 0, []⟩ else none
theorem aloneI_any (gr gc gb : Nat) (k : Int) (ud : Bool) (t : List UInt8) (s : ByteArray) (f : Bool) (w : World) (hst : s.data.toList = bhL t) (hr : RdB w gr s f) (hc : CmI w gc 0 ⟨#[]⟩ ud (.slice none 0 0) 0 0 0 (.slice none 0 0)) (hb : Blk w gb #[.int .i64 k] 3) (hne : gr ≠ gc) :
    Calls Tryz.prog 64 #[.pointer (some ⟨gr, 0, none⟩), .pointer (some ⟨gc, 0, none⟩), .pointer (some ⟨gb, 0, none⟩)] w fun e w' => (∃ v, e = .returned v) ∧ VD gr gc ud (onAlone k f t) w w' := by
  have c0 : w.cell? ⟨gc, 0, none⟩ = some (.int .i64 0) := hc.cell 0
  have f0 := hc.fz 0
  have b0 : w.cell? ⟨gb, 0, none⟩ = some (.int .i64 k) := hb.cell 0
  have hR : (f = false → s.data.toList = [] → onAlone k f t = some ⟨k, false, [], 0, 0, 0, []⟩) ∧ (f = true ∨ s.data.toList ≠ [] → onAlone k f t = none) := by
    unfold onAlone
    rw [hst]
    refine ⟨fun h1 h2 => ?_, fun h => ?_⟩
    · rw [if_pos ⟨h1, by unfold hbL; rw [h2]; rfl⟩]
    · rw [if_neg]
      rintro ⟨h1, h2⟩
      rcases h with h | h
      · rw [h1] at h; cases h
      · exact h (bh_no h2).1
  have HP := hide (show VD gr gc ud (onAlone k f t) w (w.setCell ⟨gc, 0, none⟩ (.int .i64 k)) from ⟨s, f, ⟨k, false, [], 0, 0, 0, []⟩, none, 0, 0, none, 0, 0, hr.other (j := 0) (g' := gc) hne (.int .i64 k), CmI.kind hc k, (Two.refl gr gc w).set2 (j := 0) (.int .i64 k), OwnP.nil _ _, OwnB.nil _ _, .inl rfl, rfl, hR.1, hR.2⟩)
  clear hr hc hb hR
  go_enter Tryz.func64, Tryz.ntmps64
  go_wp2
  go_end0
  exact ⟨⟨_, rfl⟩, HP.out⟩
theorem app_fin {F en : Bool} {t : List UInt8} {b : List Nat} {rf : Option Nat} (ht : t ≠ []) (he : en = decide (t.getLast? = some 32)) (hrf : rfOf (Lib.trimSuffix t [32]) = rf) :
    (((F || !en) || !rf.isSome) = false → (if F = true then none else onApp b t) = some ⟨12, false, [], 0, 0, rf.getD 0, b⟩) ∧ (((F || !en) || !rf.isSome) = true → (if F = true then none else onApp b t) = none) := by
  cases F with
  | true => exact ⟨fun h => by simp at h, fun _ => if_pos rfl⟩
  | false =>
    rw [if_neg (by simp)]
    by_cases hl : t.getLast? = some 32
    · rw [decide_eq_true hl] at he
      subst he
      rw [trim32 hl] at hrf
      cases rf with
      | none => exact ⟨fun h => by simp at h, fun _ => app_no b ht (.inr hrf)⟩
      | some fl => exact ⟨fun _ => app_yes b ht hl hrf, fun h => by simp at h⟩
    · rw [decide_eq_false hl] at he
      subst he
      exact ⟨fun h => by simp at h, fun _ => app_no b ht (.inl hl)⟩
set_option maxRecDepth 20000 in
set_option maxHeartbeats 1000000 in
theorem append_any (gr gc gb : Nat) (ab : Option Addr) (cb : Nat) (b : List Nat) (ud : Bool) (t : List UInt8) (s : ByteArray) (f : Bool) (w : World) (hst : s.data.toList = bhL t) (hs : t.length ≤ 1048576) (hlb : b.length ≤ 1048576) (hr : RdB w gr s f) (hc : CmI w gc 0 ⟨#[]⟩ ud (.slice none 0 0) 0 0 0 (.slice none 0 0)) (hb : Blk w gb #[.slice ab b.length cb] 22) (hne : gr ≠ gc) (hbr : gb ≠ gr ∧ gb ≠ gc) (hRB : ∀ X, Two gr gc w X → RowAt X ab b) (hM : ∀ X, Two gr gc w X → MaxL X) :
    Calls Tryz.prog 59 #[.pointer (some ⟨gr, 0, none⟩), .pointer (some ⟨gc, 0, none⟩), .pointer (some ⟨gb, 0, none⟩)] w fun e w' => (∃ v, e = .returned v) ∧ VD gr gc ud (if (f || !hbL t) = true then none else onApp b (nbL t)) w w' := by
  obtain ⟨q1, q2⟩ := bl_bh hst
  have hnl := nb_len t
  have hs1 : (blB s).size ≤ 1048576 := size_le q2 (by omega)
  have Q1 := hide q1
  have Q2 := hide q2
  generalize hR : (if (f || !hbL t) = true then none else onApp b (nbL t)) = R
  have HRR := hide hR
  have hgl := hr.lt
  have hcl := hc.lt
  have c0 : w.cell? ⟨gc, 0, none⟩ = some (.int .i64 0) := hc.cell 0
  have f0 := hc.fz 0
  have H1 := hide (hr.other (j := 0) (g' := gc) hne (.int .i64 12))
  have C1 := hide (CmI.kind hc 12)
  have B1 := hide (hb.other (j := 0) (g' := gc) hbr.2 (.int .i64 12))
  have T1 := hide ((Two.refl gr gc w).set2 (j := 0) (.int .i64 12))
  have HM := hide hM
  have HRB := hide hRB
  clear hr hc hb hM hRB hR q1 q2 hnl
  go_enter Tryz.func59, Tryz.ntmps59
  go_upto_region 1 with fail
  generalize w.setCell ⟨gc, 0, none⟩ (.int .i64 12) = w1 at H1 C1 B1 T1 ⊢
  clear c0 f0
  have b0 : w1.cell? ⟨gb, 0, none⟩ = some (.slice ab b.length cb) := B1.out.cell 0
  have CL := hide (clone_own ab cb b w1 hlb (HRB.out w1 T1.out))
  go_wp2_with fail
  refine CL.out.mono ?_
  rintro e w2 ⟨vb, rfl, ho2, hb2⟩
  obtain ⟨ba, bc, rfl⟩ := OwnB.slice ho2
  generalize b.length = bn at ho2 b0 ⊢
  have hc2 := C1.out.below hb2 C1.out.lt
  have c8 : w2.cell? ⟨gc, 8, none⟩ = some (.slice none 0 0) := hc2.cell 8
  have f8 := hc2.fz 8
  have hlo : gr < w1.heap.size ∧ gc < w1.heap.size := ⟨H1.out.lt, C1.out.lt⟩
  have H3 := hide ((H1.out.below hb2 H1.out.lt).other (j := 8) (g' := gc) hne (.slice ba bn bc))
  have C3 := hide (CmI.bd hc2 (.slice ba bn bc))
  have T3 := hide ((T1.out.trans (Two.of_below hb2)).set2 (j := 8) (.slice ba bn bc))
  have O3 := hide (ownB_low9 ho2 (p := ⟨gc, 8, none⟩) hlo.2 (.slice ba bn bc))
  have HLW := hide (show w.heap.size ≤ w1.heap.size from T1.out.size)
  clear ho2 hb2 hc2 CL H1 C1 B1 T1 b0
  go_upto_region 2 with fail
  generalize w2.setCell ⟨gc, 8, none⟩ (.slice ba bn bc) = w3 at H3 C3 T3 O3 ⊢
  clear c8 f8
  have BL := hide (blank_any gr gr s f w3 H3.out)
  rw [Q1.out] at BL
  go_wp2_with fail
  refine BL.out.mono ?_
  rintro e w4 ⟨⟨v4, rfl⟩, h4, t4⟩
  have r0 : w4.cell? ⟨gr, 0, none⟩ = some (.string (blB s)) := h4.cell 0
  have H4 := hide h4
  have C4 := hide (C3.out.two t4 hne)
  have T4 := hide (T3.out.trans (t4.one (gc := gc)))
  have O4 := hide (O3.out.two t4 hlo.1 hlo.1)
  clear h4 t4 BL H3 C3 T3 O3
  by_cases hz : (blB s).data.toList = []
  · have hz2 : (blB s).toList.isEmpty = true := by rw [ByteArray.toList_eq, hz]; rfl
    have hF : ((f || !hbL t) = false → R = some ⟨12, false, [], 0, 0, 0, b⟩) ∧ ((f || !hbL t) = true → R = none) := by
      rw [← HRR.out]
      refine ⟨fun h => ?_, fun h => if_pos h⟩
      rw [if_neg (by rw [h]; simp)]
      exact app_nil b (Q2.out.symm.trans hz)
    have HFIN := hide (show VD gr gc ud R w w4 from ⟨blB s, _, ⟨12, false, [], 0, 0, 0, b⟩, none, 0, 0, ba, bn, bc, H4.out, C4.out, T4.out, OwnP.nil _ _, O4.out.mono HLW.out, .inl rfl, rfl, fun h _ => hF.1 h, fun h => hF.2 (h.resolve_right (fun h => h hz))⟩)
    clear hF hz H4 C4 T4 O4
    go_wp2
    go_end0
    exact ⟨⟨_, rfl⟩, HFIN.out⟩
  · have hz2 : (blB s).toList.isEmpty = false := by rw [ByteArray.toList_eq]; simpa using hz
    have HNE := hide (show nbL t ≠ [] from fun h => hz (Q2.out.trans h))
    have CS := hide (fun W => Tryz.strings_CutSuffix (blB s) ⟨#[32]⟩ W (by omega))
    rw [show (⟨#[32]⟩ : ByteArray).data.toList = [32] from rfl, Q2.out] at CS
    clear hz
    go_wp2_with fail
    refine (all_any gr gr (blB s) _ w4 H4.out).mono ?_
    rintro e w5 ⟨rfl, h5, t5⟩
    have H5 := hide h5
    have C5 := hide (C4.out.two t5 hne)
    have T5 := hide (T4.out.trans (t5.one (gc := gc)))
    have O5 := hide (O4.out.two t5 hlo.1 hlo.1)
    have hxl := trim32_len (nbL t)
    have hnl := nb_len t
    have HX := hide (show (⟨(Lib.trimSuffix (nbL t) [32]).toArray⟩ : ByteArray).data.toList = Lib.trimSuffix (nbL t) [32] from by simp)
    have hxs : (⟨(Lib.trimSuffix (nbL t) [32]).toArray⟩ : ByteArray).size ≤ 1048576 := size_le HX.out (by omega)
    generalize hx : (⟨(Lib.trimSuffix (nbL t) [32]).toArray⟩ : ByteArray) = xs at CS HX hxs
    generalize hen : Lib.hasSuffix (nbL t) [32] = en at CS
    have HEN := hide (hen.symm.trans (suf32 (nbL t)))
    clear h5 t5 H4 C4 T4 O4 r0 hx hen hxl hnl
    go_wp2_with fail
    refine (CS.out w5).mono ?_
    rintro e w5' ⟨rfl, rfl⟩
    go_wp2_with fail
    refine (need_any gr gr ⟨#[]⟩ _ en w5' H5.out).mono ?_
    rintro e w6 ⟨⟨v6, rfl⟩, h6, t6⟩
    have C6 := hide (C5.out.two t6 hne)
    have T6 := hide (T5.out.trans (t6.one (gc := gc)))
    have O6 := hide (O5.out.two t6 hlo.1 hlo.1)
    have FL := hide (flags_any gr gr ⟨#[]⟩ xs _ w6 hxs h6 (HM.out w6 T6.out))
    rw [HX.out] at FL
    generalize hrf : rfOf (Lib.trimSuffix (nbL t) [32]) = rf at FL
    have HF := hide (app_fin (F := f || !hbL t) (b := b) HNE.out HEN.out hrf)
    rw [HRR.out] at HF
    clear h6 t6 hrf H5 C5 T5 O5 CS
    go_wp2_with fail
    refine FL.out.mono ?_
    rintro e w7 ⟨rfl, h7, t7⟩
    have hc7 := C6.out.two t7 hne
    have c7 : w7.cell? ⟨gc, 7, none⟩ = some (.int .u32 0) := hc7.cell 7
    have f7 := hc7.fz 7
    have HFIN := hide (show VD gr gc ud R w (w7.setCell ⟨gc, 7, none⟩ (.int .u32 ((rf.getD 0 : Nat) : Int))) from ⟨⟨#[]⟩, _, ⟨12, false, [], 0, 0, rf.getD 0, b⟩, none, 0, 0, ba, bn, bc, h7.other (j := 7) (g' := gc) hne _, CmI.fl hc7 _, (T6.out.trans (t7.one (gc := gc))).set2 (j := 7) _, OwnP.nil _ _, (ownB_low9 (O6.out.two t7 hlo.1 hlo.1) (p := ⟨gc, 7, none⟩) hlo.2 _).mono HLW.out, .inl rfl, rfl, fun h _ => HF.out.1 h, fun h => HF.out.2 (h.resolve_right (fun h => h rfl))⟩)
    clear h7 t7 hc7 FL C6 T6 O6 HF
    go_wp2
    go_end0
    exact ⟨⟨_, rfl⟩, HFIN.out⟩
end Go.Proofs.YtpedmebigcchnaaGreatDoor
namespace Go.Proofs.YtpedmebigcchnaaGreatDoor
open Go.RowKit
set_option linter.unusedVariables false
theorem wpList_update_f {P : Program} (w : World) {ops : Array Oper} {rest : List Oper} {o : Oper} {a : Act} {Q : Exit → Act → World → Prop} (hg : o.guard = none) (m x y : Operand) (t et : TypeId) (hop : o.op = Op.mapUpdate t m x y)
    (ht : P.underlying t = some (.map 9 et)) (hk : P.underlying 9 = some .string) (b : Nat) (es : List (ByteArray × Value)) (k : ByteArray) (v : Value) (hm : a.eval m = .map (some b)) (hx : a.eval x = .string k) (hy : a.eval y = v)
    (hF : MapF w b es) (hno : lookF es k = none) (h : ∀ w', MapF w' b (es ++ [(k, v)]) → (∀ g, g ≠ b → w'.heap[g]? = w.heap[g]?) → w'.heap.size = w.heap.size → w'.os = w.os ∧ w'.tape = w.tape ∧ w'.output = w.output → wpList P ops Q rest (a.put o.dst (.tuple #[])) w') : wpList P ops Q (o :: rest) a w := by
  refine wpList_plain hg fun K' hK' => ?_
  obtain ⟨ents, clock, hb, hes⟩ := hF
  obtain ⟨r, hf, hr⟩ := findNow_f k ents.toList es 0 hes
  rw [hno] at hr
  have hr' : r = none := by cases r with | none => rfl | some q => simp at hr
  subst hr'
  have hc : (Instr.checkKey false 10000 9 (.string k)).run P w = .ok () w := MapKept.run_checkKey (k := .string k) hk (by simp [MapKept.IsKey]) false 9999
  have hrun : (Instr.mapUpdate t (.map (some b)) (.string k) v).run P w = .ok () { w with heap := w.heap.setIfInBounds b (.map (ents.push { key := .string k, val := v, born := clock }) (clock + 1)) } := by
    simp [Instr.mapUpdate, run_underlying ht, MapKept.run_getObj_map hb, hc, MapKept.run_findKey hk hf, MapKept.run_setObj_map _ hb, Result.andThen]
  have hw := h { w with heap := w.heap.setIfInBounds b (.map (ents.push { key := .string k, val := v, born := clock }) (clock + 1)) } ⟨ents.push { key := .string k, val := v, born := clock }, clock + 1, by simp [lt_of_block hb], by rw [Array.toList_push, List.map_append, List.map_append, hes]; rfl⟩ (fun g hg => by simp [Ne.symm hg]) (by simp) ⟨rfl, rfl, rfl⟩
  unfold Oper.wp
  simp [execOp, hop, hm, hx, hy, hrun, Result.andThen]
  exact hK' _ _ hw
def vOver (g h : Nat) : Value := .func (.func 65) #[] #[.pointer (some ⟨g, 0, none⟩), .pointer (some ⟨h, 0, none⟩)]
def vAl (g : Nat) : Value := .func (.func 64) #[] #[.pointer (some ⟨g, 0, none⟩)]
def vApp (g : Nat) : Value := .func (.func 59) #[] #[.pointer (some ⟨g, 0, none⟩)]
theorem aloneV_any (k : Int) (w : World) :
    Calls Tryz.prog 52 #[.int .i64 k] w fun e w' => e = .returned (vAl w.heap.size) ∧ w' = w.alloc (.cells #[.int .i64 k] 3) := by
  have hmf : ∀ (fn : Fn) (first cap : Array Value) (w : World), (Instr.makeFunc fn first cap).run Tryz.prog w = .ok (.func fn first cap) w := fun _ _ _ _ => rfl
  go_enter Tryz.func52, Tryz.ntmps52
  go_wp2
  go_ret
  exact ⟨rfl, rfl⟩
theorem overSet_any (k : Int) (fn : FuncId) (w : World) :
    Calls Tryz.prog 53 #[.int .i64 k, .func (.func fn) #[] #[]] w fun e w' => e = .returned (vOver w.heap.size (w.heap.size + 1)) ∧ w' = (w.alloc (.cells #[.int .i64 k] 3)).alloc (.cells #[.func (.func fn) #[] #[]] 73) := by
  have hmf : ∀ (fn : Fn) (first cap : Array Value) (w : World), (Instr.makeFunc fn first cap).run Tryz.prog w = .ok (.func fn first cap) w := fun _ _ _ _ => rfl
  go_enter Tryz.func53, Tryz.ntmps53
  go_wp2
  go_ret
  exact ⟨rfl, rfl⟩
theorem appending_any (a : Option Addr) (n c : Nat) (w : World) :
    Calls Tryz.prog 51 #[.slice a n c] w fun e w' => e = .returned (vApp w.heap.size) ∧ w' = w.alloc (.cells #[.slice a n c] 22) := by
  have hmf : ∀ (fn : Fn) (first cap : Array Value) (w : World), (Instr.makeFunc fn first cap).run Tryz.prog w = .ok (.func fn first cap) w := fun _ _ _ _ => rfl
  go_enter Tryz.func51, Tryz.ntmps51
  go_wp2
  go_ret
  exact ⟨rfl, rfl⟩
set_option maxRecDepth 20000 in
/-- The map of APPEND alone. -/
theorem literalVerbs_any (a : Option Addr) (n c : Nat) (w : World) :
    Calls Tryz.prog 42 #[.slice a n c] w fun e w' => e = .returned (.map (some w.heap.size)) ∧ MapF w' w.heap.size [(⟨#[65, 80, 80, 69, 78, 68]⟩, vApp (w.heap.size + 1))] ∧ Blk w' (w.heap.size + 1) #[.slice a n c] 22 ∧ Below w.heap.size w w' := by
  have hmm := @run_makeMap Tryz.prog
  have M0 := hide (mapF_new w)
  have B0 := hide ((Below.refl w.heap.size w).alloc (Nat.le_refl _) (.map #[] 0))
  have Z0 := hide (show (w.alloc (.map #[] 0)).heap.size = w.heap.size + 1 from by simp)
  go_enter Tryz.func42, Tryz.ntmps42
  go_wp2_with fail
  generalize w.alloc (.map #[] 0) = W0 at M0 B0 Z0 ⊢
  refine (appending_any a n c W0).mono ?_
  rintro e X0 ⟨rfl, hX0⟩
  have hal := (Below.refl W0.heap.size W0).alloc (Nat.le_refl _) (.cells #[.slice a n c] 22)
  rw [← hX0] at hal
  have M1 := hide (M0.out.below hal M0.out.lt)
  have B1 := hide (B0.out.trans (hal.mono B0.out.size))
  have K1 := hide (show Blk X0 (w.heap.size + 1) #[.slice a n c] 22 by rw [hX0, ← Z0.out]; exact blk_new W0 _ _)
  have hz : W0.heap.size = w.heap.size + 1 := Z0.out
  clear hX0 hal
  rw [hz]
  clear hz
  go_wp2_with (refine wpList_insert_f _ rfl _ _ _ 74 73 rfl Tryz.underlying74 Tryz.underlying9 w.heap.size _ ⟨#[65, 80, 80, 69, 78, 68]⟩ (vApp (w.heap.size + 1)) rfl rfl rfl M1.out (lookF_none (by kernel_rfl)) ?_; intro W1 a1 a2 a3 a4; have M2 := hide a1; have B2 := hide (ins_below B1.out (Nat.le_refl _) a2 a3 a4); have K2 := hide (show Blk W1 (w.heap.size + 1) #[.slice a n c] 22 from (a2 _ (by omega)).trans K1.out); clear a1 a2 a3 a4)
  go_ret
  exact ⟨rfl, M2.out, K2.out, B2.out⟩
end Go.Proofs.YtpedmebigcchnaaGreatDoor
namespace Go.Proofs.YtpedmebigcchnaaGreatDoor
open Go.RowKit
set_option linter.unusedVariables false
/-- What the verbs over a set hold. -/
structure SV (W : World) (b : Nat) : Prop where
  k1 : Blk W (b + 1) #[.int .i64 9] 3
  v1 : Blk W (b + 2) #[.func (.func 54) #[] #[]] 73
  k2 : Blk W (b + 3) #[.int .i64 10] 3
  v2 : Blk W (b + 4) #[.func (.func 55) #[] #[]] 73
def setE (b : Nat) : List (ByteArray × Value) := [(⟨#[70, 69, 84, 67, 72]⟩, vOver (b + 1) (b + 2)), (⟨#[83, 84, 79, 82, 69]⟩, vOver (b + 3) (b + 4))]
theorem SV.below {W W' : World} {B b : Nat} (h : SV W b) (hb : Below B W W') (hB : b + 4 < B) : SV W' b := ⟨h.k1.below hb (by omega), h.v1.below hb (by omega), h.k2.below hb (by omega), h.v2.below hb (by omega)⟩
theorem SV.two {W W' : World} {b1 b2 b : Nat} (h : SV W b) (t : Two b1 b2 W W') (h1 : b1 < b + 1) (h2 : b2 < b + 1) : SV W' b := ⟨h.k1.two t (by omega) (by omega), h.v1.two t (by omega) (by omega), h.k2.two t (by omega) (by omega), h.v2.two t (by omega) (by omega)⟩
set_option maxRecDepth 20000 in
set_option maxHeartbeats 1000000 in
theorem setVerbs_any (w : World) :
    Calls Tryz.prog 45 #[] w fun e w' => e = .returned (.map (some w.heap.size)) ∧ MapF w' w.heap.size (setE w.heap.size) ∧ SV w' w.heap.size ∧ Below w.heap.size w w' ∧ w'.heap.size = w.heap.size + 5 := by
  have hmm := @run_makeMap Tryz.prog
  have M0 := hide (mapF_new w)
  have B0 := hide ((Below.refl w.heap.size w).alloc (Nat.le_refl _) (.map #[] 0))
  have Z0 := hide (show (w.alloc (.map #[] 0)).heap.size = w.heap.size + 1 from by simp)
  go_enter Tryz.func45, Tryz.ntmps45
  go_wp2_with fail
  generalize w.alloc (.map #[] 0) = W0 at M0 B0 Z0 ⊢
  refine (overSet_any 9 54 W0).mono ?_
  rintro e X0 ⟨rfl, hX0⟩
  obtain ⟨b1, b2, b3, b4⟩ := box2 W0 #[.int .i64 9] #[.func (.func 54) #[] #[]] 3 73
  rw [← hX0, Z0.out] at b1 b2 b3 b4
  have M1 := hide (M0.out.below b3 (by omega))
  have B1 := hide (B0.out.trans (b3.mono (by omega)))
  have K1 := hide (And.intro b1 b2)
  have Z1 := hide b4
  have hz : W0.heap.size = w.heap.size + 1 := Z0.out
  clear hX0 b1 b2 b3 b4
  rw [hz]
  clear hz
  go_wp2_with (first | (refine wpList_insert_f _ rfl _ _ _ 74 73 rfl Tryz.underlying74 Tryz.underlying9 w.heap.size _ ⟨#[70, 69, 84, 67, 72]⟩ (vOver (w.heap.size + 1) (w.heap.size + 1 + 1)) rfl rfl rfl M1.out (lookF_none (by kernel_rfl)) ?_; intro W1 a1 a2 a3 a4; have M2 := hide a1; have B2 := hide (ins_below B1.out (Nat.le_refl _) a2 a3 a4); have K2 := hide (And.intro (show Blk W1 (w.heap.size + 1) #[.int .i64 9] 3 from (a2 _ (by omega)).trans K1.out.1) (show Blk W1 (w.heap.size + 1 + 1) #[.func (.func 54) #[] #[]] 73 from (a2 _ (by omega)).trans K1.out.2)); have Z2 := hide (show W1.heap.size = w.heap.size + 3 from by have h := Z1.out; omega); clear a1 a2 a3 a4) | fail)
  refine (overSet_any 10 55 W1).mono ?_
  rintro e X1 ⟨rfl, hX1⟩
  obtain ⟨b1, b2, b3, b4⟩ := box2 W1 #[.int .i64 10] #[.func (.func 55) #[] #[]] 3 73
  rw [← hX1, Z2.out] at b1 b2 b3 b4
  have M3 := hide (M2.out.below b3 (by omega))
  have B3 := hide (B2.out.trans (b3.mono (by omega)))
  have K3 := hide (show SV X1 w.heap.size from ⟨K2.out.1.below b3 (by omega), K2.out.2.below b3 (by omega), b1, b2⟩)
  have Z3 := hide b4
  have hz : W1.heap.size = w.heap.size + 3 := Z2.out
  clear hX1 b1 b2 b3 b4
  rw [hz]
  clear hz
  go_wp2_with (first | (refine wpList_insert_f _ rfl _ _ _ 74 73 rfl Tryz.underlying74 Tryz.underlying9 w.heap.size _ ⟨#[83, 84, 79, 82, 69]⟩ (vOver (w.heap.size + 3) (w.heap.size + 3 + 1)) rfl rfl rfl M3.out (lookF_none (by kernel_rfl)) ?_; intro W2 a1 a2 a3 a4; have M4 := hide a1; have B4 := hide (ins_below B3.out (Nat.le_refl _) a2 a3 a4); have K4 := hide (show SV W2 w.heap.size from ⟨(a2 _ (by omega)).trans K3.out.k1, (a2 _ (by omega)).trans K3.out.v1, (a2 _ (by omega)).trans K3.out.k2, (a2 _ (by omega)).trans K3.out.v2⟩); have Z4 := hide (show W2.heap.size = w.heap.size + 5 from by have h := Z3.out; omega); clear a1 a2 a3 a4) | fail)
  go_ret
  exact ⟨rfl, M4.out, K4.out, B4.out, Z4.out⟩
theorem follow_over (gr gc g1 g2 : Nat) (w : World) (Q : World → Prop) (h : Calls Tryz.prog 65 #[.pointer (some ⟨gr, 0, none⟩), .pointer (some ⟨gc, 0, none⟩), .pointer (some ⟨g1, 0, none⟩), .pointer (some ⟨g2, 0, none⟩)] w fun e w' => (∃ v, e = .returned v) ∧ Q w') :
    Calls Tryz.prog 41 #[.pointer (some ⟨gr, 0, none⟩), .func (.func 65) #[] #[.pointer (some ⟨g1, 0, none⟩), .pointer (some ⟨g2, 0, none⟩)], .pointer (some ⟨gc, 0, none⟩)] w fun e w' => (∃ v, e = .returned v) ∧ Q w' := by
  have hq1 : ∀ (f : FuncId) (c : Array Value) (w : World), (binOp .eql 73 (.func (.func f) #[] c) .nilFunc).run Tryz.prog w = .ok (.bool false) w := fun f c w => by kernel_rfl
  have HH := hide h
  clear h
  go_enter Tryz.func41, Tryz.ntmps41
  go_wp2_with fail
  refine HH.out.mono ?_
  rintro e w2 ⟨⟨v2, rfl⟩, hQ⟩
  have HQ := hide hQ
  clear hQ
  go_wp2
  go_end0
  exact ⟨⟨_, rfl⟩, HQ.out⟩
theorem follow_alone (gr gc g1 : Nat) (w : World) (Q : World → Prop) (h : Calls Tryz.prog 64 #[.pointer (some ⟨gr, 0, none⟩), .pointer (some ⟨gc, 0, none⟩), .pointer (some ⟨g1, 0, none⟩)] w fun e w' => (∃ v, e = .returned v) ∧ Q w') :
    Calls Tryz.prog 41 #[.pointer (some ⟨gr, 0, none⟩), .func (.func 64) #[] #[.pointer (some ⟨g1, 0, none⟩)], .pointer (some ⟨gc, 0, none⟩)] w fun e w' => (∃ v, e = .returned v) ∧ Q w' := by
  have hq1 : ∀ (f : FuncId) (c : Array Value) (w : World), (binOp .eql 73 (.func (.func f) #[] c) .nilFunc).run Tryz.prog w = .ok (.bool false) w := fun f c w => by kernel_rfl
  have HH := hide h
  clear h
  go_enter Tryz.func41, Tryz.ntmps41
  go_wp2_with fail
  refine HH.out.mono ?_
  rintro e w2 ⟨⟨v2, rfl⟩, hQ⟩
  have HQ := hide hQ
  clear hQ
  go_wp2
  go_end0
  exact ⟨⟨_, rfl⟩, HQ.out⟩
theorem follow_app (gr gc g1 : Nat) (w : World) (Q : World → Prop) (h : Calls Tryz.prog 59 #[.pointer (some ⟨gr, 0, none⟩), .pointer (some ⟨gc, 0, none⟩), .pointer (some ⟨g1, 0, none⟩)] w fun e w' => (∃ v, e = .returned v) ∧ Q w') :
    Calls Tryz.prog 41 #[.pointer (some ⟨gr, 0, none⟩), .func (.func 59) #[] #[.pointer (some ⟨g1, 0, none⟩)], .pointer (some ⟨gc, 0, none⟩)] w fun e w' => (∃ v, e = .returned v) ∧ Q w' := by
  have hq1 : ∀ (f : FuncId) (c : Array Value) (w : World), (binOp .eql 73 (.func (.func f) #[] c) .nilFunc).run Tryz.prog w = .ok (.bool false) w := fun f c w => by kernel_rfl
  have HH := hide h
  clear h
  go_enter Tryz.func41, Tryz.ntmps41
  go_wp2_with fail
  refine HH.out.mono ?_
  rintro e w2 ⟨⟨v2, rfl⟩, hQ⟩
  have HQ := hide hQ
  clear hQ
  go_wp2
  go_end0
  exact ⟨⟨_, rfl⟩, HQ.out⟩
theorem follow_nil (gr gc : Nat) (s : ByteArray) (f : Bool) (w : World) (hr : RdB w gr s f) :
    Calls Tryz.prog 41 #[.pointer (some ⟨gr, 0, none⟩), .nilFunc, .pointer (some ⟨gc, 0, none⟩)] w fun e w' => (∃ v, e = .returned v) ∧ RdB w' gr s true ∧ Two gr gr w w' := by
  have hq0 : ∀ w : World, (binOp .eql 73 .nilFunc .nilFunc).run Tryz.prog w = .ok (.bool true) w := fun w => by kernel_rfl
  have HR := hide hr
  clear hr
  go_enter Tryz.func41, Tryz.ntmps41
  go_wp2_with fail
  refine (need_any gr gr s f false w HR.out).mono ?_
  rintro e w2 ⟨⟨v2, rfl⟩, h2, t2⟩
  have H2 := hide (And.intro (show RdB w2 gr s true by have h := h2; simpa using h) t2)
  clear h2 t2
  go_wp2
  exact bodyPost_ret (results_none rfl _ _ _) rfl ⟨⟨_, rfl⟩, H2.out.1, H2.out.2⟩
end Go.Proofs.YtpedmebigcchnaaGreatDoor
