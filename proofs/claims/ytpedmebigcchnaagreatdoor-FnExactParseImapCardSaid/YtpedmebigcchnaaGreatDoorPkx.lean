import Derived.Test.YtpedmebigcchnaaGreatDoorPkq
import Derived.Test.YtpedmebigcchnaaGreatDoorPkm
import Derived.Test.YtpedmebigcchnaaGreatDoorPkw
import Derived.Test.YtpedmebigcchnaaGreatDoorPkr
import Derived.Test.YtpedmebigcchnaaGreatDoorPkt
import Derived.Test.YtpedmebigcchnaaGreatDoorPko
namespace Go.Proofs.YtpedmebigcchnaaGreatDoor
open Go.RowKit
set_option linter.unusedVariables false
theorem OwnP.two {b1 b2 lo : Nat} {w w' : World} {v : Value} {l : List (Int × Int)} (h : OwnP w lo v l) (ho : Two b1 b2 w w') (h1 : b1 < lo) (h2 : b2 < lo) : OwnP w' lo v l := by
  refine ⟨h.1, ?_⟩
  rcases h.2 with hn | ⟨b, cap, cur, hv, hb0, hb, rest⟩
  · exact .inl hn
  · exact .inr ⟨b, cap, cur, hv, hb0, by rw [ho.block b (lt_of_block hb) (by omega) (by omega)]; exact hb, rest⟩
theorem OwnB.two {b1 b2 lo : Nat} {w w' : World} {v : Value} {l : List Nat} (h : OwnB w lo v l) (ho : Two b1 b2 w w') (h1 : b1 < lo) (h2 : b2 < lo) : OwnB w' lo v l := by
  refine ⟨h.1, ?_⟩
  rcases h.2 with hn | ⟨b, cap, cur, hv, hb0, hb, rest⟩
  · exact .inl hn
  · exact .inr ⟨b, cap, cur, hv, hb0, by rw [ho.block b (lt_of_block hb) (by omega) (by omega)]; exact hb, rest⟩
theorem all_any (g gc : Nat) (s : ByteArray) (f : Bool) (w : World) (hr : RdB w g s f) :
    Calls Tryz.prog 62 #[.pointer (some ⟨g, 0, none⟩)] w fun e w' => e = .returned (.string s) ∧ RdB w' g ⟨#[]⟩ f ∧ Two g gc w w' := by
  have c0 : w.cell? ⟨g, 0, none⟩ = some (.string s) := hr.cell 0
  have f0 := hr.fz 0
  have HR := hide (hr.set 0 (.string ⟨#[]⟩))
  have HT := hide ((Two.refl g gc w).set1 (j := 0) (.string ⟨#[]⟩))
  clear hr
  go_enter Tryz.func62, Tryz.ntmps62
  go_wp2
  go_ret
  exact ⟨rfl, HR.out, HT.out⟩
set_option maxRecDepth 20000 in
theorem flags_any (g gc : Nat) (s t : ByteArray) (f : Bool) (w : World) (ht : t.size ≤ 1048576) (hr : RdB w g s f) (hm : MaxL w) :
    Calls Tryz.prog 63 #[.pointer (some ⟨g, 0, none⟩), .string t] w fun e w' => e = .returned (.int .u32 (((rfOf t.data.toList).getD 0 : Nat) : Int)) ∧ RdB w' g s (f || !(rfOf t.data.toList).isSome) ∧ Two g gc w w' := by
  have RF := hide (implRf_any t w ht hm)
  generalize rfOf t.data.toList = rf at RF ⊢
  have HR := hide hr
  clear hr hm
  go_enter Tryz.func63, Tryz.ntmps63
  go_wp2_with fail
  refine RF.out.mono ?_
  rintro e w1 ⟨rfl, hb1⟩
  have hal := (Below.refl w1.heap.size w1).alloc (Nat.le_refl _) (.cells #[.bool rf.isSome, .int .u32 ((rf.getD 0 : Nat) : Int)] 45)
  have hb2 := hb1.trans (hal.mono hb1.size)
  have hB := blk_new w1 #[.bool rf.isSome, .int .u32 ((rf.getD 0 : Nat) : Int)] 45
  have HR2 := hide (HR.out.below hb2 HR.out.lt)
  have HT2 := hide (Two.of_below (b1 := g) (b2 := gc) hb2)
  have hne : ¬ w1.heap.size = g := by have h1 := HR.out.lt; have h2 := hb1.size; omega
  have HNE := hide hne
  clear hal hb2 hb1 RF HR hne
  go_upto_region 2 with fail
  generalize w1.alloc (.cells #[.bool rf.isSome, .int .u32 ((rf.getD 0 : Nat) : Int)] 45) = W2 at hB HR2 HT2 ⊢
  have b0 : W2.cell? ⟨w1.heap.size, 0, none⟩ = some (.bool rf.isSome) := hB.cell 0
  have ND := hide (need_any g g s f rf.isSome W2 HR2.out)
  have HB := hide hB
  clear hB
  go_wp2_with fail
  refine ND.out.mono ?_
  rintro e w3 ⟨⟨v3, rfl⟩, h3, t3⟩
  have b1 : w3.cell? ⟨w1.heap.size, 1, none⟩ = some (.int .u32 ((rf.getD 0 : Nat) : Int)) := (HB.out.two t3 HNE.out HNE.out).cell 1
  have H3 := hide h3
  have T3 := hide (HT2.out.trans ⟨t3.os, t3.tape, t3.output, t3.size, fun k hk h1 _ => t3.block k hk h1 h1⟩)
  clear h3 t3 b0 ND HR2 HT2
  go_wp2
  go_ret
  exact ⟨rfl, H3.out, T3.out⟩
set_option maxRecDepth 20000 in
theorem set_any (g gc : Nat) (s : ByteArray) (f : Bool) (w : World) (hs : s.size ≤ 1048576) (hgc : gc < w.heap.size) (hr : RdB w g s f) (hE : ∀ X, Two g gc w X → Env X) :
    Calls Tryz.prog 66 #[.pointer (some ⟨g, 0, none⟩)] w fun e w' => ∃ a n c, e = .returned (.slice a n c) ∧ OwnP w' w.heap.size (.slice a n c) (((setOf (pcL s.data.toList)).getD []).map prI) ∧ RdB w' g (bhB s) (f || !(setOf (pcL s.data.toList)).isSome) ∧ Two g gc w w' := by
  have PC := hide (piece_any g gc s f w hs hr (hE w (Two.refl _ _ _)))
  generalize hso : setOf (pcL s.data.toList) = so
  have HSO := hide hso
  have hpl := pc_len s
  have hgl := hr.lt
  have HE := hide hE
  clear hr hE hso
  go_enter Tryz.func66, Tryz.ntmps66
  go_wp2_with fail
  refine PC.out.mono ?_
  rintro e w1 ⟨rfl, h1, t1⟩
  have SE := hide (show Calls Tryz.prog 73 #[.string (pcB s)] w1 (SetPost (pcL s.data.toList) w1) from implSet_any (pcB s) w1 (HE.out w1 t1) (by omega))
  unfold SetPost at SE
  rw [HSO.out] at SE
  have H1 := hide h1
  have T1 := hide t1
  clear h1 t1 PC
  go_wp2_with fail
  refine SE.out.mono ?_
  rintro e w2 ⟨v2, rfl, hP, hb2⟩
  obtain ⟨a2, c2, rfl⟩ := hP.slice
  generalize ((so.getD []).map prI).length = ln at hP ⊢
  have hal := (Below.refl w2.heap.size w2).alloc (Nat.le_refl _) (.cells #[.bool so.isSome, .slice a2 ln c2] 65)
  have hb3 := hb2.trans (hal.mono hb2.size)
  have hB := blk_new w2 #[.bool so.isSome, .slice a2 ln c2] 65
  have HR3 := hide (H1.out.below hb3 H1.out.lt)
  have HT3 := hide (T1.out.trans (Two.of_below (b1 := g) (b2 := gc) hb3))
  have HP3 := hide ((hP.below hal (Nat.le_refl _)).mono T1.out.size)
  have hne : ¬ w2.heap.size = g := by have h1 := H1.out.lt; have h2 := hb2.size; omega
  have HNE := hide hne
  clear hal hb3 hb2 hP SE H1 T1 hne
  go_upto_region 2 with fail
  generalize w2.alloc (.cells #[.bool so.isSome, .slice a2 ln c2] 65) = W3 at hB HR3 HT3 HP3 ⊢
  have b0 : W3.cell? ⟨w2.heap.size, 0, none⟩ = some (.bool so.isSome) := hB.cell 0
  have ND := hide (need_any g g (bhB s) f so.isSome W3 HR3.out)
  have HB := hide hB
  clear hB
  go_wp2_with fail
  refine ND.out.mono ?_
  rintro e w4 ⟨⟨v4, rfl⟩, h4, t4⟩
  have b1 : w4.cell? ⟨w2.heap.size, 1, none⟩ = some (.slice a2 ln c2) := (HB.out.two t4 HNE.out HNE.out).cell 1
  have H4 := hide h4
  have T4 := hide (HT3.out.trans ⟨t4.os, t4.tape, t4.output, t4.size, fun k hk h1 _ => t4.block k hk h1 h1⟩)
  have HP4 := hide (HP3.out.two t4 hgl hgl)
  clear h4 t4 b0 ND HR3 HT3 HP3
  go_wp2
  go_ret
  exact ⟨a2, ln, c2, rfl, HP4.out, H4.out, T4.out⟩
end Go.Proofs.YtpedmebigcchnaaGreatDoor
namespace Go.Proofs.YtpedmebigcchnaaGreatDoor
open Go.RowKit
set_option linter.unusedVariables false
theorem Two.one {g gc : Nat} {w w' : World} (t : Two g g w w') : Two g gc w w' := ⟨t.os, t.tape, t.output, t.size, fun k hk h1 _ => t.block k hk h1 h1⟩
theorem ins_below {B b : Nat} {w W W' : World} (h : Below B w W) (hb : B ≤ b) (a2 : ∀ g, g ≠ b → W'.heap[g]? = W.heap[g]?) (a3 : W'.heap.size = W.heap.size) (a4 : W'.os = W.os ∧ W'.tape = W.tape ∧ W'.output = W.output) : Below B w W' :=
  ⟨a4.1.trans h.os, a4.2.1.trans h.tape, a4.2.2.trans h.output, by rw [a3]; exact h.size, fun g hg => (a2 g (by omega)).trans (h.block g hg)⟩
theorem wpList_lookup_ok {P : Program} (w : World) {ops : Array Oper} {rest : List Oper} {o : Oper} {a : Act} {Q : Exit → Act → World → Prop} (hg : o.guard = none) (m x : Operand) (t et : TypeId) (hop : o.op = Op.lookup t m x true)
    (ht : P.underlying t = some (.map 9 et)) (hk : P.underlying 9 = some .string) (z : Value) (hz : (zeroValue et).run P w = .ok z w) (b : Nat) (es : List (ByteArray × Value)) (k : ByteArray) (hm : a.eval m = .map (some b)) (hx : a.eval x = .string k)
    (hF : MapF w b es) (h : wpList P ops Q rest (a.put o.dst (.tuple #[(lookF es k).getD z, .bool (lookF es k).isSome])) w) : wpList P ops Q (o :: rest) a w := by
  refine wpList_plain hg fun K' hK' => ?_
  obtain ⟨ents, clock, hb, hes⟩ := hF
  obtain ⟨r, hf, hr⟩ := findNow_f k ents.toList es 0 hes
  have hc : ∀ e, (Instr.checkKey e 10000 9 (.string k)).run P w = .ok () w := fun e => MapKept.run_checkKey (k := .string k) hk (by simp [MapKept.IsKey]) e 9999
  have hrun : (Instr.lookup t (.map (some b)) (.string k) true).run P w = .ok (.tuple #[(lookF es k).getD z, .bool (lookF es k).isSome]) w := by
    rw [← hr]
    cases r with
    | none => simp [Instr.lookup, run_underlying ht, MapKept.run_getObj_map hb, hc, MapKept.run_findKey hk hf, hz, Result.andThen]
    | some q => simp [Instr.lookup, run_underlying ht, MapKept.run_getObj_map hb, hc, MapKept.run_findKey hk hf, Result.andThen]
  unfold Oper.wp
  simp [execOp, hop, hm, hx, hrun, Result.andThen]
  exact hK' _ _ h
def modE : List (ByteArray × Value) := [(⟨#[70, 76, 65, 71, 83]⟩, .int .i64 1), (⟨#[43, 70, 76, 65, 71, 83]⟩, .int .i64 2), (⟨#[45, 70, 76, 65, 71, 83]⟩, .int .i64 3)]
theorem look_mode (u : ByteArray) : (lookF modE u).getD (.int .i64 0) = .int .i64 ((modeOf u : Nat) : Int) ∧ (lookF modE u).isSome = decide (modeOf u ≠ 0) := by
  unfold modE
  by_cases h0 : u = ⟨#[70, 76, 65, 71, 83]⟩
  · rw [lookF, if_pos h0, modeOf, if_pos h0]; exact ⟨rfl, rfl⟩
  by_cases h1 : u = ⟨#[43, 70, 76, 65, 71, 83]⟩
  · rw [lookF, if_neg h0, lookF, if_pos h1, modeOf, if_neg h0, if_pos h1]; exact ⟨rfl, rfl⟩
  by_cases h2 : u = ⟨#[45, 70, 76, 65, 71, 83]⟩
  · rw [lookF, if_neg h0, lookF, if_neg h1, lookF, if_pos h2, modeOf, if_neg h0, if_neg h1, if_pos h2]; exact ⟨rfl, rfl⟩
  rw [lookF, if_neg h0, lookF, if_neg h1, lookF, if_neg h2, lookF, modeOf, if_neg h0, if_neg h1, if_neg h2]; exact ⟨rfl, rfl⟩
set_option maxRecDepth 20000 in
set_option maxHeartbeats 1000000 in
theorem mode_any (g gc : Nat) (s : ByteArray) (f : Bool) (w : World) (hs : s.size ≤ 1048576) (hr : RdB w g s f) (hE : ∀ X, Two g gc w X → Env X) :
    Calls Tryz.prog 68 #[.pointer (some ⟨g, 0, none⟩)] w fun e w' => e = .returned (.int .i64 ((modeOf (upB (pcB s)) : Nat) : Int)) ∧ RdB w' g (bhB s) (f || !decide (modeOf (upB (pcB s)) ≠ 0)) ∧ Two g gc w w' := by
  have hmm := @run_makeMap Tryz.prog
  have M0 := hide (mapF_new w)
  have B0 := hide ((Below.refl w.heap.size w).alloc (Nat.le_refl _) (.map #[] 0))
  have HR := hide hr
  have HE := hide hE
  have hgl := hr.lt
  have hzv : ∀ w : World, (zeroValue 3).run Tryz.prog w = .ok (.int .i64 0) w := fun w => by kernel_rfl
  have HZ := hide hzv
  have HLK := hide (look_mode (upB (pcB s)))
  generalize modeOf (upB (pcB s)) = md at HLK ⊢
  generalize decide (md ≠ 0) = kn at HLK ⊢
  clear hr hE hzv
  go_enter Tryz.func68, Tryz.ntmps68
  go_wp2_with (first | (refine wpList_insert_f _ rfl _ _ _ 96 3 rfl Tryz.underlying96 Tryz.underlying9 w.heap.size _ ⟨#[70, 76, 65, 71, 83]⟩ (.int .i64 1) rfl rfl rfl M0.out (lookF_none (by kernel_rfl)) ?_; intro W1 a1 a2 a3 a4; have M1 := hide a1; have B1 := hide (ins_below B0.out (Nat.le_refl _) a2 a3 a4); clear a1 a2 a3 a4) | (refine wpList_insert_f _ rfl _ _ _ 96 3 rfl Tryz.underlying96 Tryz.underlying9 w.heap.size _ ⟨#[43, 70, 76, 65, 71, 83]⟩ (.int .i64 2) rfl rfl rfl M1.out (lookF_none (by kernel_rfl)) ?_; intro W2 a1 a2 a3 a4; have M2 := hide a1; have B2 := hide (ins_below B1.out (Nat.le_refl _) a2 a3 a4); clear a1 a2 a3 a4) | (refine wpList_insert_f _ rfl _ _ _ 96 3 rfl Tryz.underlying96 Tryz.underlying9 w.heap.size _ ⟨#[45, 70, 76, 65, 71, 83]⟩ (.int .i64 3) rfl rfl rfl M2.out (lookF_none (by kernel_rfl)) ?_; intro W3 a1 a2 a3 a4; have M3 := hide a1; have B3 := hide (ins_below B2.out (Nat.le_refl _) a2 a3 a4); clear a1 a2 a3 a4) | fail)
  have H3 := hide (HR.out.below B3.out hgl)
  have T3 := hide (Two.of_below (b1 := g) (b2 := gc) B3.out)
  refine (word_any g g s f W3 hs H3.out (HE.out W3 T3.out)).mono ?_
  rintro e w4 ⟨rfl, h4, t4⟩
  have M4 := hide (show MapF w4 w.heap.size modE from M3.out.two t4 (by omega) (by omega))
  have H4 := hide h4
  have T4 := hide (T3.out.trans (t4.one (gc := gc)))
  clear h4 t4
  go_wp2_with (first
    | (at_lookup; refine wpList_lookup_ok _ rfl _ _ 96 3 rfl Tryz.underlying96 Tryz.underlying9 (.int .i64 0) (HZ.out _) w.heap.size modE (upB (pcB s)) rfl rfl M4.out ?_; rw [HLK.out.1, HLK.out.2])
    | fail)
  refine (need_any g g (bhB s) f kn w4 H4.out).mono ?_
  rintro e w5 ⟨⟨v5, rfl⟩, h5, t5⟩
  have H5 := hide h5
  have T5 := hide (T4.out.trans (t5.one (gc := gc)))
  clear h5 t5
  go_wp2
  go_ret
  exact ⟨rfl, H5.out, T5.out⟩
end Go.Proofs.YtpedmebigcchnaaGreatDoor
namespace Go.Proofs.YtpedmebigcchnaaGreatDoor
open Go.RowKit
set_option linter.unusedVariables false
def itE : List (ByteArray × Value) := [(⟨#[85, 73, 68]⟩, .int .i64 1), (⟨#[70, 76, 65, 71, 83]⟩, .int .i64 2), (⟨#[82, 70, 67, 56, 50, 50, 46, 83, 73, 90, 69]⟩, .int .i64 4), (⟨#[66, 79, 68, 89, 91, 93]⟩, .int .i64 8)]
theorem look_item (u : ByteArray) : (lookF itE u).getD (.int .i64 0) = .int .i64 ((itemOf u : Nat) : Int) ∧ (lookF itE u).isSome = decide (itemOf u ≠ 0) := by
  unfold itE
  by_cases h0 : u = ⟨#[85, 73, 68]⟩
  · rw [lookF, if_pos h0, itemOf, if_pos h0]; exact ⟨rfl, rfl⟩
  by_cases h1 : u = ⟨#[70, 76, 65, 71, 83]⟩
  · rw [lookF, if_neg h0, lookF, if_pos h1, itemOf, if_neg h0, if_pos h1]; exact ⟨rfl, rfl⟩
  by_cases h2 : u = ⟨#[82, 70, 67, 56, 50, 50, 46, 83, 73, 90, 69]⟩
  · rw [lookF, if_neg h0, lookF, if_neg h1, lookF, if_pos h2, itemOf, if_neg h0, if_neg h1, if_pos h2]; exact ⟨rfl, rfl⟩
  by_cases h3 : u = ⟨#[66, 79, 68, 89, 91, 93]⟩
  · rw [lookF, if_neg h0, lookF, if_neg h1, lookF, if_neg h2, lookF, if_pos h3, itemOf, if_neg h0, if_neg h1, if_neg h2, if_pos h3]; exact ⟨rfl, rfl⟩
  rw [lookF, if_neg h0, lookF, if_neg h1, lookF, if_neg h2, lookF, if_neg h3, lookF, itemOf, if_neg h0, if_neg h1, if_neg h2, if_neg h3]; exact ⟨rfl, rfl⟩
theorem cell_two {b1 b2 : Nat} {w w' : World} {p : Addr} {v : Value} (t : Two b1 b2 w w') (h : w.cell? p = some v) (h1 : p.block ≠ b1) (h2 : p.block ≠ b2) (hl : p.block < w.heap.size) : w'.cell? p = some v := by
  have e := t.block p.block hl h1 h2
  unfold World.cell? at h ⊢
  rw [e]
  exact h
theorem WordsAt.two {g lo : Nat} {w w' : World} {a : Option Addr} {ws : List ByteArray} (h : WordsAt w lo a ws) (t : Two g g w w') (hg : g < lo) : WordsAt w' lo a ws := fun j hj => by
  obtain ⟨gb, e, h1, h2⟩ := h j hj
  exact ⟨gb, e, h1, cell_two t h2 (by show gb ≠ g; omega) (by show gb ≠ g; omega) (lt_of_cell0 h2)⟩
theorem names_yes {s : ByteArray} {ws : List ByteArray} {i : List UInt8} (hb : brk (upB s).data.toList = some i) (h : ws.map (·.data.toList) = if i = [] then [] else splitOf 32 i) : ws.map (fun y => itemOf y) = (namesI s.data.toList).map itK := by
  have e : namesI s.data.toList = ws.map (·.data.toList) := by
    unfold namesI
    rw [upB_is, upT_list] at hb
    rw [hb, h]
  rw [e, List.map_map]
  rfl
theorem names_no {s : ByteArray} (hb : brk (upB s).data.toList = none) : [itemOf (upB s)] = (namesI s.data.toList).map itK := by
  unfold namesI
  rw [upB_is, upT_list] at hb
  rw [hb, upB_is]
  rfl
def ItPost (g gc : Nat) (s : ByteArray) (f : Bool) (w : World) (e : Ending) (w' : World) : Prop := ∃ (n : Nat) (bad : Bool), e = .returned (.int .i64 (n : Int)) ∧ RdB w' g ⟨#[]⟩ (f || bad) ∧ Two g gc w w' ∧ (bad = false → itemsOf s.data.toList = n ∧ n ≠ 0) ∧ (bad = true → itemsOf s.data.toList = 0) ∧ n < 16
theorem it_fin {b : List UInt8} {L : List Nat} (h : L = (namesI b).map itK) : ((!allN L || !decide (orN L ≠ 0)) = false → itemsOf b = orN L ∧ orN L ≠ 0) ∧ ((!allN L || !decide (orN L ≠ 0)) = true → itemsOf b = 0) := by
  have e := items_names b
  rw [← h] at e
  rw [e]
  cases ha : allN L with
  | false => exact ⟨fun h => (by cases h), fun _ => if_neg (fun h => by cases h.1)⟩
  | true =>
    by_cases ho : orN L = 0
    · refine ⟨fun h => ?_, fun _ => if_neg (fun h => h.2 ho)⟩
      rw [decide_eq_false (fun h => h ho)] at h
      cases h
    · refine ⟨fun _ => ⟨if_pos ⟨rfl, ho⟩, ho⟩, fun h => ?_⟩
      rw [decide_eq_true ho] at h
      cases h
theorem or_and4 (F A B : Bool) : ((F || !A) || !B) = (F || !(A && B)) := by cases F <;> cases A <;> cases B <;> rfl
theorem or_or (F A B : Bool) : ((F || A) || B) = (F || (A || B)) := by cases F <;> cases A <;> cases B <;> rfl
set_option maxRecDepth 20000 in
set_option maxHeartbeats 8000000 in
theorem items_any (g gc : Nat) (s : ByteArray) (f : Bool) (w : World) (hs : s.size ≤ 1048576) (hr : RdB w g s f) (hM : ∀ X, Two g gc w X → MaxL X) :
    Calls Tryz.prog 67 #[.pointer (some ⟨g, 0, none⟩)] w (ItPost g gc s f w) := by
  have hmm := @run_makeMap Tryz.prog
  have hzv : ∀ w : World, (zeroValue 3).run Tryz.prog w = .ok (.int .i64 0) w := fun w => by kernel_rfl
  have HZ := hide hzv
  have hgl := hr.lt
  have AL := hide (all_any g gc s f w hr)
  have HM := hide hM
  have HU := hide (fun W => capitals_any (bytesL s) W (by rw [bytesL_len]; omega) (bytesL_lt _))
  rw [strB_bytesL] at HU
  have hus : (upB s).size = s.size := by unfold upB; rw [strB_size, List.length_map, bytesL_len]
  have HUS := hide hus
  clear hr hM hzv hus
  go_enter Tryz.func67, Tryz.ntmps67
  go_wp2_with fail
  refine AL.out.mono ?_
  rintro e w1 ⟨rfl, h1, t1⟩
  have H1 := hide h1
  have T1 := hide t1
  clear h1 t1 AL
  go_wp2_with fail
  refine (show Calls _ _ #[_] _ _ from HU.out w1).mono ?_
  rintro e w2 ⟨rfl, hb2⟩
  have H2 := hide (H1.out.below hb2 H1.out.lt)
  have T2 := hide (T1.out.trans (Two.of_below hb2))
  have BR := hide (show Calls Tryz.prog 74 #[.string (upB s)] w2 (BrPost w2 (upB s).data.toList) from bracketed_any (upB s) w2 (by rw [HUS.out]; exact hs) (HM.out w2 T2.out))
  have hub : strB ((bytesL s).map upN) = upB s := rfl
  simp only [hub]
  clear hb2 H1 T1 HU hub
  go_wp2_with fail
  refine BR.out.mono ?_
  rintro e w3 ⟨a, c, ws, good, rfl, hg0, hg1, hwd, hwl, hwz, hb3⟩
  have hul : (upB s).data.toList.length = s.size := HUS.out
  have hwl2 : ws.length ≤ 1048577 := by omega
  have H3 := hide (H2.out.below hb3 H2.out.lt)
  have T3 := hide (T2.out.trans (Two.of_below hb3))
  have HWD := hide hwd
  have hlo : g < w2.heap.size := H2.out.lt
  clear hwd hwl hwz hb3 BR H2 T2 hul
  cases good with
  | true =>
    obtain ⟨i, hi, hws⟩ := hg1 rfl
    have HLN := hide (names_yes hi hws)
    have HL16 := hide (show ∀ n ∈ ws.map (fun y => itemOf y), n < 16 from fun n hn => by obtain ⟨y, _, rfl⟩ := List.mem_map.1 hn; exact itemOf_le _)
    have HLL := hide (show (ws.map (fun y => itemOf y)).length = ws.length from by simp)
    have HLG := hide (fun (k : Nat) (hk : k < ws.length) => show (ws.map (fun y => itemOf y))[k]? = some (itemOf ws[k]) by rw [List.getElem?_map, List.getElem?_eq_getElem hk]; rfl)
    generalize ws.map (fun y => itemOf y) = L at HLN HL16 HLL HLG
    clear hg0 hg1 hi hws
    obtain ⟨W, hW⟩ : ∃ W, W = w3 := ⟨_, rfl⟩
    subst hW
    have HRW := hide H3.out
    have HTW := hide T3.out
    have HWW := hide HWD.out
    have hlo2 := hlo
    clear H3 T3 HWD
    have M0 := hide (mapF_new W)
    have B0 := hide ((Below.refl W.heap.size W).alloc (Nat.le_refl _) (.map #[] 0))
    have hgW : g < W.heap.size := HRW.out.lt
    go_wp2_with (first | (refine wpList_insert_f _ rfl _ _ _ 96 3 rfl Tryz.underlying96 Tryz.underlying9 W.heap.size _ ⟨#[85, 73, 68]⟩ (.int .i64 1) rfl rfl rfl M0.out (lookF_none (by kernel_rfl)) ?_; intro W1 a1 a2 a3 a4; have M1 := hide a1; have B1 := hide (ins_below B0.out (Nat.le_refl _) a2 a3 a4); clear a1 a2 a3 a4) | (refine wpList_insert_f _ rfl _ _ _ 96 3 rfl Tryz.underlying96 Tryz.underlying9 W.heap.size _ ⟨#[70, 76, 65, 71, 83]⟩ (.int .i64 2) rfl rfl rfl M1.out (lookF_none (by kernel_rfl)) ?_; intro W2 a1 a2 a3 a4; have M2 := hide a1; have B2 := hide (ins_below B1.out (Nat.le_refl _) a2 a3 a4); clear a1 a2 a3 a4) | (refine wpList_insert_f _ rfl _ _ _ 96 3 rfl Tryz.underlying96 Tryz.underlying9 W.heap.size _ ⟨#[82, 70, 67, 56, 50, 50, 46, 83, 73, 90, 69]⟩ (.int .i64 4) rfl rfl rfl M2.out (lookF_none (by kernel_rfl)) ?_; intro W3 a1 a2 a3 a4; have M3 := hide a1; have B3 := hide (ins_below B2.out (Nat.le_refl _) a2 a3 a4); clear a1 a2 a3 a4) | (refine wpList_insert_f _ rfl _ _ _ 96 3 rfl Tryz.underlying96 Tryz.underlying9 W.heap.size _ ⟨#[66, 79, 68, 89, 91, 93]⟩ (.int .i64 8) rfl rfl rfl M3.out (lookF_none (by kernel_rfl)) ?_; intro W4 a1 a2 a3 a4; have M4 := hide a1; have B4 := hide (ins_below B3.out (Nat.le_refl _) a2 a3 a4); clear a1 a2 a3 a4) | fail)
    have HR4 := hide (HRW.out.below B4.out hgW)
    have HT4 := hide (HTW.out.trans (Two.of_below B4.out))
    have HW4 := hide (HWW.out.below B4.out)
    have HM4 := hide (show MapF W4 W.heap.size itE from M4.out)
    clear M0 M1 M2 M3 M4 B0 B1 B2 B3 B4 HRW HTW HWW
    go_loopw [7, 9, 10, 11, 28] (fun it _ _ _ i wr => ∃ k : Nat, k ≤ ws.length ∧ i = .int .i64 (k : Int) ∧ it = .int .i64 ((orN (L.take k) : Nat) : Int) ∧ Hid (RdB wr g ⟨#[]⟩ (f || !allN (L.take k))) ∧ Hid (MapF wr W.heap.size itE) ∧ Hid (WordsAt wr w2.heap.size a ws) ∧ Hid (Two g gc w wr)) (fun _ _ _ _ i _ => ws.length - (intOf i).toNat)
    case atStart => exact ⟨0, Nat.zero_le _, rfl, rfl, hide (by have h := HR4.out; simpa [allN] using h), HM4, HW4, HT4⟩
    case round =>
      obtain ⟨k, hk, rfl, rfl, HR, HMP, HW, HT⟩ := hrel
      by_cases hlt : k < ws.length
      · obtain ⟨gb, he, _, hcell⟩ := HW.out k hlt
        have hkL : k < L.length := by rw [HLL.out]; exact hlt
        have hLk : L[k] = itemOf ws[k] := by have h := HLG.out k hlt; rw [List.getElem?_eq_getElem hkL] at h; exact Option.some.inj h
        have HLK := hide (look_item ws[k])
        rw [← hLk] at HLK
        have h16a := orN_take HL16.out k
        have h16b := HL16.out _ (List.getElem_mem hkL)
        have HOR := hide (orN_step hkL)
        have ho := or_i64 _ _ h16a h16b
        have HAN := hide (show allN (L.take (k + 1)) = (allN (L.take k) && decide (L[k] ≠ 0)) by rw [List.take_succ_eq_append_getElem hkL, allN_snoc])
        have hki : (k : Int) < (ws.length : Int) := by omega
        generalize hnm : ws[k] = nm at hcell HLK
        clear hLk hnm
        generalize L[k] = n at HLK HOR ho HAN h16b
        generalize orN (L.take k) = q at HOR ho h16a
        generalize allN (L.take k) = A at HR HAN
        generalize decide (n ≠ 0) = kn at HLK HAN
        generalize hqn : q ||| n = r at ho HOR
        clear hqn hkL
        subst he
        go_wp2_with (first
          | (at_lookup; refine wpList_lookup_ok _ rfl _ _ 96 3 rfl Tryz.underlying96 Tryz.underlying9 (.int .i64 0) (HZ.out _) W.heap.size itE nm rfl rfl HMP.out ?_; rw [HLK.out.1, HLK.out.2])
          | fail)
        refine (need_any g g ⟨#[]⟩ _ kn wr HR.out).mono ?_
        rintro e w6 ⟨⟨v6, rfl⟩, h6, t6⟩
        have HR6 := hide (show RdB w6 g ⟨#[]⟩ (f || !allN (L.take (k + 1))) by have h := h6; rw [or_and4, ← HAN.out] at h; exact h)
        have HM6 := hide (HMP.out.two t6 (by omega) (by omega))
        have HW6 := hide (HW.out.two t6 hlo2)
        have HT6 := hide (HT.out.trans (t6.one (gc := gc)))
        clear h6 t6 HR HMP HW HT hcell
        go_wp2
        go_roundw
        case rel => exact ⟨k + 1, by omega, by go_num, by rw [HOR.out], HR6, HM6, HW6, HT6⟩
        case measure => simp [intOf]; omega
      · have hke : L.take k = L := List.take_of_length_le (by rw [HLL.out]; omega)
        have hki : ¬ (k : Int) < (ws.length : Int) := by omega
        rw [hke] at HR ⊢
        have HF := hide (it_fin HLN.out)
        have h16 := orN_lt L HL16.out
        clear hke
        by_cases hq : orN L = 0
        · have hqb : (((orN L : Nat) : Int) != 0) = false := by simp [hq]
          have hqd : decide (orN L ≠ 0) = false := by simp [hq]
          have hqi : ((orN L : Nat) : Int) = 0 := by omega
          have HQ0 := hide hq
          rw [hqd] at HF
          generalize orN L = q at hqb hqi HF h16 HQ0 ⊢
          clear hq hqd
          go_wp2_with fail
          refine (need_any g g ⟨#[]⟩ _ false wr HR.out).mono ?_
          rintro e w6 ⟨⟨v6, rfl⟩, h6, t6⟩
          have HR6 := hide (show RdB w6 g ⟨#[]⟩ (f || (!allN L || !false)) by have h := h6; rw [or_or] at h; exact h)
          have HT6 := hide (HT.out.trans (t6.one (gc := gc)))
          clear h6 t6 hqb hqi
          go_wp2
          go_ret
          obtain rfl := HQ0.out
          exact ⟨0, _, rfl, HR6.out, HT6.out, HF.out.1, HF.out.2, h16⟩
        · have hqb : (((orN L : Nat) : Int) != 0) = true := by simp; omega
          have hqd : decide (orN L ≠ 0) = true := by simp [hq]
          have hqi : ¬ ((orN L : Nat) : Int) = 0 := by omega
          rw [hqd] at HF
          generalize orN L = q at hqb hqi HF h16 ⊢
          clear hq hqd
          go_wp2_with fail
          refine (need_any g g ⟨#[]⟩ _ true wr HR.out).mono ?_
          rintro e w6 ⟨⟨v6, rfl⟩, h6, t6⟩
          have HR6 := hide (show RdB w6 g ⟨#[]⟩ (f || (!allN L || !true)) by have h := h6; rw [or_or] at h; exact h)
          have HT6 := hide (HT.out.trans (t6.one (gc := gc)))
          clear h6 t6 hqb hqi
          go_wp2
          go_ret
          exact ⟨q, _, rfl, HR6.out, HT6.out, HF.out.1, HF.out.2, h16⟩
  | false =>
    have hbk := hg0 rfl
    obtain ⟨wt, hwt⟩ : ∃ wt : List ByteArray, wt = [upB s] := ⟨_, rfl⟩
    have HW1 := hide (show WordsAt (w3.alloc (.cells #[.string (upB s)] 9)) w3.heap.size (some ⟨w3.heap.size, 0, none⟩) wt from by
      subst hwt
      intro j hj
      have hj0 : j = 0 := by simpa using hj
      subst hj0
      exact ⟨w3.heap.size, rfl, Nat.le_refl _, (blk_new w3 #[.string (upB s)] 9).cell 0⟩)
    have hwn : wt.length = 1 := by rw [hwt]; rfl
    have HLN := hide (show wt.map (fun y => itemOf y) = (namesI s.data.toList).map itK by rw [hwt]; exact names_no hbk)
    have HL16 := hide (show ∀ n ∈ wt.map (fun y => itemOf y), n < 16 from fun n hn => by obtain ⟨y, _, rfl⟩ := List.mem_map.1 hn; exact itemOf_le _)
    have HLL := hide (show (wt.map (fun y => itemOf y)).length = wt.length from by simp)
    have HLG := hide (fun (k : Nat) (hk : k < wt.length) => show (wt.map (fun y => itemOf y))[k]? = some (itemOf wt[k]) by rw [List.getElem?_map, List.getElem?_eq_getElem hk]; rfl)
    generalize wt.map (fun y => itemOf y) = L at HLN HL16 HLL HLG
    have hal := (Below.refl w3.heap.size w3).alloc (Nat.le_refl _) (.cells #[.string (upB s)] 9)
    have HRW := hide (H3.out.below hal H3.out.lt)
    have HTW := hide (T3.out.trans (Two.of_below hal))
    have hlo2 : g < w3.heap.size := H3.out.lt
    clear hg0 hg1 hbk hal hwt H3 T3 HWD
    go_upto_region 5 with fail
    generalize w3.alloc (.cells #[.string (upB s)] 9) = W at HW1 HRW HTW ⊢
    have HWW := hide HW1.out
    clear HW1
    rw [show (1 : Nat) = wt.length from hwn.symm]
    have M0 := hide (mapF_new W)
    have B0 := hide ((Below.refl W.heap.size W).alloc (Nat.le_refl _) (.map #[] 0))
    have hgW : g < W.heap.size := HRW.out.lt
    go_wp2_with (first | (refine wpList_insert_f _ rfl _ _ _ 96 3 rfl Tryz.underlying96 Tryz.underlying9 W.heap.size _ ⟨#[85, 73, 68]⟩ (.int .i64 1) rfl rfl rfl M0.out (lookF_none (by kernel_rfl)) ?_; intro W1 a1 a2 a3 a4; have M1 := hide a1; have B1 := hide (ins_below B0.out (Nat.le_refl _) a2 a3 a4); clear a1 a2 a3 a4) | (refine wpList_insert_f _ rfl _ _ _ 96 3 rfl Tryz.underlying96 Tryz.underlying9 W.heap.size _ ⟨#[70, 76, 65, 71, 83]⟩ (.int .i64 2) rfl rfl rfl M1.out (lookF_none (by kernel_rfl)) ?_; intro W2 a1 a2 a3 a4; have M2 := hide a1; have B2 := hide (ins_below B1.out (Nat.le_refl _) a2 a3 a4); clear a1 a2 a3 a4) | (refine wpList_insert_f _ rfl _ _ _ 96 3 rfl Tryz.underlying96 Tryz.underlying9 W.heap.size _ ⟨#[82, 70, 67, 56, 50, 50, 46, 83, 73, 90, 69]⟩ (.int .i64 4) rfl rfl rfl M2.out (lookF_none (by kernel_rfl)) ?_; intro W3 a1 a2 a3 a4; have M3 := hide a1; have B3 := hide (ins_below B2.out (Nat.le_refl _) a2 a3 a4); clear a1 a2 a3 a4) | (refine wpList_insert_f _ rfl _ _ _ 96 3 rfl Tryz.underlying96 Tryz.underlying9 W.heap.size _ ⟨#[66, 79, 68, 89, 91, 93]⟩ (.int .i64 8) rfl rfl rfl M3.out (lookF_none (by kernel_rfl)) ?_; intro W4 a1 a2 a3 a4; have M4 := hide a1; have B4 := hide (ins_below B3.out (Nat.le_refl _) a2 a3 a4); clear a1 a2 a3 a4) | fail)
    have HR4 := hide (HRW.out.below B4.out hgW)
    have HT4 := hide (HTW.out.trans (Two.of_below B4.out))
    have HW4 := hide (HWW.out.below B4.out)
    have HM4 := hide (show MapF W4 W.heap.size itE from M4.out)
    clear M0 M1 M2 M3 M4 B0 B1 B2 B3 B4 HRW HTW HWW
    go_loopw [7, 9, 10, 11, 28] (fun it _ _ _ i wr => ∃ k : Nat, k ≤ wt.length ∧ i = .int .i64 (k : Int) ∧ it = .int .i64 ((orN (L.take k) : Nat) : Int) ∧ Hid (RdB wr g ⟨#[]⟩ (f || !allN (L.take k))) ∧ Hid (MapF wr W.heap.size itE) ∧ Hid (WordsAt wr w3.heap.size (some ⟨w3.heap.size, 0, none⟩) wt) ∧ Hid (Two g gc w wr)) (fun _ _ _ _ i _ => wt.length - (intOf i).toNat)
    case atStart => exact ⟨0, Nat.zero_le _, rfl, rfl, hide (by have h := HR4.out; simpa [allN] using h), HM4, HW4, HT4⟩
    case round =>
      obtain ⟨k, hk, rfl, rfl, HR, HMP, HW, HT⟩ := hrel
      by_cases hlt : k < wt.length
      · obtain ⟨gb, he, _, hcell⟩ := HW.out k hlt
        have hkL : k < L.length := by rw [HLL.out]; exact hlt
        have hLk : L[k] = itemOf wt[k] := by have h := HLG.out k hlt; rw [List.getElem?_eq_getElem hkL] at h; exact Option.some.inj h
        have HLK := hide (look_item wt[k])
        rw [← hLk] at HLK
        have h16a := orN_take HL16.out k
        have h16b := HL16.out _ (List.getElem_mem hkL)
        have HOR := hide (orN_step hkL)
        have ho := or_i64 _ _ h16a h16b
        have HAN := hide (show allN (L.take (k + 1)) = (allN (L.take k) && decide (L[k] ≠ 0)) by rw [List.take_succ_eq_append_getElem hkL, allN_snoc])
        have hki : (k : Int) < (wt.length : Int) := by omega
        generalize hnm : wt[k] = nm at hcell HLK
        clear hLk hnm
        generalize L[k] = n at HLK HOR ho HAN h16b
        generalize orN (L.take k) = q at HOR ho h16a
        generalize allN (L.take k) = A at HR HAN
        generalize decide (n ≠ 0) = kn at HLK HAN
        generalize hqn : q ||| n = r at ho HOR
        clear hqn hkL
        obtain rfl : w3.heap.size = gb := by simpa using he
        go_wp2_with (first
          | (at_lookup; refine wpList_lookup_ok _ rfl _ _ 96 3 rfl Tryz.underlying96 Tryz.underlying9 (.int .i64 0) (HZ.out _) W.heap.size itE nm rfl rfl HMP.out ?_; rw [HLK.out.1, HLK.out.2])
          | fail)
        refine (need_any g g ⟨#[]⟩ _ kn wr HR.out).mono ?_
        rintro e w6 ⟨⟨v6, rfl⟩, h6, t6⟩
        have HR6 := hide (show RdB w6 g ⟨#[]⟩ (f || !allN (L.take (k + 1))) by have h := h6; rw [or_and4, ← HAN.out] at h; exact h)
        have HM6 := hide (HMP.out.two t6 (by omega) (by omega))
        have HW6 := hide (HW.out.two t6 hlo2)
        have HT6 := hide (HT.out.trans (t6.one (gc := gc)))
        clear h6 t6 HR HMP HW HT hcell
        go_wp2
        go_roundw
        case rel => exact ⟨k + 1, by omega, by go_num, by rw [HOR.out], HR6, HM6, HW6, HT6⟩
        case measure => simp [intOf]; omega
      · have hke : L.take k = L := List.take_of_length_le (by rw [HLL.out]; omega)
        have hki : ¬ (k : Int) < (wt.length : Int) := by omega
        rw [hke] at HR ⊢
        have HF := hide (it_fin HLN.out)
        have h16 := orN_lt L HL16.out
        clear hke
        by_cases hq : orN L = 0
        · have hqb : (((orN L : Nat) : Int) != 0) = false := by simp [hq]
          have hqd : decide (orN L ≠ 0) = false := by simp [hq]
          have hqi : ((orN L : Nat) : Int) = 0 := by omega
          have HQ0 := hide hq
          rw [hqd] at HF
          generalize orN L = q at hqb hqi HF h16 HQ0 ⊢
          clear hq hqd
          go_wp2_with fail
          refine (need_any g g ⟨#[]⟩ _ false wr HR.out).mono ?_
          rintro e w6 ⟨⟨v6, rfl⟩, h6, t6⟩
          have HR6 := hide (show RdB w6 g ⟨#[]⟩ (f || (!allN L || !false)) by have h := h6; rw [or_or] at h; exact h)
          have HT6 := hide (HT.out.trans (t6.one (gc := gc)))
          clear h6 t6 hqb hqi
          go_wp2
          go_ret
          obtain rfl := HQ0.out
          exact ⟨0, _, rfl, HR6.out, HT6.out, HF.out.1, HF.out.2, h16⟩
        · have hqb : (((orN L : Nat) : Int) != 0) = true := by simp; omega
          have hqd : decide (orN L ≠ 0) = true := by simp [hq]
          have hqi : ¬ ((orN L : Nat) : Int) = 0 := by omega
          rw [hqd] at HF
          generalize orN L = q at hqb hqi HF h16 ⊢
          clear hq hqd
          go_wp2_with fail
          refine (need_any g g ⟨#[]⟩ _ true wr HR.out).mono ?_
          rintro e w6 ⟨⟨v6, rfl⟩, h6, t6⟩
          have HR6 := hide (show RdB w6 g ⟨#[]⟩ (f || (!allN L || !true)) by have h := h6; rw [or_or] at h; exact h)
          have HT6 := hide (HT.out.trans (t6.one (gc := gc)))
          clear h6 t6 hqb hqi
          go_wp2
          go_ret
          exact ⟨q, _, rfl, HR6.out, HT6.out, HF.out.1, HF.out.2, h16⟩
end Go.Proofs.YtpedmebigcchnaaGreatDoor
