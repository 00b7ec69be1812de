import Derived.Test.YtokcdpamcbpaiabDrawMath
import Derived.Test.YtokcdpamcbpaiabUnfMem
import Derived.Test.YtokcdpamcbpaiabSpecFrame
namespace Go.Proofs.Ytokcdpamcbpaiab
open Go.RowKit
/-- The reader over 'code' at place i (it stays at the code's end once there). -/
def Rd (w : World) (p : Nat) (v : Value) (code : List Nat) (i : Nat) : Prop := w.heap[p]? = some (.cells #[v, .int .i64 ((min i code.length : Nat) : Int)] 49 (0, 0))
theorem Rd.c0 {w : World} {p i : Nat} {v : Value} {code : List Nat} (h : Rd w p v code i) : w.cell? ⟨p, 0, none⟩ = some v := by rw [cell_of_row w p 0 _ _ (0, 0) h]; rfl
theorem Rd.c1 {w : World} {p i : Nat} {v : Value} {code : List Nat} (h : Rd w p v code i) : w.cell? ⟨p, 1, none⟩ = some (.int .i64 ((min i code.length : Nat) : Int)) := by rw [cell_of_row w p 1 _ _ (0, 0) h]; rfl
theorem Rd.fz {w : World} {p i : Nat} {v : Value} {code : List Nat} (h : Rd w p v code i) (j : Nat) : w.frozen? ⟨p, j, none⟩ = false := frozen_of_row w p j _ _ h
theorem Rd.lt {w : World} {p i : Nat} {v : Value} {code : List Nat} (h : Rd w p v code i) : p < w.heap.size := lt_of_block h
theorem Rd.below {w w' : World} {B p i : Nat} {v : Value} {code : List Nat} (h : Rd w p v code i) (hb : Below B w w') (hp : p < B) : Rd w' p v code i := (hb.block p hp).trans h
theorem Rd.grown {w w' : World} {p i : Nat} {v : Value} {code : List Nat} {row : Option Nat} (h : Rd w p v code i) (hg : w.grownBy w' row) (hne : some p ≠ row) : Rd w' p v code i := (hg.block p h.lt hne).trans h
theorem Rd.step {w : World} {p i : Nat} {v : Value} {code : List Nat} (h : Rd w p v code i) (hi : i < code.length) : Rd (w.setCell ⟨p, 1, none⟩ (.int .i64 ((i : Int) + 1))) p v code (i + 1) := by
  have h2 := heap_setCell_same w p 1 _ _ (.int .i64 ((i : Int) + 1)) h
  unfold Rd
  rw [h2]
  have e : ((min (i + 1) code.length : Nat) : Int) = (i : Int) + 1 := by omega
  rw [e]
  rfl
theorem grown_setCell (w : World) (p j : Nat) (u : Value) : w.grownBy (w.setCell ⟨p, j, none⟩ u) (some p) :=
  ⟨rfl, rfl, rfl, by simp, fun k _ hk => heap_setCell_other w ⟨p, j, none⟩ k u (fun e => hk (by simp [e]))⟩
theorem grown_drew {w w' : World} {row : Option Nat} (h : w.grownBy w' row) (n : Nat) : w.grownBy (w'.drewN n) row := ⟨h.os, h.tape, h.output, h.size, h.block⟩
theorem grown_drew0 {w w' : World} {row : Option Nat} {n : Nat} (h : (w.drewN n).grownBy w' row) : w.grownBy w' row := ⟨h.os, h.tape, h.output, h.size, h.block⟩
theorem next_any (p : Nat) (a : Option Addr) (cap : Nat) (code : List Nat) (i : Nat) (w : World) (hl : code.length ≤ 1048576) (hr : RowAt w a code) (hb : ∀ x ∈ code, x < 256) (hrd : Rd w p (.slice a code.length cap) code i) :
    Calls Try.prog 35 #[.pointer (some ⟨p, 0, none⟩)] w fun e w' => e = .returned (.int .i64 (nx code i : Int)) ∧ Rd w' p (.slice a code.length cap) code (i + 1) ∧ w.grownBy w' (some p) ∧ w'.heap.size = w.heap.size := by
  have c0 := hrd.c0
  have c1 := hrd.c1
  have f1 := hrd.fz 1
  by_cases hi : i < code.length
  · obtain ⟨b, off, rfl, hc⟩ := hr (by omega)
    have hck := hc i hi
    have hm : min i code.length = i := by omega
    rw [hm] at c1
    have hst := hrd.step hi
    have hnx : nx code i = code[i] := by simp [nx, hi]
    have HN := hide hnx
    have hx256 : code[i] < 256 := hb _ (List.getElem_mem hi)
    have HS := hide hst
    have hix : (i : Int) < (code.length : Int) := by omega
    have hdec : decide ((code.length : Int) ≤ (i : Int)) = false := by simp; omega
    clear hm hnx hst hc hr hrd
    go_enter Try.func35, Try.ntmps35
    go_wp2
    go_quiet (fail)
    go_wp2
    go_quiet (fail)
    go_wp2
    go_ret
    exact ⟨ret_int (by rw [unhide HN]), unhide HS, grown_drew0 (grown_setCell _ _ _ _), by simp⟩
  · have hm : min i code.length = code.length := by omega
    rw [hm] at c1
    go_enter Try.func35, Try.ntmps35
    go_wp2
    go_quiet (fail)
    go_wp2
    go_ret
    refine ⟨ret_int (by simp [nx, List.getElem?_eq_none (Nat.le_of_not_lt hi)]), ?_, grown_drew (grown_refl _ _) _, rfl⟩
    have e : min (i + 1) code.length = min i code.length := by omega
    have h2 : Rd w p (.slice a code.length cap) code (i + 1) := by unfold Rd; rw [e]; exact hrd
    exact h2
theorem dataAt_take (code : List Nat) (i m : Nat) (h : m < dataLen (nx code i)) : (dataAt code i).take (m + 1) = (dataAt code i).take m ++ [nx code (i + 1 + m)] := by
  rw [List.take_succ_eq_append_getElem (by rw [dataAt_length]; exact h)]
  simp [dataAt]
theorem dataAt_len (code : List Nat) (i m : Nat) : ((dataAt code i).take m).length ≤ (dataAt code i).length := by simp; omega
theorem grown_new {w wr w4 : World} {r r' : Option Nat} (h : w.grownBy wr r) (k : wr.grownBy w4 r') (hr : ∀ b, r' = some b → w.heap.size ≤ b) : w.grownBy w4 r :=
  ⟨k.os.trans h.os, k.tape.trans h.tape, k.output.trans h.output, Nat.le_trans h.size k.size, fun i hi ho => (k.block i (Nat.lt_of_lt_of_le hi h.size) (fun e => by have := hr i e.symm; omega)).trans (h.block i hi ho)⟩
theorem own_ne {w : World} {B p : Nat} {v : Value} {l : List Nat} (h : OwnB w B v l) (hp : p < B) : v.ownBlock = none ∨ v.ownBlock ≠ some p := .inr fun e => by have := (World.ownsRow.lt h p e).1; omega
theorem own_ne' {w : World} {B p : Nat} {v : Value} {l : List Nat} (h : OwnB w B v l) (hp : p < B) : some p ≠ v.ownBlock := fun e => by have := (World.ownsRow.lt h p e.symm).1; omega
/-- make of no bytes with room for n. -/
theorem wpList_make_cap {ops : Array Oper} {rest : List Oper} {o : Oper} {act : Act} {Q : Exit → Act → World → Prop} (w : World) (hgd : o.guard = none) (s x : Operand)
    (ho : o.op = Op.makeSlice 22 s x) (n : Nat) (C : Int) (hs : act.eval s = .int .i64 0) (hx : act.eval x = .int .i64 C) (hC : C = (n : Int)) (hlen : n ≤ 1099511627776)
    (h : ∀ w', OwnB w' w.heap.size (.slice (some ⟨w.heap.size, 0, none⟩) 0 n) [] → w.grownBy w' none → wpList Try.prog ops Q rest (act.put o.dst (.slice (some ⟨w.heap.size, 0, none⟩) 0 n)) w') : wpList Try.prog ops Q (o :: rest) act w := by
  obtain ⟨i0, hi, hz0, hz1, hz2⟩ := info_parts Try.info5
  exact wpList_make_own w hgd s x 22 ho w.heap.size 5 i0 (.int .u8 0) 1 Try.underlying22 hi hz0 hz1 .i64 .i64 C n hs hx hC (by rw [hz2]; omega) (by unfold maxLen; omega) (Nat.le_refl _) h
set_option maxRecDepth 20000 in
set_option maxHeartbeats 800000 in
theorem l1Data_any (p : Nat) (a : Option Addr) (cap : Nat) (code : List Nat) (i : Nat) (w0 w : World) (hl : code.length ≤ 1048576) (hr : RowAt w0 a code) (hw : Below w0.heap.size w0 w) (hp : w0.heap.size ≤ p) (hb : ∀ x ∈ code, x < 256) (hrd : Rd w p (.slice a code.length cap) code i) :
    Calls Try.prog 46 #[.pointer (some ⟨p, 0, none⟩)] w fun e w' => ∃ v, e = .returned v ∧ OwnB w' w.heap.size v (dataAt code i) ∧ Rd w' p (.slice a code.length cap) code (i + 1 + dataLen (nx code i)) ∧ w.grownBy w' (some p) := by
  have hpl := hrd.lt
  have hx := nx_lt hb i
  have hdl := dataLen_lt hx
  have hrw := hr.below hw
  go_enter Try.func46, Try.ntmps46
  go_wp2_with fail
  refine (next_any p a cap code i w hl hrw hb hrd).mono ?_
  rintro e w1 ⟨rfl, hrd1, hg1, hz⟩
  have HD : Hid (dataLen (nx code i) = if nx code i < 200 then nx code i % 12 else nx code i) := rfl
  have HT := hide (dataAt_take code i)
  have HL := hide (dataAt_length code i)
  generalize hcx : nx code i = c at hx HD HL HT hdl ⊢
  have HC := hide hcx
  clear hcx
  by_cases hc : c < 200
  · have hn := unhide HD
    rw [if_pos hc] at hn
    have HN := hide hn
    have HZ := hide hz
    clear hn hz hrw hrd
    go_wp2_with (at_make; refine wpList_make_cap _ rfl _ _ rfl (dataLen c) _ rfl rfl (by have := unhide HN; omega) (by omega) ?_; intro w2 hown hgr)
    have hgw2 : w.grownBy w2 (some p) := grown_new hg1 hgr (fun b h => by cases h)
    have hrd2 : Rd w2 p (.slice a code.length cap) code (i + 1) := hrd1.grown hgr (by simp)
    have hown2 : OwnB w2 w.heap.size (.slice (some ⟨w1.heap.size, 0, none⟩) 0 (dataLen c)) [] := hown.mono (by have := unhide HZ; omega)
    clear hown hgr hrd1 hg1
    go_loopw [3, 4] (fun n v wr => ∃ m : Nat, m ≤ dataLen c ∧ n = .int .i64 ((dataLen c - m : Nat) : Int) ∧ OwnB wr w.heap.size v ((dataAt code i).take m) ∧ Rd wr p (.slice a code.length cap) code (i + 1 + m) ∧ w.grownBy wr (some p)) (fun n _ _ => (intOf n).toNat)
    case atStart => exact ⟨0, Nat.zero_le _, val_int (by have := unhide HN; omega), by rw [List.take_zero]; exact hown2, hrd2, hgw2⟩
    case round =>
      obtain ⟨m, hm, rfl, hov, hrdm, hgm⟩ := hrel
      clear hown2 hrd2 hgw2
      have hsz := hgm.size
      by_cases hlt : m < dataLen c
      · have hbm : Below w0.heap.size w0 wr := hw.trans ((Below.refl _ _).grown hgm hw.size (fun k h => by simp at h; omega))
        have hx' := nx_lt hb (i + 1 + m)
        have ht := unhide HT m hlt
        have HT' := hide ht
        have hpos : (0 : Int) < ((dataLen c - m : Nat) : Int) := by omega
        clear ht
        go_wp2_with fail
        refine (next_any p a cap code (i + 1 + m) wr hl (hr.below hbm) hb hrdm).mono ?_
        rintro e w3 ⟨rfl, hrd3, hg3, -⟩
        have ho3 : OwnB w3 w.heap.size u4 ((dataAt code i).take m) := World.ownsRow.kept hov hg3 (own_ne hov hpl)
        have hs3 := hg3.size
        generalize nx code (i + 1 + m) = x at hx' HT' ⊢
        have hrow := row_alloc1 w3 (x : Int) x rfl
        have ho3' := ho3.alloc (.cells #[.int .u8 (x : Int)] 5)
        have hlen := hide (dataAt_len code i m)
        go_wp2_with (at_builtin; refine wpList_append_bytes _ rfl _ _ rfl w.heap.size u4 ((dataAt code i).take m) [x] rfl ho3' _ _ rfl hrow (by simp) (by have := unhide hlen; have := unhide HL; simp; omega) (by simp; omega) ?_; intro v5 w5 ho5 hg5)
        have hrd5 : Rd w5 p (.slice a code.length cap) code (i + 1 + m + 1) := (hrd3.below ((Below.refl _ _).alloc (Nat.le_refl _) _) hrd3.lt).grown hg5 (own_ne' hov hpl)
        have hg5' : w.grownBy w5 (some p) := grown_new (grown_trans hgm (grown_new hg3 (World.grownBy_alloc w3 _ none) (fun b h => by cases h))) hg5 (fun b h => (World.ownsRow.lt hov b h).1)
        rw [← unhide HT'] at ho5
        go_roundw
        case rel => exact ⟨m + 1, by omega, val_int (by omega), ho5, by rw [← Nat.add_assoc]; exact hrd5, hg5'⟩
        case measure => simp [intOf]; omega
      · have hme : m = dataLen c := by omega
        have hz0 : dataLen c - m = 0 := by omega
        rw [hme] at hov hrdm
        rw [List.take_of_length_le (by rw [unhide HL]; exact Nat.le_refl _)] at hov
        rw [hz0]
        go_wp2
        go_ret
        exact ⟨_, rfl, hov, by rw [unhide HC]; exact hrdm, hgm⟩
  · have hn := unhide HD
    rw [if_neg hc] at hn
    have HN := hide hn
    have HZ := hide hz
    clear hn hz hrw hrd
    go_wp2_with (at_make; refine wpList_make_cap _ rfl _ _ rfl (dataLen c) _ rfl rfl (by have := unhide HN; omega) (by omega) ?_; intro w2 hown hgr)
    have hgw2 : w.grownBy w2 (some p) := grown_new hg1 hgr (fun b h => by cases h)
    have hrd2 : Rd w2 p (.slice a code.length cap) code (i + 1) := hrd1.grown hgr (by simp)
    have hown2 : OwnB w2 w.heap.size (.slice (some ⟨w1.heap.size, 0, none⟩) 0 (dataLen c)) [] := hown.mono (by have := unhide HZ; omega)
    clear hown hgr hrd1 hg1
    go_loopw [3, 4] (fun n v wr => ∃ m : Nat, m ≤ dataLen c ∧ n = .int .i64 ((dataLen c - m : Nat) : Int) ∧ OwnB wr w.heap.size v ((dataAt code i).take m) ∧ Rd wr p (.slice a code.length cap) code (i + 1 + m) ∧ w.grownBy wr (some p)) (fun n _ _ => (intOf n).toNat)
    case atStart => exact ⟨0, Nat.zero_le _, val_int (by have := unhide HN; omega), by rw [List.take_zero]; exact hown2, hrd2, hgw2⟩
    case round =>
      obtain ⟨m, hm, rfl, hov, hrdm, hgm⟩ := hrel
      clear hown2 hrd2 hgw2
      have hsz := hgm.size
      by_cases hlt : m < dataLen c
      · have hbm : Below w0.heap.size w0 wr := hw.trans ((Below.refl _ _).grown hgm hw.size (fun k h => by simp at h; omega))
        have hx' := nx_lt hb (i + 1 + m)
        have ht := unhide HT m hlt
        have HT' := hide ht
        have hpos : (0 : Int) < ((dataLen c - m : Nat) : Int) := by omega
        clear ht
        go_wp2_with fail
        refine (next_any p a cap code (i + 1 + m) wr hl (hr.below hbm) hb hrdm).mono ?_
        rintro e w3 ⟨rfl, hrd3, hg3, -⟩
        have ho3 : OwnB w3 w.heap.size u4 ((dataAt code i).take m) := World.ownsRow.kept hov hg3 (own_ne hov hpl)
        have hs3 := hg3.size
        generalize nx code (i + 1 + m) = x at hx' HT' ⊢
        have hrow := row_alloc1 w3 (x : Int) x rfl
        have ho3' := ho3.alloc (.cells #[.int .u8 (x : Int)] 5)
        have hlen := hide (dataAt_len code i m)
        go_wp2_with (at_builtin; refine wpList_append_bytes _ rfl _ _ rfl w.heap.size u4 ((dataAt code i).take m) [x] rfl ho3' _ _ rfl hrow (by simp) (by have := unhide hlen; have := unhide HL; simp; omega) (by simp; omega) ?_; intro v5 w5 ho5 hg5)
        have hrd5 : Rd w5 p (.slice a code.length cap) code (i + 1 + m + 1) := (hrd3.below ((Below.refl _ _).alloc (Nat.le_refl _) _) hrd3.lt).grown hg5 (own_ne' hov hpl)
        have hg5' : w.grownBy w5 (some p) := grown_new (grown_trans hgm (grown_new hg3 (World.grownBy_alloc w3 _ none) (fun b h => by cases h))) hg5 (fun b h => (World.ownsRow.lt hov b h).1)
        rw [← unhide HT'] at ho5
        go_roundw
        case rel => exact ⟨m + 1, by omega, val_int (by omega), ho5, by rw [← Nat.add_assoc]; exact hrd5, hg5'⟩
        case measure => simp [intOf]; omega
      · have hme : m = dataLen c := by omega
        have hz0 : dataLen c - m = 0 := by omega
        rw [hme] at hov hrdm
        rw [List.take_of_length_le (by rw [unhide HL]; exact Nat.le_refl _)] at hov
        rw [hz0]
        go_wp2
        go_ret
        exact ⟨_, rfl, hov, by rw [unhide HC]; exact hrdm, hgm⟩
end Go.Proofs.Ytokcdpamcbpaiab
