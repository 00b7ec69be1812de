import Derived.Test.YtpccongphchagaaGreatDoorPkb
import Derived.Test.YtpccongphchagaaGreatDoorPka
import Derived.Laws.Concat
import Derived.Lib.ItoaMem
import Derived.Lib.Walk
import Derived.BigCall
import Derived.BigGuard
import Derived.Lib.Builder
import Derived.Deep.DeepCutAuto
namespace Go.Proofs.YtpccongphchagaaGreatDoor
open Go.RowKit Go.Sort Go.Lib
/-- The decimal of u, as a string. -/
def decS (u : Nat) : ByteArray := ⟨(Lib.decDigits u).toArray⟩
/-- What l1Dec still has to write, m ahead of t. -/
def decT (m : Nat) (t : List UInt8) : List UInt8 := if m = 0 then t else Lib.decDigits m ++ t
theorem decT_step (m : Nat) (t : List UInt8) (h : 0 < m) : decT (m / 10) (UInt8.ofNat (48 + m % 10) :: t) = decT m t := by
  by_cases h10 : m < 10
  · have h1 : m / 10 = 0 := by omega
    have h2 : m % 10 = m := by omega
    unfold decT
    rw [h1, h2, if_pos rfl, if_neg (by omega), Lib.decDigits_one h10]
    rfl
  · unfold decT
    rw [if_neg (by omega), if_neg (by omega)]
    conv => rhs; rw [Lib.decDigits, dif_neg h10]
    simp
theorem nd20 (u : Nat) (h : u < 18446744073709551616) : Lib.nDigits u ≤ 20 := by
  by_cases h0 : 1 ≤ u
  · have := Lib.numDigits_eq u h0 h
    split at this <;> omega
  · rw [Lib.nDigits_small (by omega)]; omega
theorem decT_len (m : Nat) (t : List UInt8) : t.length ≤ (decT m t).length := by
  unfold decT
  split
  · exact Nat.le_refl _
  · simp
theorem tabIs_below {w w' : World} {name : String} {k : IntKind} {zs : List Int} (h : TabIs Tryz.prog w name k zs) (hb : Below w.heap.size w w') : TabIs Tryz.prog w' name k zs := by
  unfold TabIs World.var? at *
  cases hg : Tryz.prog.globalNamed name with
  | none => simp [hg] at h
  | some g =>
    simp only [hg, Option.bind_some] at h ⊢
    have hlt : g < w.heap.size := by
      rcases Nat.lt_or_ge g w.heap.size with h' | h'
      · exact h'
      · rw [Array.getElem?_eq_none h'] at h; simp at h
    rw [hb.block g hlt]
    exact h
theorem below_grown (w : World) (k : Nat) (os : Array Obj) : Below w.heap.size w (grow (w.drewN k) os) := by
  refine ⟨rfl, rfl, rfl, ?_, fun j hj => ?_⟩
  · show w.heap.size ≤ (w.heap ++ os).size
    simp
  · show (w.heap ++ os)[j]? = w.heap[j]?
    rw [Array.getElem?_append_left hj]
theorem mk_add (a b : List UInt8) : (⟨a.toArray⟩ : ByteArray) ++ (⟨b.toArray⟩ : ByteArray) = ⟨(a ++ b).toArray⟩ := Go.ByteArray.mk_append_mk a b
theorem strB_one (x : Nat) : strB [x] = ⟨[UInt8.ofNat x].toArray⟩ := rfl
theorem decS_zero : decS 0 = ⟨#[48]⟩ := by unfold decS; rw [Lib.decDigits_one (by omega)]; rfl
set_option maxRecDepth 20000 in
theorem l1Dec_any (n : Nat) (w : World) (hn : n < 9223372036854775808) :
    Calls Tryz.prog 38 #[.int .i64 (n : Int)] w fun e w' => e = .returned (.string (decS n)) ∧ Below w.heap.size w w' := by
  by_cases h0 : n = 0
  · subst h0
    go_enter Tryz.func38, Tryz.ntmps38
    go_wp2
    go_ret
    exact ⟨by rw [decS_zero]; rfl, Below.refl _ _⟩
  · have hz : ¬ (n : Int) = 0 := by omega
    go_enter Tryz.func38, Tryz.ntmps38
    go_wp2
    go_loopw [0, 3] (fun v s wr => ∃ (m : Nat) (t : List UInt8), v = .int .i64 (m : Int) ∧ s = .string ⟨t.toArray⟩ ∧ m ≤ n ∧ Hid (decT m t = Lib.decDigits n) ∧ Below w.heap.size w wr) (fun v _ _ => (RowKit.intOf v).toNat)
    case atStart => exact ⟨n, [], rfl, rfl, Nat.le_refl _, by show _ = _; unfold decT; rw [if_neg h0, List.append_nil], Below.refl _ _⟩
    case round =>
      obtain ⟨m, t, rfl, rfl, hm, HT, hw⟩ := hrel
      have HW := hide hw
      have hle : t.length ≤ 20 := by
        have h1 := decT_len m t
        rw [HT.out, Lib.decDigits_length] at h1
        have h2 := nd20 n (by omega)
        omega
      clear hw
      by_cases h1 : 0 < m
      · have HS := hide ((decT_step m t h1).trans HT.out)
        have hi : (0 : Int) < (m : Int) := by omega
        clear HT
        have hcv : (convert 22 9 (.slice (some ⟨wr.heap.size, 0, none⟩) 1 1)).run Tryz.prog (wr.alloc (.cells #[.int .u8 (48 + (m : Int) % 10)] 5)) = .ok (.string ⟨[UInt8.ofNat (48 + m % 10)].toArray⟩) (wr.alloc (.cells #[.int .u8 (48 + (m : Int) % 10)] 5)) := by
          have h := run_string_of _ _ 1 [48 + m % 10] (row_one wr (48 + m % 10))
          rw [strB_one] at h
          have e : (((48 + m % 10 : Nat)) : Int) = 48 + (m : Int) % 10 := by omega
          rw [e] at h
          exact h
        have hb2 := hide (HW.out.alloc HW.out.size (.cells #[.int .u8 (48 + (m : Int) % 10)] 5))
        have hadd : (Op.stringOp .add ⟨[UInt8.ofNat (48 + m % 10)].toArray⟩ ⟨t.toArray⟩).run Tryz.prog (wr.alloc (.cells #[.int .u8 (48 + (m : Int) % 10)] 5)) = .ok (.string ⟨(UInt8.ofNat (48 + m % 10) :: t).toArray⟩) (wr.alloc (.cells #[.int .u8 (48 + (m : Int) % 10)] 5)) :=
          run_string_add_lists _ [UInt8.ofNat (48 + m % 10)] t (by simp) (by omega)
        generalize UInt8.ofNat (48 + m % 10) = x at HS hcv hadd
        generalize [x].toArray = xs at hcv hadd
        go_wp2
        go_roundw
        case rel => exact ⟨m / 10, x :: t, by congr 1, rfl, by omega, HS, hb2.out⟩
        case measure => simp [RowKit.intOf]; omega
      · have hi : ¬ (0 : Int) < (m : Int) := by omega
        have hm0 : m = 0 := by omega
        subst hm0
        go_wp2
        go_ret
        refine ⟨?_, HW.out⟩
        have h := HT.out
        unfold decT at h
        rw [if_pos rfl] at h
        unfold decS
        rw [← h]
        rfl
end Go.Proofs.YtpccongphchagaaGreatDoor
namespace Go.Proofs.YtpccongphchagaaGreatDoor
open Go.RowKit
/-- append of bytes, maybe none, that lie at some address. -/
theorem wpList_append_at {ops : Array Oper} {rest : List Oper} {o : Oper} {act : Act} {Q : Exit → Act → World → Prop} (w : World) (hgd : o.guard = none) (s x : Operand)
    (ho : o.op = .call { callee := .builtin .append, args := #[s, x], argTypes := #[22, 22] })
    (base : Nat) (v : Value) (l m : List Nat) (n : Nat) (hn : m.length = n) (hs : act.eval s = v) (hown : OwnB w base v l) (p : Addr) (c : Nat) (hx : act.eval x = .slice (some p) n c) (hr : RowAt w (some p) m)
    (hlen : l.length + m.length ≤ 1099511627776) (hbase : base ≤ w.heap.size)
    (h : ∀ v' w', OwnB w' base v' (l ++ m) → w.grownBy w' v.ownBlock → wpList Tryz.prog ops Q rest (act.put o.dst v') w') : wpList Tryz.prog ops Q (o :: rest) act w := by
  obtain ⟨i0, hi, hz0, hz1, hz2⟩ := info_parts Tryz.info5
  subst hn
  refine wpList_append_own w hgd s x 22 ho base 5 i0 (.int .u8 0) 1 1 Tryz.underlying22 hi hz0 hz1 hz2 rfl (by decide) v l.length (l.map bv) hs hown p m.length c (m.map bv) hx (by simp) ?_ ?_ (by unfold maxLen; omega) (by omega) hbase ?_
  · intro j u hj
    have hjm : j < m.length := by
      rcases Nat.lt_or_ge j m.length with h' | h'
      · exact h'
      · simp [List.getElem?_eq_none h'] at hj
    obtain ⟨b, off, e, hc⟩ := hr (by omega)
    simp only [Option.some.injEq] at e
    subst e
    rw [addr_add, hc j hjm]
    simp [hjm, bv] at hj
    rw [hj]
  · intro u hu
    simp only [List.mem_map] at hu
    obtain ⟨y, _, rfl⟩ := hu
    rfl
  · intro v' w' hown' hg _
    refine h v' w' ?_ hg
    unfold OwnB
    rw [List.length_append, List.map_append]
    exact hown'
end Go.Proofs.YtpccongphchagaaGreatDoor
namespace Go.Proofs.YtpccongphchagaaGreatDoor
open Go.RowKit
set_option linter.unusedVariables false
theorem nextW_any (p : Nat) (a : Option Addr) (cap : Nat) (code : List Nat) (i : Nat) (w : World) (hl : code.length ≤ 4194304) (hr : RowAt w a code) (hb : ∀ x ∈ code, x < 256) (hrd : Rd w p (.slice a code.length cap) code i) :
    Calls Tryz.prog 28 #[.pointer (some ⟨p, 0, none⟩)] w fun e w' => e = .returned (.int .i64 (nx code i : Int)) ∧ Rd w' p (.slice a code.length cap) code (i + 1) ∧ w.grownBy w' (some p) ∧ w'.heap.size = w.heap.size := by
  have c0 := hrd.c0
  have c1 := hrd.c1
  have f1 := hrd.fz 1
  by_cases hi : i < code.length
  · obtain ⟨b, off, rfl, hc⟩ := hr (by omega)
    have hck := hc i hi
    have hm : min i code.length = i := by omega
    rw [hm] at c1
    have hst := hrd.step hi
    have hnx : nx code i = code[i] := by simp [nx, hi]
    have HN := hide hnx
    have hx256 : code[i] < 256 := hb _ (List.getElem_mem hi)
    have HS := hide hst
    have hix : (i : Int) < (code.length : Int) := by omega
    have hdec : decide ((code.length : Int) ≤ (i : Int)) = false := by simp; omega
    clear hm hnx hst hc hr hrd
    go_enter Tryz.func28, Tryz.ntmps28
    go_wp2
    go_quiet (fail)
    go_wp2
    go_quiet (fail)
    go_wp2
    go_ret
    exact ⟨ret_int (by rw [unhide HN]), unhide HS, grown_drew0 (grown_setCell _ _ _ _), by simp⟩
  · have hm : min i code.length = code.length := by omega
    rw [hm] at c1
    go_enter Tryz.func28, Tryz.ntmps28
    go_wp2
    go_quiet (fail)
    go_wp2
    go_ret
    refine ⟨ret_int (by simp [nx, List.getElem?_eq_none (Nat.le_of_not_lt hi)]), ?_, grown_drew (grown_refl _ _) _, rfl⟩
    have e : min (i + 1) code.length = min i code.length := by omega
    have h2 : Rd w p (.slice a code.length cap) code (i + 1) := by unfold Rd; rw [e]; exact hrd
    exact h2
/-- What came in, perhaps doubled. -/
structure CodeW (w0 : World) (a : Option Addr) (code : List Nat) : Prop where
  len : code.length ≤ 4194304
  row : RowAt w0 a code
  byte : ∀ x ∈ code, x < 256
theorem next_w {wk w0 w : World} {p : Nat} {a : Option Addr} {cap : Nat} {code : List Nat} {i : Nat} (hc : CodeW w0 a code) (h : RdIn wk w0 w p a cap code i) :
    Calls Tryz.prog 28 #[.pointer (some ⟨p, 0, none⟩)] w fun e w' => e = .returned (.int .i64 (nx code i : Int)) ∧ RdIn wk w0 w' p a cap code (i + 1) := by
  refine (nextW_any p a cap code i w hc.len (hc.row.below h.low) hc.byte h.rd).mono ?_
  rintro e w' ⟨rfl, h1, h2, h3⟩
  have := h.above
  exact ⟨rfl, h1, h.low.trans ((Below.refl _ _).grown h2 h.low.size (fun k e => by simp at e; omega)), h.above, h.kp.trans ⟨h2.size, fun g hg hn => h2.block g hg (by simpa using hn)⟩⟩
theorem like_belowR {W0 W : World} (e1 : W.heap = W0.heap) (e2 : W.os = W0.os) (e3 : W.tape = W0.tape) (e4 : W.output = W0.output) : Below W0.heap.size W0 W := ⟨e2, e3, e4, by rw [e1]; exact Nat.le_refl _, fun k _ => by rw [e1]⟩
theorem more_w {wk w0 w : World} {p : Nat} {a : Option Addr} {cap : Nat} {code : List Nat} {i : Nat} (hc : CodeW w0 a code) (h : RdIn wk w0 w p a cap code i) :
    Calls Tryz.prog 40 #[.pointer (some ⟨p, 0, none⟩)] w fun e w' => (∃ b : Bool, e = .returned (.bool b)) ∧ RdIn wk w0 w' p a cap code i := by
  have c0 := h.rd.c0
  have c1 := h.rd.c1
  have hl := hc.len
  have HD := hide h
  generalize min i code.length = mi at c1
  clear h hc
  go_enter Tryz.func40, Tryz.ntmps40
  go_wp2
  go_quiet (fail)
  go_wp2
  go_ret
  exact ⟨⟨_, rfl⟩, HD.out.below (like_belowR rfl rfl rfl rfl)⟩
theorem decS_small (u : Nat) (h : u < 1000) : (decS u).size ≤ 20 := by
  show ((Lib.decDigits u).toArray).size ≤ 20
  rw [List.size_toArray, Lib.decDigits_length]
  exact nd20 u (by omega)
theorem pre_size (p t : ByteArray) (hp : p.size ≤ 4) (ht : t.size ≤ 20) : (p ++ t).size ≤ 40 := by rw [app_size]; omega
set_option maxRecDepth 20000 in
set_option maxHeartbeats 1000000 in
theorem l1Name_any (c : Nat) (w : World) (hc : c < 256) :
    Calls Tryz.prog 41 #[.int .i64 (c : Int)] w fun e w' => (∃ s, e = .returned (.string s) ∧ s.size ≤ 40) ∧ Below w.heap.size w w' := by
  have hr : ((c : Int) % 8) = ((c % 8 : Nat) : Int) := by omega
  have h8 : c % 8 < 8 := Nat.mod_lt _ (by omega)
  have hq : ((c : Int) / 8) = ((c / 8 : Nat) : Int) := by omega
  have hq4 : (((c / 8 : Nat) : Int) % 4) = ((c / 8 % 4 : Nat) : Int) := by omega
  have hq9 : (((c / 8 : Nat) : Int) % 9) = ((c / 8 % 9 : Nat) : Int) := by omega
  have HQ := hide hq
  have HQ4 := hide hq4
  have HQ9 := hide hq9
  clear hq hq4 hq9
  have D1 := hide (fun X : World => l1Dec_any (c / 8) X (by omega))
  have D2 := hide (fun X : World => l1Dec_any (c / 8 % 4) X (by omega))
  have D3 := hide (fun X : World => l1Dec_any (c / 8 % 9) X (by omega))
  have z1 := decS_small (c / 8) (by omega)
  have z2 := decS_small (c / 8 % 4) (by omega)
  have z3 := decS_small (c / 8 % 9) (by omega)
  generalize decS (c / 8) = s1 at D1 z1
  generalize decS (c / 8 % 4) = s2 at D2 z2
  generalize decS (c / 8 % 9) = s3 at D3 z3
  generalize hk : c % 8 = k at hr h8
  go_enter Tryz.func41, Tryz.ntmps41
  go_upto_region 2 with fail
  try rw [hr]
  clear hk hr
  rcases (show k = 0 ∨ k = 1 ∨ k = 2 ∨ k = 3 ∨ k = 4 ∨ k = 5 ∨ k = 6 ∨ k = 7 by omega) with rfl | rfl | rfl | rfl | rfl | rfl | rfl | rfl
  · go_wp2
    go_ret
    exact ⟨⟨_, rfl, by simp [ByteArray.size]⟩, Below.refl _ _⟩
  · go_wp2
    go_ret
    exact ⟨⟨_, rfl, by simp [ByteArray.size]⟩, Below.refl _ _⟩
  · go_wp2
    go_ret
    exact ⟨⟨_, rfl, by simp [ByteArray.size]⟩, Below.refl _ _⟩
  · go_wp2_with fail
    first | rw [HQ.out] | skip
    refine (D1.out w).mono ?_
    rintro e w1 ⟨rfl, hb⟩
    have HB := hide hb
    clear hb
    go_wp2
    go_ret
    exact ⟨⟨_, rfl, pre_size _ _ (Nat.le_of_ble_eq_true rfl) z1⟩, HB.out⟩
  · go_wp2_with fail
    first | rw [HQ.out, HQ4.out] | (rw [HQ4.out]) | skip
    refine (D2.out w).mono ?_
    rintro e w1 ⟨rfl, hb⟩
    have HB := hide hb
    clear hb
    go_wp2
    go_ret
    exact ⟨⟨_, rfl, pre_size _ _ (Nat.le_of_ble_eq_true rfl) z2⟩, HB.out⟩
  · go_wp2_with fail
    first | rw [HQ.out, HQ9.out] | (rw [HQ9.out]) | skip
    refine (D3.out w).mono ?_
    rintro e w1 ⟨rfl, hb⟩
    have HB := hide hb
    clear hb
    go_wp2
    go_ret
    exact ⟨⟨_, rfl, pre_size _ _ (Nat.le_of_ble_eq_true rfl) z3⟩, HB.out⟩
  · go_wp2_with fail
    first | rw [HQ.out, HQ9.out] | (rw [HQ9.out]) | skip
    refine (D3.out w).mono ?_
    rintro e w1 ⟨rfl, hb⟩
    have HB := hide hb
    clear hb
    go_wp2
    go_ret
    exact ⟨⟨_, rfl, pre_size _ _ (Nat.le_of_ble_eq_true rfl) z3⟩, HB.out⟩
  · go_wp2_with fail
    first | rw [HQ.out, HQ9.out] | (rw [HQ9.out]) | skip
    refine (D3.out w).mono ?_
    rintro e w1 ⟨rfl, hb⟩
    have HB := hide hb
    clear hb
    go_wp2
    go_ret
    exact ⟨⟨_, rfl, pre_size _ _ (Nat.le_of_ble_eq_true rfl) z3⟩, HB.out⟩
end Go.Proofs.YtpccongphchagaaGreatDoor
namespace Go.Proofs.YtpccongphchagaaGreatDoor
open Go.RowKit
/-- The entries 'es' (name, node) lie at 'a'. -/
def EntAt (w : World) (a : Option Addr) (es : List (ByteArray × Int)) : Prop :=
  0 < es.length → ∃ b off, a = some ⟨b, off, none⟩ ∧ ∀ i (h : i < es.length), w.cell? ⟨b, off + i * 2, none⟩ = some (.string es[i].1) ∧ w.cell? ⟨b, off + i * 2 + 1, none⟩ = some (.int .i64 es[i].2)
theorem EntAt.below {w w' : World} {a : Option Addr} {es : List (ByteArray × Int)} (h : EntAt w a es) (hb : Below w.heap.size w w') : EntAt w' a es := fun hp => by
  obtain ⟨b, off, rfl, hc⟩ := h hp
  refine ⟨b, off, rfl, fun i hi => ?_⟩
  obtain ⟨h1, h2⟩ := hc i hi
  exact ⟨by rw [hb.cell (p := ⟨b, off + i * 2, none⟩) (lt_of_cell0 h1)]; exact h1, by rw [hb.cell (p := ⟨b, off + i * 2 + 1, none⟩) (lt_of_cell0 h2)]; exact h2⟩
/-- What is left of 'left' behind 'n'. -/
def szRest (left n : Nat) : Int := if left < n then -1 else ((left - n : Nat) : Int)
theorem szRest_neg {left n : Nat} (h : left < n) : szRest left n = -1 := if_pos h
theorem szRest_pos {left n : Nat} (h : n ≤ left) : szRest left n = (left : Int) - (n : Int) := by rw [szRest, if_neg (by omega)]; omega
def sumE : List (ByteArray × Int) → Nat
  | [] => 0
  | e :: es => e.1.size + sumE es
theorem sumE_append (a b : List (ByteArray × Int)) : sumE (a ++ b) = sumE a + sumE b := by
  induction a with
  | nil => simp [sumE]
  | cons x r ih => simp [sumE, ih]; omega
theorem sumE_take_succ (es : List (ByteArray × Int)) (k : Nat) (h : k < es.length) : sumE (es.take (k + 1)) = sumE (es.take k) + es[k].1.size := by
  rw [List.take_succ_eq_append_getElem h, sumE_append]; simp [sumE]
theorem sumE_take_le (es : List (ByteArray × Int)) (k : Nat) : sumE (es.take k) ≤ sumE es := by
  have h := sumE_append (es.take k) (es.drop k)
  rw [List.take_append_drop] at h; omega
end Go.Proofs.YtpccongphchagaaGreatDoor
namespace Go.Proofs.YtpccongphchagaaGreatDoor
open Go.RowKit
/-- The steps 'es' (kind, name, to, node) lie at 'a'. -/
def OpAt (w : World) (a : Option Addr) (es : List (Int × ByteArray × ByteArray × Int)) : Prop :=
  0 < es.length → ∃ b off, a = some ⟨b, off, none⟩ ∧ ∀ i (h : i < es.length), w.cell? ⟨b, off + i * 4, none⟩ = some (.int .i64 es[i].1) ∧ w.cell? ⟨b, off + i * 4 + 1, none⟩ = some (.string es[i].2.1) ∧ w.cell? ⟨b, off + i * 4 + 2, none⟩ = some (.string es[i].2.2.1) ∧ w.cell? ⟨b, off + i * 4 + 3, none⟩ = some (.int .i64 es[i].2.2.2)
theorem OpAt.below {w w' : World} {a : Option Addr} {es : List (Int × ByteArray × ByteArray × Int)} (h : OpAt w a es) (hb : Below w.heap.size w w') : OpAt w' a es := fun hp => by
  obtain ⟨b, off, rfl, hc⟩ := h hp
  refine ⟨b, off, rfl, fun i hi => ?_⟩
  obtain ⟨h1, h2, h3, h4⟩ := hc i hi
  exact ⟨by rw [hb.cell (p := ⟨b, off + i * 4, none⟩) (lt_of_cell0 h1)]; exact h1, by rw [hb.cell (p := ⟨b, off + i * 4 + 1, none⟩) (lt_of_cell0 h2)]; exact h2, by rw [hb.cell (p := ⟨b, off + i * 4 + 2, none⟩) (lt_of_cell0 h3)]; exact h3, by rw [hb.cell (p := ⟨b, off + i * 4 + 3, none⟩) (lt_of_cell0 h4)]; exact h4⟩
def sumO : List (Int × ByteArray × ByteArray × Int) → Nat
  | [] => 0
  | e :: es => e.2.1.size + e.2.2.1.size + sumO es
theorem sumO_append (a b : List (Int × ByteArray × ByteArray × Int)) : sumO (a ++ b) = sumO a + sumO b := by
  induction a with
  | nil => simp [sumO]
  | cons x r ih => simp [sumO, ih]; omega
theorem sumO_take_succ (es : List (Int × ByteArray × ByteArray × Int)) (k : Nat) (h : k < es.length) : sumO (es.take (k + 1)) = sumO (es.take k) + (es[k].2.1.size + es[k].2.2.1.size) := by
  rw [List.take_succ_eq_append_getElem h, sumO_append]; simp [sumO]
theorem sumO_take_le (es : List (Int × ByteArray × ByteArray × Int)) (k : Nat) : sumO (es.take k) ≤ sumO es := by
  have h := sumO_append (es.take k) (es.drop k)
  rw [List.take_append_drop] at h; omega
end Go.Proofs.YtpccongphchagaaGreatDoor
