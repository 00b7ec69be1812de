import Derived.Test.YtokcdpamcbpaiabRdr
import Derived.Test.YtokcdpamcbpaiabAppAt
import Derived.Lib.AppendStr
namespace Go.Proofs.Ytokcdpamcbpaiab
open Go.RowKit
/-- The bytes of a string. -/
def strL (s : ByteArray) : List Nat := s.data.toList.map (·.toNat)
theorem strL_length (s : ByteArray) : (strL s).length = s.size := by unfold strL; rw [List.length_map, Array.length_toList]; rfl
theorem strL_byte (s : ByteArray) : ∀ x ∈ strL s, x < 256 := by
  intro x hx
  unfold strL at hx
  obtain ⟨b, _, rfl⟩ := List.mem_map.1 hx
  exact b.toNat_lt
theorem strL_cells (s : ByteArray) : Lib.strCells s = (strL s).map bv := by
  unfold Lib.strCells strL bv
  rw [List.map_map]
  rfl
theorem wpList_append_str {ops : Array Oper} {rest : List Oper} {o : Oper} {act : Act} {Q : Exit → Act → World → Prop} (w : World) (hgd : o.guard = none) (s x : Operand)
    (ho : o.op = .call { callee := .builtin .append, args := #[s, x], argTypes := #[22, 9] })
    (base : Nat) (v : Value) (l : List Nat) (t : ByteArray) (hs : act.eval s = v) (hown : OwnB w base v l) (hx : act.eval x = .string t)
    (hlen : l.length + t.size ≤ 1099511627776) (hbase : base ≤ w.heap.size)
    (h : ∀ v' w', OwnB w' base v' (l ++ strL t) → w.grownBy w' v.ownBlock → wpList Try.prog ops Q rest (act.put o.dst v') w') : wpList Try.prog ops Q (o :: rest) act w := by
  obtain ⟨i0, hi, hz0, hz1, hz2⟩ := info_parts Try.info5
  refine Lib.wpList_append_own_string (P := Try.prog) w hgd s x 22 9 ho base 5 i0 Try.underlying22 Try.underlying9 hi hz0 hz1 hz2 v l.length (l.map bv) hs hown t hx (by unfold maxLen; omega) (by omega) hbase ?_
  intro v' w' hown' hg _
  refine h v' w' ?_ hg
  unfold OwnB
  rw [List.length_append, List.map_append, strL_length, ← strL_cells]
  exact hown'
theorem word_size (n : Nat) : (ByteArray.extract ⟨#[119, 111, 114, 100, 32]⟩ 0 n).size ≤ 5 := by
  rw [ByteArray.size_extract]
  exact Nat.le_trans (Nat.sub_le _ _) (Nat.min_le_right _ _)
/-- A body on its way: at most n bytes, the reader somewhere. -/
def QB (w wr : World) (p : Nat) (cv : Value) (code : List Nat) (v : Value) (n : Nat) : Prop := ∃ l j, OwnB wr w.heap.size v l ∧ l.length ≤ n ∧ (∀ x ∈ l, x < 256) ∧ Rd wr p cv code j ∧ w.grownBy wr (some p)
theorem qb_more {w wr w6 : World} {p : Nat} {cv : Value} {code : List Nat} {v v6 : Value} {n j : Nat} {l m : List Nat} (hp : p < w.heap.size) (ho : OwnB wr w.heap.size v l) (hl : l.length ≤ n) (hb : ∀ x ∈ l, x < 256) (hr : Rd wr p cv code j) (hg : w.grownBy wr (some p)) (hm : m.length ≤ 10) (hmb : ∀ x ∈ m, x < 256)
    (h6 : OwnB w6 w.heap.size v6 (l ++ m)) (hg6 : wr.grownBy w6 v.ownBlock) : QB w w6 p cv code v6 (n + 10) :=
  ⟨l ++ m, j, h6, by rw [List.length_append]; omega, fun x hx => (List.mem_append.1 hx).elim (hb x) (hmb x), hr.grown hg6 (own_ne' ho hp), grown_new hg hg6 (fun b e => (World.ownsRow.lt ho b e).1)⟩
theorem one_row (W : World) (x : Nat) : RowAt (W.alloc (.cells #[.int .u8 (x : Int)] 5)) (some ⟨W.heap.size, 0, none⟩) [x] := fun _ => by
  refine ⟨_, _, rfl, fun i hi => ?_⟩
  have h := heap_alloc_new W (.cells #[.int .u8 (x : Int)] 5)
  rw [cell_of_row _ _ _ _ _ _ h]
  obtain rfl : i = 0 := by simpa using hi
  rfl
theorem two_row (W : World) (x y : Nat) : RowAt (W.alloc (.cells #[.int .u8 (x : Int), .int .u8 (y : Int)] 5)) (some ⟨W.heap.size, 0, none⟩) [x, y] := fun _ => by
  refine ⟨_, _, rfl, fun i hi => ?_⟩
  have h := heap_alloc_new W (.cells #[.int .u8 (x : Int), .int .u8 (y : Int)] 5)
  rw [cell_of_row _ _ _ _ _ _ h]
  match i, hi with
  | 0, _ => rfl
  | 1, _ => rfl
/-- A body on its way keeps when a new block comes. -/
theorem qb_new {w wr w6 : World} {p : Nat} {cv : Value} {code : List Nat} {v v6 : Value} {n j : Nat} {l m : List Nat} (o : Obj) (hp : p < w.heap.size) (ho : OwnB wr w.heap.size v l) (hl : l.length ≤ n) (hb : ∀ x ∈ l, x < 256) (hr : Rd wr p cv code j) (hg : w.grownBy wr (some p)) (hm : m.length ≤ 10) (hmb : ∀ x ∈ m, x < 256)
    (h6 : OwnB w6 w.heap.size v6 (l ++ m)) (hg6 : (wr.alloc o).grownBy w6 v.ownBlock) : QB w w6 p cv code v6 (n + 10) := by
  have hB := (Below.refl wr.heap.size wr).alloc (Nat.le_refl _) o
  have hs := hg.size
  exact qb_more hp (ho.below hB (Nat.le_refl _)) hl hb (hr.below hB hr.lt) ⟨hB.os.trans hg.os, hB.tape.trans hg.tape, hB.output.trans hg.output, Nat.le_trans hg.size hB.size, fun k hk hne => (hB.block k (by omega)).trans (hg.block k hk hne)⟩ hm hmb h6 hg6
set_option maxRecDepth 20000 in
set_option maxHeartbeats 4000000 in
theorem l3Body_any (p : Nat) (a : Option Addr) (cap : Nat) (code : List Nat) (i : Nat) (w0 w : World) (hl : code.length ≤ 1048576) (hr : RowAt w0 a code) (hw : Below w0.heap.size w0 w) (hp : w0.heap.size ≤ p) (hb : ∀ x ∈ code, x < 256) (hrd : Rd w p (.slice a code.length cap) code i) :
    Calls Try.prog 29 #[.pointer (some ⟨p, 0, none⟩)] w fun e w' => ∃ v, e = .returned v ∧ QB w w' p (.slice a code.length cap) code v 60 := by
  have hpl := hrd.lt
  have hx := nx_lt hb i
  have HB := hide hb
  have HR := hide hr
  have HW := hide hw
  go_enter Try.func29, Try.ntmps29
  go_wp2_with fail
  refine (next_any p a cap code i w hl (hr.below hw) hb hrd).mono ?_
  rintro e w1 ⟨rfl, hrd1, hg1, hz⟩
  have HQ0 := hide (show QB w w1 p (.slice a code.length cap) code (.slice none 0 0) ((6 - nx code i % 7) * 10) from ⟨[], i + 1, OwnB.nil _ _, Nat.zero_le _, (fun x h => by cases h), hrd1, hg1⟩)
  clear hrd1 hg1 hz hb hr hrd hw
  have hm6 : nx code i % 7 ≤ 6 := by have := Nat.mod_lt (nx code i) (show 0 < 7 by decide); omega
  generalize nx code i = c0 at hx HQ0 hm6 ⊢
  go_wp2
  go_loopw [3, 4, 5] (fun v n _ wr => ∃ m : Nat, m ≤ 6 ∧ n = .int .i64 (m : Int) ∧ QB w wr p (.slice a code.length cap) code v ((6 - m) * 10)) (fun _ n _ _ => (intOf n).toNat)
  case atStart => exact ⟨c0 % 7, hm6, val_int (by omega), HQ0.out⟩
  case round =>
    obtain ⟨m, hm, rfl, l, j, ho, hll, hlb, hrdj, hgj⟩ := hrel
    clear HQ0
    have hsz := hgj.size
    by_cases hm0 : 0 < m
    · have hmi : (0 : Int) < (m : Int) := by omega
      have hbm : Below w0.heap.size w0 wr := HW.out.trans ((Below.refl _ _).grown hgj HW.out.size (fun k h => by simp at h; omega))
      have hx' := nx_lt HB.out j
      have NX := hide (next_any p a cap code j wr hl (HR.out.below hbm) HB.out hrdj)
      have HG := hide hgj
      have HO := hide ho
      have HLB := hide hlb
      clear hrdj hbm hlb hgj ho
      go_wp2_with fail
      refine (NX.out).mono ?_
      rintro e w3 ⟨rfl, hrd3, hg3, hz3⟩
      have hg3' : w.grownBy w3 (some p) := grown_trans HG.out hg3
      have ho3 : OwnB w3 w.heap.size u3 l := World.ownsRow.kept HO.out hg3 (own_ne HO.out hpl)
      have HQ := hide (fun (v6 : Value) (w6 : World) (t : List Nat) (ht : t.length ≤ 10) (htb : ∀ x ∈ t, x < 256) (h6 : OwnB w6 w.heap.size v6 (l ++ t)) (hg6 : w3.grownBy w6 u3.ownBlock) => qb_more (n := (6 - m) * 10) hpl ho3 hll HLB.out hrd3 hg3' ht htb h6 hg6)
      have HQN := hide (fun (o : Obj) (v6 : Value) (w6 : World) (t : List Nat) (ht : t.length ≤ 10) (htb : ∀ x ∈ t, x < 256) (h6 : OwnB w6 w.heap.size v6 (l ++ t)) (hg6 : (w3.alloc o).grownBy w6 u3.ownBlock) => qb_new (n := (6 - m) * 10) o hpl ho3 hll HLB.out hrd3 hg3' ht htb h6 hg6)
      have HO3 := hide ho3
      have hs3 : w.heap.size ≤ w3.heap.size := hg3'.size
      have hN : (6 - m) * 10 + 10 = (6 - (m - 1)) * 10 := by omega
      have HON := hide (fun o : Obj => ho3.below ((Below.refl w3.heap.size w3).alloc (Nat.le_refl _) o) (Nat.le_refl _))
      rw [hN] at HQ HQN
      clear NX HG HO HLB hrd3 hg3 hz3 hg3' ho3 hN
      generalize nx code j = c at hx' ⊢
      have hl60 : l.length ≤ 60 := by omega
      have hms : ((m - 1 : Nat) : Int) = (m : Int) - 1 := by omega
      have hc12 : c % 12 < 12 := Nat.mod_lt _ (by decide)
      have hci : (c : Int) % 12 = ((c % 12 : Nat) : Int) := by omega
      generalize hd12 : c % 12 = d at hc12 hci
      match d, hc12 with
      | 0, _ =>
        have hk : (c : Int) % 12 = 0 := by omega
        clear hci hd12
        go_wp2_with (at_builtin; refine wpList_append_str _ rfl (.tmp 26) (.const (.string ⟨#[70, 114, 111, 109, 32, 109, 97, 105, 108, 10]⟩)) rfl w.heap.size u3 l ⟨#[70, 114, 111, 109, 32, 109, 97, 105, 108, 10]⟩ rfl HO3.out rfl (by show l.length + 10 ≤ _; omega) hs3 ?_; intro v6 w6 ho6 hg6)
        go_roundw
        case rel => exact ⟨m - 1, by omega, val_int (by omega), HQ.out v6 w6 _ (by rw [strL_length]; show 10 ≤ 10; omega) (strL_byte _) ho6 hg6⟩
        case measure => simp [intOf]; omega
      | 1, _ =>
        have hk : (c : Int) % 12 = 1 := by omega
        clear hci hd12
        go_wp2_with (at_builtin; refine wpList_append_str _ rfl (.tmp 30) (.const (.string ⟨#[62, 70, 114, 111, 109, 32, 120, 10]⟩)) rfl w.heap.size u3 l ⟨#[62, 70, 114, 111, 109, 32, 120, 10]⟩ rfl HO3.out rfl (by show l.length + 8 ≤ _; omega) hs3 ?_; intro v6 w6 ho6 hg6)
        go_roundw
        case rel => exact ⟨m - 1, by omega, val_int (by omega), HQ.out v6 w6 _ (by rw [strL_length]; show 8 ≤ 10; omega) (strL_byte _) ho6 hg6⟩
        case measure => simp [intOf]; omega
      | 2, _ =>
        have hk : (c : Int) % 12 = 2 := by omega
        clear hci hd12
        go_wp2_with (at_builtin; refine wpList_append_str _ rfl (.tmp 34) (.const (.string ⟨#[62, 62, 70, 114, 111, 109, 32]⟩)) rfl w.heap.size u3 l ⟨#[62, 62, 70, 114, 111, 109, 32]⟩ rfl HO3.out rfl (by show l.length + 7 ≤ _; omega) hs3 ?_; intro v6 w6 ho6 hg6)
        go_roundw
        case rel => exact ⟨m - 1, by omega, val_int (by omega), HQ.out v6 w6 _ (by rw [strL_length]; show 7 ≤ 10; omega) (strL_byte _) ho6 hg6⟩
        case measure => simp [intOf]; omega
      | 3, _ =>
        have hk : (c : Int) % 12 = 3 := by omega
        clear hci hd12
        have HR1 := hide (one_row w3 10)
        go_wp2_with (at_builtin; refine wpList_append_at _ rfl (.tmp 38) (.tmp 39) rfl w.heap.size u3 l [10] 1 rfl rfl (HON.out _) ⟨w3.heap.size, 0, none⟩ 1 rfl HR1.out (by simp; omega) (by simp; omega) ?_; intro v6 w6 ho6 hg6)
        go_roundw
        case rel => exact ⟨m - 1, by omega, val_int (by omega), HQN.out _ v6 w6 [10] (by simp) (by simp) ho6 hg6⟩
        case measure => simp [intOf]; omega
      | 4, _ =>
        have hk : (c : Int) % 12 = 4 := by omega
        clear hci hd12
        go_wp2_with (at_builtin; refine wpList_append_str _ rfl (.tmp 43) (.const (.string ⟨#[46, 13, 10]⟩)) rfl w.heap.size u3 l ⟨#[46, 13, 10]⟩ rfl HO3.out rfl (by show l.length + 3 ≤ _; omega) hs3 ?_; intro v6 w6 ho6 hg6)
        go_roundw
        case rel => exact ⟨m - 1, by omega, val_int (by omega), HQ.out v6 w6 _ (by rw [strL_length]; show 3 ≤ 10; omega) (strL_byte _) ho6 hg6⟩
        case measure => simp [intOf]; omega
      | 5, _ =>
        have hk : (c : Int) % 12 = 5 := by omega
        clear hci hd12
        have hcw : IntKind.u8.wrap (c : Int) = (c : Int) := by rw [show IntKind.u8.wrap (c : Int) = (c : Int) % 256 from rfl]; omega
        have HR1 := hide (two_row w3 0 c)
        go_wp2_with (at_builtin; refine wpList_append_at _ rfl (.tmp 47) (.tmp 50) rfl w.heap.size u3 l [0, c] 2 rfl rfl (HON.out _) ⟨w3.heap.size, 0, none⟩ 2 rfl HR1.out (by simp; omega) (by simp; omega) ?_; intro v6 w6 ho6 hg6)
        go_roundw
        case rel => exact ⟨m - 1, by omega, val_int (by omega), HQN.out _ v6 w6 [0, c] (by simp) (by simp; omega) ho6 hg6⟩
        case measure => simp [intOf]; omega
      | 6, _ =>
        have hk : (c : Int) % 12 = 6 := by omega
        clear hci hd12
        go_wp2_with (at_builtin; refine wpList_append_str _ rfl (.tmp 54) (.const (.string ⟨#[70, 114, 111, 109]⟩)) rfl w.heap.size u3 l ⟨#[70, 114, 111, 109]⟩ rfl HO3.out rfl (by show l.length + 4 ≤ _; omega) hs3 ?_; intro v6 w6 ho6 hg6)
        go_roundw
        case rel => exact ⟨m - 1, by omega, val_int (by omega), HQ.out v6 w6 _ (by rw [strL_length]; show 4 ≤ 10; omega) (strL_byte _) ho6 hg6⟩
        case measure => simp [intOf]; omega
      | 7, _ =>
        have hk : (c : Int) % 12 = 7 := by omega
        clear hci hd12
        go_wp2_with (at_builtin; refine wpList_append_str _ rfl (.tmp 58) (.const (.string ⟨#[46, 46, 97, 10]⟩)) rfl w.heap.size u3 l ⟨#[46, 46, 97, 10]⟩ rfl HO3.out rfl (by show l.length + 4 ≤ _; omega) hs3 ?_; intro v6 w6 ho6 hg6)
        go_roundw
        case rel => exact ⟨m - 1, by omega, val_int (by omega), HQ.out v6 w6 _ (by rw [strL_length]; show 4 ≤ 10; omega) (strL_byte _) ho6 hg6⟩
        case measure => simp [intOf]; omega
      | 8, _ =>
        have hk : (c : Int) % 12 = 8 := by omega
        clear hci hd12
        have HR1 := hide (one_row w3 62)
        go_wp2_with (at_builtin; refine wpList_append_at _ rfl (.tmp 62) (.tmp 63) rfl w.heap.size u3 l [62] 1 rfl rfl (HON.out _) ⟨w3.heap.size, 0, none⟩ 1 rfl HR1.out (by simp; omega) (by simp; omega) ?_; intro v6 w6 ho6 hg6)
        go_roundw
        case rel => exact ⟨m - 1, by omega, val_int (by omega), HQN.out _ v6 w6 [62] (by simp) (by simp) ho6 hg6⟩
        case measure => simp [intOf]; omega
      | 9, _ =>
        have hk : (c : Int) % 12 = 9 := by omega
        clear hci hd12
        have hwz := word_size (1 + c / 12 % 5)
        go_wp2_with (at_builtin; refine wpList_append_str _ rfl (.tmp 17) (.tmp 22) rfl w.heap.size u3 l (ByteArray.extract ⟨#[119, 111, 114, 100, 32]⟩ 0 (1 + c / 12 % 5)) rfl HO3.out rfl (by omega) hs3 ?_; intro v6 w6 ho6 hg6)
        go_roundw
        case rel => exact ⟨m - 1, by omega, val_int (by omega), HQ.out v6 w6 _ (by rw [strL_length]; omega) (strL_byte _) ho6 hg6⟩
        case measure => simp [intOf]; omega
      | 10, _ =>
        have hk : (c : Int) % 12 = 10 := by omega
        clear hci hd12
        have hwz := word_size (1 + c / 12 % 5)
        go_wp2_with (at_builtin; refine wpList_append_str _ rfl (.tmp 17) (.tmp 22) rfl w.heap.size u3 l (ByteArray.extract ⟨#[119, 111, 114, 100, 32]⟩ 0 (1 + c / 12 % 5)) rfl HO3.out rfl (by omega) hs3 ?_; intro v6 w6 ho6 hg6)
        go_roundw
        case rel => exact ⟨m - 1, by omega, val_int (by omega), HQ.out v6 w6 _ (by rw [strL_length]; omega) (strL_byte _) ho6 hg6⟩
        case measure => simp [intOf]; omega
      | 11, _ =>
        have hk : (c : Int) % 12 = 11 := by omega
        clear hci hd12
        have hwz := word_size (1 + c / 12 % 5)
        go_wp2_with (at_builtin; refine wpList_append_str _ rfl (.tmp 17) (.tmp 22) rfl w.heap.size u3 l (ByteArray.extract ⟨#[119, 111, 114, 100, 32]⟩ 0 (1 + c / 12 % 5)) rfl HO3.out rfl (by omega) hs3 ?_; intro v6 w6 ho6 hg6)
        go_roundw
        case rel => exact ⟨m - 1, by omega, val_int (by omega), HQ.out v6 w6 _ (by rw [strL_length]; omega) (strL_byte _) ho6 hg6⟩
        case measure => simp [intOf]; omega
    · obtain rfl : m = 0 := by omega
      have HQ := hide (show QB w wr p (.slice a code.length cap) code u3 60 from ⟨l, j, ho, by omega, hlb, hrdj, hgj⟩)
      clear ho hlb hrdj hgj
      go_wp2
      go_ret
      exact ⟨_, rfl, HQ.out⟩
end Go.Proofs.Ytokcdpamcbpaiab
