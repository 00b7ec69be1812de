import Derived.Laws.BitsAllLaws
import Derived.Test.YtledlicandlekaaDoorRows
import Derived.WalkKit
import Derived.WalkSpells
import Derived.WalkLawsBesides
import Derived.Deep.QuietTactic
import Derived.BigQuiet
import Derived.Lib.IndexMore
import Derived.Lib.ParseIntB
import Derived.Lib.ItoaMem
import Derived.Laws.BytesArg
import Derived.Laws.Concat
import Derived.Lib.Walk
import Derived.BigCall
import Derived.BigGuard
namespace Go.Proofs.YtledlicandlekaaDoor
/-- One step of the sum: the lowest bit goes out, the polynomial comes in where it was set. -/
def crcStep (c : Nat) : Nat := if c % 2 = 1 then (c / 2) ^^^ 3988292384 else c / 2
/-- The steps of the program: m of them over a sum that has taken its byte in. -/
def crcSteps : Nat → Nat → Nat
  | 0, c => c
  | m + 1, c => crcStep (crcSteps m c)
/-- The steps of the specification: the byte's bits are taken in one by one. -/
def specStep (c b m : Nat) : Nat := if (c ^^^ (b >>> m)) % 2 = 1 then (c / 2) ^^^ 3988292384 else c / 2
def specSteps (c b : Nat) : Nat → Nat
  | 0 => c
  | m + 1 => specStep (specSteps c b m) b m
def crcByte (c b : Nat) : Nat := crcSteps 8 (c ^^^ b)
def crcFold (c : Nat) (l : List Nat) : Nat := l.foldl crcByte c
theorem pair_steps (c b m : Nat) : crcSteps m (c ^^^ b) = specSteps c b m ^^^ (b >>> m) := by
  induction m with
  | zero => simp [crcSteps, specSteps]
  | succ m ih =>
    have hs : b >>> (m + 1) = (b >>> m) / 2 := by rw [Nat.shiftRight_succ]
    simp only [crcSteps, specSteps, ih]
    unfold crcStep specStep
    generalize specSteps c b m = x
    rw [hs]
    generalize b >>> m = y
    have hd : (x ^^^ y) / 2 = (x / 2) ^^^ (y / 2) := Nat.xor_div_two
    rw [hd]
    split
    · rw [Nat.xor_assoc, Nat.xor_assoc, Nat.xor_comm 3988292384]
    · rfl
theorem spec_byte (c b : Nat) (hb : b < 256) : specSteps c b 8 = crcByte c b := by
  unfold crcByte
  rw [pair_steps]
  have : b >>> 8 = 0 := by rw [Nat.shiftRight_eq_div_pow]; omega
  rw [this, Nat.xor_zero]
theorem crcStep_lt (c : Nat) (h : c < 4294967296) : crcStep c < 4294967296 := by
  unfold crcStep
  split
  · exact Nat.xor_lt_two_pow (n := 32) (by omega) (by omega)
  · omega
theorem crcSteps_lt (m c : Nat) (h : c < 4294967296) : crcSteps m c < 4294967296 := by
  induction m with
  | zero => exact h
  | succ m ih => exact crcStep_lt _ ih
theorem specSteps_lt (c b m : Nat) (h : c < 4294967296) : specSteps c b m < 4294967296 := by
  induction m with
  | zero => exact h
  | succ m ih =>
    unfold specSteps specStep
    split
    · exact Nat.xor_lt_two_pow (n := 32) (by omega) (by omega)
    · omega
theorem crcByte_lt (c b : Nat) (h : c < 4294967296) (hb : b < 256) : crcByte c b < 4294967296 :=
  crcSteps_lt _ _ (Nat.xor_lt_two_pow (n := 32) (by omega) (by omega))
theorem crcFold_lt (l : List Nat) (hl : ∀ x ∈ l, x < 256) (c : Nat) (h : c < 4294967296) : crcFold c l < 4294967296 := by
  induction l generalizing c with
  | nil => exact h
  | cons x r ih => exact ih (fun y hy => hl y (List.mem_cons_of_mem _ hy)) _ (crcByte_lt c x h (hl x List.mem_cons_self))
theorem crcFold_snoc (c : Nat) (l : List Nat) (x : Nat) : crcFold c (l ++ [x]) = crcByte (crcFold c l) x := by
  simp [crcFold]
theorem cast_shr (x m : Nat) : ((x : Int) / 2 ^ m) = ((x >>> m : Nat) : Int) := by
  rw [Nat.shiftRight_eq_div_pow]; simp
theorem shr_lt (x m : Nat) (hx : x < 256) : x >>> m < 4294967296 := by
  rw [Nat.shiftRight_eq_div_pow]; exact Nat.lt_of_le_of_lt (Nat.div_le_self _ _) (by omega)
theorem spec_bit (c x m : Nat) (hc : c < 4294967296) (hx : x < 256) :
    bits .and .u32 (bits .xor .u32 (c : Int) ((x : Int) / 2 ^ m)) 1 = (((c ^^^ (x >>> m)) % 2 : Nat) : Int) := by
  have hs := shr_lt x m hx
  have hx2 : c ^^^ (x >>> m) < 4294967296 := Nat.xor_lt_two_pow (n := 32) (by omega) (by omega)
  rw [cast_shr, u32_xor_nat c _ hc hs]
  have h := u32_and_nat (c ^^^ (x >>> m)) 1 hx2 (by decide)
  rw [nat_mask1] at h
  exact h
theorem half_xor (c : Nat) (hc : c < 4294967296) : bits .xor .u32 ((c : Int) / 2) 3988292384 = (((c / 2) ^^^ 3988292384 : Nat) : Int) := by
  have h := u32_xor_nat (c / 2) 3988292384 (by omega) (by decide)
  have e : ((c : Int) / 2) = ((c / 2 : Nat) : Int) := by omega
  rw [e]; exact h
theorem spec_hit {c x m : Nat} (hc : c < 4294967296) (hx : x < 256) (h : (bits .and .u32 (bits .xor .u32 (c : Int) ((x : Int) / 2 ^ m)) 1 == 1) = true) :
    bits .xor .u32 ((c : Int) / 2) 3988292384 = ((specStep c x m : Nat) : Int) := by
  rw [spec_bit c x m hc hx] at h
  have h' : (c ^^^ (x >>> m)) % 2 = 1 := by simp at h; omega
  unfold specStep; rw [if_pos h']; exact half_xor c hc
theorem spec_miss {c x m : Nat} (hc : c < 4294967296) (hx : x < 256) (h : (bits .and .u32 (bits .xor .u32 (c : Int) ((x : Int) / 2 ^ m)) 1 == 1) = false) :
    ((c : Int) / 2) = ((specStep c x m : Nat) : Int) := by
  rw [spec_bit c x m hc hx] at h
  have h' : ¬ (c ^^^ (x >>> m)) % 2 = 1 := by simp at h; omega
  unfold specStep; rw [if_neg h']; omega
theorem low_bit (c : Nat) (hc : c < 4294967296) : bits .and .u32 (c : Int) 1 = ((c % 2 : Nat) : Int) := by
  have h := u32_and_nat c 1 hc (by decide)
  rw [nat_mask1] at h
  exact h
theorem step_hit {c : Nat} (hc : c < 4294967296) (h : (bits .and .u32 (c : Int) 1 == 1) = true) : bits .xor .u32 ((c : Int) / 2) 3988292384 = ((crcStep c : Nat) : Int) := by
  rw [low_bit c hc] at h
  have h' : c % 2 = 1 := by simp at h; omega
  unfold crcStep; rw [if_pos h']; exact half_xor c hc
theorem step_miss {c : Nat} (hc : c < 4294967296) (h : (bits .and .u32 (c : Int) 1 == 1) = false) : ((c : Int) / 2) = ((crcStep c : Nat) : Int) := by
  rw [low_bit c hc] at h
  have h' : ¬ c % 2 = 1 := by simp at h; omega
  unfold crcStep; rw [if_neg h']; omega
theorem xor_byte (c x : Nat) (hc : c < 4294967296) (hx : x < 256) : bits .xor .u32 (c : Int) (x : Int) = ((c ^^^ x : Nat) : Int) := u32_xor_nat c x hc (by omega)
def crcOf (l : List Nat) : Nat := 4294967295 ^^^ crcFold 4294967295 l
theorem crcOf_lt (l : List Nat) (hl : ∀ x ∈ l, x < 256) : crcOf l < 4294967296 :=
  Nat.xor_lt_two_pow (n := 32) (by decide) (crcFold_lt l hl _ (by decide))
theorem out_eq (c : Nat) (hc : c < 4294967296) : bits .xor .u32 IntKind.u32.max (c : Int) = ((4294967295 ^^^ c : Nat) : Int) := by
  have e : IntKind.u32.max = ((4294967295 : Nat) : Int) := by decide
  rw [e]; exact u32_xor_nat 4294967295 c (by decide) hc
theorem ret_int {k : IntKind} {a b : Int} (h : a = b) : Ending.returned (.int k a) = .returned (.int k b) := by rw [h]
theorem val_int {k : IntKind} {a b : Int} (h : a = b) : Value.int k a = .int k b := by rw [h]
end Go.Proofs.YtledlicandlekaaDoor
namespace Go.Proofs.YtledlicandlekaaDoor
open Go.RowKit
theorem hide {p : Prop} (h : p) : Hid p := h
theorem unhide {p : Prop} (h : Hid p) : p := h
/-- The bytes 'l' lie at 'a' (where there are any). -/
def RowAt (w : World) (a : Option Addr) (l : List Nat) : Prop :=
  0 < l.length → ∃ b off, a = some ⟨b, off, none⟩ ∧ ∀ i (h : i < l.length), w.cell? ⟨b, off + i, none⟩ = some (.int .u8 ((l[i] : Nat) : Int))
def bv (x : Nat) : Value := .int .u8 (x : Int)
/-- v is a slice of the call's own (its block is 'base' or later) that holds the bytes 'l'. -/
def OwnB (w : World) (base : Nat) (v : Value) (l : List Nat) : Prop := w.ownsRow base 5 1 v l.length (l.map bv)
theorem lt_of_cell0 {w : World} {a : Addr} {v : Value} (h : w.cell? a = some v) : a.block < w.heap.size := World.block_lt_of_cell? w a h
theorem RowAt.below {w w' : World} {a : Option Addr} {l : List Nat} (h : RowAt w a l) (hb : Below w.heap.size w w') : RowAt w' a l := fun hp => by
  obtain ⟨b, off, rfl, hc⟩ := h hp
  exact ⟨b, off, rfl, fun i hi => by rw [hb.cell (p := ⟨b, off + i, none⟩) (lt_of_cell0 (hc i hi))]; exact hc i hi⟩
theorem OwnB.slice {w : World} {base : Nat} {v : Value} {l : List Nat} (h : OwnB w base v l) : ∃ a cap, v = .slice a l.length cap := by
  rcases h.2 with ⟨rfl, hn⟩ | ⟨g, cap, cur, rfl, _⟩
  · exact ⟨none, 0, by rw [hn]⟩
  · exact ⟨_, cap, rfl⟩
theorem OwnB.row {w : World} {base : Nat} {a : Option Addr} {n cap : Nat} {l : List Nat} (h : OwnB w base (.slice a n cap) l) : RowAt w a l := fun hp => by
  rcases h.2 with ⟨_, hn⟩ | ⟨g, cap', cur, h', _, hg, hc, _, hs, htake⟩
  · omega
  · simp only [Value.slice.injEq] at h'
    obtain ⟨rfl, _, _⟩ := h'
    refine ⟨g, 0, rfl, fun i hi => ?_⟩
    rw [Nat.zero_add, cell_of_row w g i cur 5 (0, 0) hg]
    have e : cur.toList[i]? = (l.map bv)[i]? := by rw [← htake, List.getElem?_take, if_pos (by omega)]
    rw [← Array.getElem?_toList, e]
    simp [hi, bv]
theorem OwnB.below {B base : Nat} {w w' : World} {v : Value} {l : List Nat} (h : OwnB w base v l) (hb : Below B w w') (hB : w.heap.size ≤ B) : OwnB w' base v l := by
  refine ⟨h.1, ?_⟩
  rcases h.2 with hn | ⟨g, cap, cur, rfl, hbase, hg, rest⟩
  · exact .inl hn
  · exact .inr ⟨g, cap, cur, rfl, hbase, (hb.block g (Nat.lt_of_lt_of_le (lt_of_block hg) hB)).trans hg, rest⟩
theorem OwnB.nil (w : World) (base : Nat) : OwnB w base (.slice none 0 0) [] := World.ownsRow_nil w base 5 1
theorem OwnB.mono {w : World} {base base' : Nat} {v : Value} {l : List Nat} (h : OwnB w base v l) (hb : base' ≤ base) : OwnB w base' v l := by
  refine ⟨h.1, ?_⟩
  rcases h.2 with hn | ⟨g, cap, cur, rfl, hbase, rest⟩
  · exact .inl hn
  · exact .inr ⟨g, cap, cur, rfl, Nat.le_trans hb hbase, rest⟩
/-- Blocks outside [lo, hi) are as they were. -/
structure Out (lo hi : Nat) (w w' : World) : Prop where
  os : w'.os = w.os
  tape : w'.tape = w.tape
  output : w'.output = w.output
  size : w.heap.size ≤ w'.heap.size
  block : ∀ k, k < w.heap.size → k < lo ∨ hi ≤ k → w'.heap[k]? = w.heap[k]?
theorem Out.refl (lo hi : Nat) (w : World) : Out lo hi w w := ⟨rfl, rfl, rfl, Nat.le_refl _, fun _ _ _ => rfl⟩
theorem Out.trans {lo hi : Nat} {a b c : World} (h : Out lo hi a b) (k : Out lo hi b c) : Out lo hi a c :=
  ⟨k.os.trans h.os, k.tape.trans h.tape, k.output.trans h.output, Nat.le_trans h.size k.size, fun i hi ho => (k.block i (Nat.lt_of_lt_of_le hi h.size) ho).trans (h.block i hi ho)⟩
theorem Out.of_grown {lo hi : Nat} {w w' : World} {row : Option Nat} (h : w.grownBy w' row) (hr : ∀ k, row = some k → lo ≤ k ∧ k < hi) : Out lo hi w w' :=
  ⟨h.os, h.tape, h.output, h.size, fun k hk ho => h.block k hk (fun e => by have := hr k e.symm; omega)⟩
theorem Out.below {lo hi B : Nat} {w w' : World} (h : Out lo hi w w') (h1 : B ≤ lo) (h2 : B ≤ w.heap.size) : Below B w w' :=
  ⟨h.os, h.tape, h.output, h.size, fun k hk => h.block k (by omega) (.inl (by omega))⟩
theorem Out.mono {lo hi lo' hi' : Nat} {w w' : World} (h : Out lo hi w w') (h1 : lo' ≤ lo) (h2 : hi ≤ hi') : Out lo' hi' w w' :=
  ⟨h.os, h.tape, h.output, h.size, fun k hk ho => h.block k hk (by omega)⟩
theorem Out.of_below {lo hi : Nat} {w w' : World} (h : Below w.heap.size w w') : Out lo hi w w' := ⟨h.os, h.tape, h.output, h.size, fun k hk _ => h.block k hk⟩
theorem OwnB.out {lo hi base : Nat} {w w' : World} {v : Value} {l : List Nat} (h : OwnB w base v l) (ho : Out lo hi w w') (hb : hi ≤ base) : OwnB w' base v l := by
  refine ⟨h.1, ?_⟩
  rcases h.2 with hn | ⟨g, cap, cur, rfl, hbase, hg, rest⟩
  · exact .inl hn
  · exact .inr ⟨g, cap, cur, rfl, hbase, (ho.block g (lt_of_block hg) (.inr (Nat.le_trans hb hbase))).trans hg, rest⟩
theorem grown_trans {w w1 w2 : World} {row : Option Nat} (h : w.grownBy w1 row) (k : w1.grownBy w2 row) : w.grownBy w2 row :=
  ⟨k.os.trans h.os, k.tape.trans h.tape, k.output.trans h.output, Nat.le_trans h.size k.size, fun i hi ho => (k.block i (Nat.lt_of_lt_of_le hi h.size) ho).trans (h.block i hi ho)⟩
theorem grown_refl (w : World) (row : Option Nat) : w.grownBy w row := ⟨rfl, rfl, rfl, Nat.le_refl _, fun _ _ _ => rfl⟩
theorem addr_add (b off i : Nat) : Addr.add ⟨b, off, none⟩ i = ⟨b, off + i, none⟩ := by
  unfold Addr.add; split
  · next h => subst h; rfl
  · rfl
theorem ret_bool {a b : Bool} (h : a = b) : Ending.returned (.bool a) = .returned (.bool b) := by rw [h]
theorem Tryd.info5 : (Tryd.prog.info? 5).map (fun i => (i.zero, i.size, i.bytes)) = some (some (.int .u8 0), 1, 1) := by kernel_rfl
/-- append of bytes that lie somewhere onto a slice of the call's own. -/
theorem wpList_append_bytes {ops : Array Oper} {rest : List Oper} {o : Oper} {act : Act} {Q : Exit → Act → World → Prop} (w : World) (hgd : o.guard = none) (s x : Operand)
    (ho : o.op = .call { callee := .builtin .append, args := #[s, x], argTypes := #[22, 22] })
    (base : Nat) (v : Value) (l m : List Nat) (hs : act.eval s = v) (hown : OwnB w base v l) (ad : Option Addr) (c : Nat) (hx : act.eval x = .slice ad m.length c) (hr : RowAt w ad m) (hm : 0 < m.length)
    (hlen : l.length + m.length ≤ 1099511627776) (hbase : base ≤ w.heap.size)
    (h : ∀ v' w', OwnB w' base v' (l ++ m) → w.grownBy w' v.ownBlock → wpList Tryd.prog ops Q rest (act.put o.dst v') w') : wpList Tryd.prog ops Q (o :: rest) act w := by
  obtain ⟨i0, hi, hz0, hz1, hz2⟩ := info_parts Tryd.info5
  obtain ⟨b, off, rfl, hc⟩ := hr hm
  refine wpList_append_own w hgd s x 22 ho base 5 i0 (.int .u8 0) 1 1 Tryd.underlying22 hi hz0 hz1 hz2 rfl (by decide) v l.length (l.map bv) hs hown ⟨b, off, none⟩ m.length c (m.map bv) hx (by simp) ?_ ?_ (by unfold maxLen; omega) (by omega) hbase ?_
  · intro j u hj
    rw [addr_add]
    have hjm : j < m.length := by
      rcases Nat.lt_or_ge j m.length with h' | h'
      · exact h'
      · simp [List.getElem?_eq_none h'] at hj
    rw [hc j hjm]
    simp [hjm, bv] at hj
    rw [hj]
  · intro u hu
    simp only [List.mem_map] at hu
    obtain ⟨y, _, rfl⟩ := hu
    rfl
  · intro v' w' hown' hg _
    refine h v' w' ?_ hg
    unfold OwnB
    rw [List.length_append, List.map_append]
    exact hown'
/-- make of n bytes. -/
theorem wpList_make_bytes {ops : Array Oper} {rest : List Oper} {o : Oper} {act : Act} {Q : Exit → Act → World → Prop} (w : World) (hgd : o.guard = none) (s x : Operand)
    (ho : o.op = Op.makeSlice 22 s x) (n : Nat) (hs : act.eval s = .int .i64 (n : Int)) (hx : act.eval x = .int .i64 (n : Int)) (hlen : n ≤ 1099511627776)
    (h : ∀ w', OwnB w' w.heap.size (.slice (some ⟨w.heap.size, 0, none⟩) n n) (List.replicate n 0) → Below w.heap.size w w' → wpList Tryd.prog ops Q rest (act.put o.dst (.slice (some ⟨w.heap.size, 0, none⟩) n n)) w') : wpList Tryd.prog ops Q (o :: rest) act w := by
  obtain ⟨i0, hi, hz0, hz1, hz2⟩ := info_parts Tryd.info5
  refine wpList_make_full w hgd s x 22 ho w.heap.size 5 i0 (.int .u8 0) 1 Tryd.underlying22 hi hz0 hz1 .i64 .i64 _ _ n hs hx rfl rfl (by rw [hz2]; omega) (by unfold maxLen; omega) (Nat.le_refl _) ?_
  intro w1 hown hgrow
  refine h w1 ?_ ((Below.refl _ _).grown hgrow (Nat.le_refl _) (fun k h => by cases h))
  unfold OwnB
  rw [List.length_replicate, List.map_replicate]
  have e : (madeCells (Value.int .u8 0).cells (n * 1)).toList = List.replicate n (bv 0) := by rw [Nat.mul_one]; exact toList_madeCells_one _ _
  rw [e] at hown; exact hown
/-- What a store into a byte of one's own leaves. -/
theorem OwnB.store {w : World} {base g n cap : Nat} {l : List Nat} (h : OwnB w base (.slice (some ⟨g, 0, none⟩) n cap) l) (k x : Nat) :
    OwnB (w.setCell ⟨g, k, none⟩ (bv x)) base (.slice (some ⟨g, 0, none⟩) n cap) (l.set k x) ∧ w.grownBy (w.setCell ⟨g, k, none⟩ (bv x)) (some g) := by
  obtain ⟨a, c, e⟩ := h.slice
  simp only [Value.slice.injEq] at e
  obtain ⟨_, rfl, rfl⟩ := e
  have hs := World.ownsRow.stored h k (bv x)
  refine ⟨?_, hs.2⟩
  unfold OwnB
  rw [List.length_set, List.map_set]
  exact hs.1
theorem OwnB.cellAt {w : World} {base g n cap : Nat} {l : List Nat} (h : OwnB w base (.slice (some ⟨g, 0, none⟩) n cap) l) (k : Nat) (hk : k < l.length) : w.cell? ⟨g, k, none⟩ = some (.int .u8 ((l[k] : Nat) : Int)) := by
  obtain ⟨b, off, e, hc⟩ := h.row (by omega)
  simp only [Option.some.injEq, Addr.mk.injEq] at e
  obtain ⟨rfl, rfl, _⟩ := e
  have := hc k hk
  rwa [Nat.zero_add] at this
theorem OwnB.frozenAt {w : World} {base g n cap : Nat} {l : List Nat} (h : OwnB w base (.slice (some ⟨g, 0, none⟩) n cap) l) (k : Nat) : w.frozen? ⟨g, k, none⟩ = false := by
  obtain ⟨a, c, e⟩ := h.slice
  simp only [Value.slice.injEq] at e
  obtain ⟨_, rfl, rfl⟩ := e
  exact World.ownsRow.frozenAt h k
end Go.Proofs.YtledlicandlekaaDoor
namespace Go.Proofs.YtledlicandlekaaDoor
open Go.Lib
/-- The value of digits, acc ahead. -/
def valD (acc : Nat) (l : List UInt8) : Nat := l.foldl (fun a c => a * 10 + (c.toNat - 48)) acc
def isDig (c : UInt8) : Prop := 48 ≤ c.toNat ∧ c.toNat ≤ 57
theorem dig_of (k : Nat) (h : k < 10) : (UInt8.ofNat (48 + k)).toNat = 48 + k := by
  rw [UInt8.toNat_ofNat']; omega
theorem valD_ge (l : List UInt8) (acc : Nat) : acc ≤ valD acc l := by
  induction l generalizing acc with
  | nil => exact Nat.le_refl _
  | cons c r ih => have := ih (acc * 10 + (c.toNat - 48)); show acc ≤ valD (acc * 10 + (c.toNat - 48)) r; omega
theorem valD_snoc (acc : Nat) (l : List UInt8) (d : UInt8) : valD acc (l ++ [d]) = valD acc l * 10 + (d.toNat - 48) := by
  unfold valD; rw [List.foldl_append]; rfl
theorem dec_digits (n : Nat) : ∀ c ∈ decDigits n, isDig c := by
  induction n using Nat.strongRecOn with
  | _ n ih =>
    intro c hc
    by_cases h : n < 10
    · rw [decDigits_one h, List.mem_singleton] at hc
      subst hc
      unfold isDig; rw [dig_of n h]; omega
    · rw [decDigits, dif_neg h, List.mem_append] at hc
      rcases hc with hc | hc
      · exact ih (n / 10) (by omega) c hc
      · rw [List.mem_singleton] at hc
        subst hc
        unfold isDig; rw [dig_of (n % 10) (by omega)]; omega
theorem dec_val (n : Nat) : valD 0 (decDigits n) = n := by
  induction n using Nat.strongRecOn with
  | _ n ih =>
    by_cases h : n < 10
    · rw [decDigits_one h]
      show 0 * 10 + ((UInt8.ofNat (48 + n)).toNat - 48) = n
      rw [dig_of n h]; omega
    · rw [decDigits, dif_neg h, valD_snoc, ih (n / 10) (by omega), dig_of (n % 10) (by omega)]; omega
theorem dec_ne (n : Nat) : decDigits n ≠ [] := by
  intro h
  have := decDigits_length n
  rw [h] at this
  have := nDigits_pos n
  simp at *
  omega
theorem dec_inj {a b : Nat} (h : decDigits a = decDigits b) : a = b := by rw [← dec_val a, h, dec_val]
theorem dec_not {n : Nat} {c : UInt8} (h : ¬ isDig c) : c ∉ decDigits n := fun hc => h (dec_digits n c hc)
theorem dec_back : ∀ (k : Nat) (l : List UInt8), l.length ≤ k → (∀ c ∈ l, isDig c) → l ≠ [] → (l.head? = some 48 → l = [48]) → decDigits (valD 0 l) = l
  | 0, l, hk, _, hne, _ => absurd (List.eq_nil_of_length_eq_zero (by omega)) hne
  | k + 1, l, hk, hd, hne, h0 => by
    rcases List.eq_nil_or_concat l with rfl | ⟨l', d, hcat⟩
    · exact absurd rfl hne
    · rw [List.concat_eq_append] at hcat
      subst hcat
      have hdd := hd d (by simp)
      have hof : UInt8.ofNat (48 + (d.toNat - 48)) = d := by
        have : 48 + (d.toNat - 48) = d.toNat := by have := hdd.1; omega
        rw [this]; exact UInt8.ofNat_toNat
      rw [valD_snoc]
      have hlt : d.toNat - 48 < 10 := by have := hdd.2; omega
      by_cases hl : l' = []
      · subst hl
        show decDigits (0 * 10 + (d.toNat - 48)) = [d]
        rw [Nat.zero_mul, Nat.zero_add, decDigits_one hlt, hof]
      · have hh : l'.head? ≠ some 48 := by
          intro e
          have h1 : (l' ++ [d]).head? = some 48 := by
            cases l' with
            | nil => exact absurd rfl hl
            | cons x r => simpa using e
          have h2 := congrArg List.length (h0 h1)
          simp at h2
          exact hl h2
        have ih := dec_back k l' (by simp at hk; omega) (fun c hc => hd c (by simp [hc])) hl (fun e => absurd e hh)
        have hv : 1 ≤ valD 0 l' := by
          rcases Nat.eq_zero_or_pos (valD 0 l') with e | e
          · rw [e, decDigits_one (by omega)] at ih
            exact absurd (by rw [← ih]; rfl) hh
          · exact e
        rw [decDigits, dif_neg (by omega), show (valD 0 l' * 10 + (d.toNat - 48)) / 10 = valD 0 l' from by omega, show (valD 0 l' * 10 + (d.toNat - 48)) % 10 = d.toNat - 48 from by omega, ih, hof]
theorem parse_ok {M : Nat} : ∀ (l : List UInt8) (acc n : Nat), parseUintM M acc l = .ok n → (∀ c ∈ l, isDig c) ∧ n = valD acc l
  | [], acc, n, h => ⟨fun _ hc => (by cases hc), (by simp only [parseUintM] at h; injection h with h; exact h.symm)⟩
  | c :: r, acc, n, h => by
    simp only [parseUintM] at h
    split at h
    · rename_i hc
      split at h
      · cases h
      · split at h
        · cases h
        · obtain ⟨h1, h2⟩ := parse_ok r _ n h
          exact ⟨fun x hx => by
            rcases List.mem_cons.1 hx with rfl | hx
            · exact hc
            · exact h1 x hx, h2⟩
    · cases h
theorem parse_val : ∀ (l : List UInt8) (acc : Nat), (∀ c ∈ l, isDig c) → valD acc l ≤ 18446744073709551615 → parseUintM 18446744073709551615 acc l = .ok (valD acc l)
  | [], acc, _, _ => rfl
  | c :: r, acc, hd, hv => by
    have hc := hd c (List.mem_cons_self ..)
    have h1 : valD (acc * 10 + (c.toNat - 48)) r ≤ 18446744073709551615 := hv
    have h2 := valD_ge r (acc * 10 + (c.toNat - 48))
    simp only [parseUintM]
    rw [if_pos (show 48 ≤ c.toNat ∧ c.toNat ≤ 57 from hc), if_neg (by omega), if_neg (by omega)]
    exact parse_val r _ (fun x hx => hd x (List.mem_cons_of_mem _ hx)) h1
theorem parse_dec (m : Nat) (hm : m < 18446744073709551616) : parseUintB 64 (decDigits m) = .ok m := by
  unfold parseUintB
  rw [if_neg (dec_ne m)]
  have h := parse_val (decDigits m) 0 (dec_digits m) (by rw [dec_val]; omega)
  rw [dec_val] at h
  exact h
theorem index_at (a r : List UInt8) (b : UInt8) (q : List UInt8) (h : b ∉ a) : index (a ++ ((b :: q) ++ r)) (b :: q) = a.length := by
  induction a with
  | nil =>
    show index (b :: (q ++ r)) (b :: q) = _
    rw [index, if_pos]
    · rfl
    · simp [List.isPrefixOf, List.isPrefixOf_iff_prefix]
  | cons x a ih =>
    have hx : b ≠ x := fun e => h (by rw [e]; exact List.mem_cons_self ..)
    have ih' := ih (fun hb => h (List.mem_cons_of_mem _ hb))
    show index (x :: (a ++ ((b :: q) ++ r))) (b :: q) = _
    rw [index, if_neg, ih', if_neg]
    · simp
    · simp
    · simp [List.isPrefixOf, hx]
theorem cut_first (a r : List UInt8) (b : UInt8) (q : List UInt8) (h : b ∉ a) : cut (a ++ ((b :: q) ++ r)) (b :: q) = (a, r, true) := by
  unfold cut
  rw [index_at a r b q h, if_pos (by omega)]
  have : ((a.length : Int)).toNat = a.length := by simp
  rw [this, List.take_left]
  congr 2
  rw [show a ++ ((b :: q) ++ r) = (a ++ (b :: q)) ++ r from by simp, show a.length + (b :: q).length = (a ++ (b :: q)).length from by simp, List.drop_left]
theorem cut_true {s sep : List UInt8} (h : (cut s sep).2.2 = true) : s = (cut s sep).1 ++ (sep ++ (cut s sep).2.1) := by
  unfold cut at h ⊢
  split
  · rename_i hi
    rcases index_spec s sep with ⟨he, _⟩ | ⟨i, he, hle, ho, _⟩
    · omega
    · rw [he]
      have : ((i : Int)).toNat = i := by simp
      rw [this]
      unfold occAt at ho
      obtain ⟨r, hr⟩ := List.isPrefixOf_iff_prefix.1 ho
      show s = s.take i ++ (sep ++ s.drop (i + sep.length))
      conv => lhs; rw [← List.take_append_drop i s]
      rw [← List.drop_drop, ← hr, List.drop_left]
  · rename_i hi
    rw [if_neg hi] at h
    cases h
theorem not46 : ¬ isDig 46 := by unfold isDig; decide
theorem not58 : ¬ isDig 58 := by unfold isDig; decide
end Go.Proofs.YtledlicandlekaaDoor
namespace Go.Proofs.YtledlicandlekaaDoor
open Go.RowKit
/-- The bytes l as a string. -/
def strB (l : List Nat) : ByteArray := ⟨(l.map UInt8.ofNat).toArray⟩
theorem map_back (l : List Nat) (h : ∀ x ∈ l, x < 256) : (l.map UInt8.ofNat).map UInt8.toNat = l := by
  rw [List.map_map]
  conv => rhs; rw [← List.map_id l]
  apply List.map_congr_left
  intro x hx
  have := h x hx
  simp
  omega
/-- string of bytes that lie somewhere. -/
theorem run_string_of (w : World) (a : Option Addr) (cap : Nat) (l : List Nat) (hr : RowAt w a l) :
    (convert 22 9 (.slice a l.length cap)).run Tryd.prog w = .ok (.string (strB l)) w := by
  by_cases h0 : l.length = 0
  · obtain rfl : l = [] := List.eq_nil_of_length_eq_zero h0
    rw [run_convert_bytes_string w _ _ 5 a _ cap Tryd.underlying22 Tryd.underlying5 Tryd.underlying9]
    cases a <;> simp [Conv.bytesToString, loadCells] <;> rfl
  · obtain ⟨b, off, rfl, hc⟩ := hr (by omega)
    have h := run_convert_bytes_arg w 22 5 Tryd.underlying22 Tryd.underlying5 b off l.length cap (l.map fun n : Nat => (n : Int)) (by simp) (fun i hi => by rw [hc i hi]; simp [hi]) 9 Tryd.underlying9
    rw [h]
    unfold strOfNums strB
    rw [List.map_map]
    rfl
theorem strB_inj {l m : List Nat} (hl : ∀ x ∈ l, x < 256) (hm : ∀ x ∈ m, x < 256) (h : strB l = strB m) : l = m := by
  unfold strB at h
  have h1 : (l.map UInt8.ofNat).toArray = (m.map UInt8.ofNat).toArray := congrArg ByteArray.data h
  have h2 : l.map UInt8.ofNat = m.map UInt8.ofNat := congrArg Array.toList h1
  rw [← map_back l hl, ← map_back m hm, h2]
theorem strB_dec {l m : List Nat} (hl : ∀ x ∈ l, x < 256) (hm : ∀ x ∈ m, x < 256) : decide (strB l = strB m) = decide (l = m) := by
  by_cases h : l = m
  · subst h; simp
  · rw [decide_eq_false h, decide_eq_false fun e => h (strB_inj hl hm e)]
theorem strB_list (l : List Nat) : (strB l).toList = l.map UInt8.ofNat := by rw [ByteArray.toList_eq]; rfl
theorem strB_beq {l m : List Nat} (hl : ∀ x ∈ l, x < 256) (hm : ∀ x ∈ m, x < 256) : ((strB l).toList == (strB m).toList) = decide (l = m) := by
  rw [strB_list, strB_list]
  by_cases h : l = m
  · subst h; simp
  · rw [decide_eq_false h]
    exact beq_eq_false_iff_ne.2 fun e => h (by rw [← map_back l hl, ← map_back m hm, e])
end Go.Proofs.YtledlicandlekaaDoor
namespace Go.Proofs.YtledlicandlekaaDoor
open Go.RowKit
theorem row_one (w : World) (x : Nat) : RowAt (w.alloc (.cells #[.int .u8 (x : Int)] 5)) (some ⟨w.heap.size, 0, none⟩) [x] := fun _ => by
  refine ⟨w.heap.size, 0, rfl, fun i hi => ?_⟩
  simp at hi
  subst hi
  rw [cell_of_row _ _ _ _ 5 (0, 0) (heap_alloc_new w _)]
  rfl
theorem OwnB.alloc1 {w : World} {base : Nat} {v : Value} {l : List Nat} (h : OwnB w base v l) (o : Obj) : OwnB (w.alloc o) base v l := h.below ((Below.refl _ _).alloc (Nat.le_refl _) _) (Nat.le_refl _)
end Go.Proofs.YtledlicandlekaaDoor
namespace Go.Proofs.YtledlicandlekaaDoor
open Go.RowKit Go.Sort Go.Lib
/-- The decimal of u, as a string. -/
def decS (u : Nat) : ByteArray := ⟨(Lib.decDigits u).toArray⟩
/-- What l1Dec still has to write, m ahead of t. -/
def decT (m : Nat) (t : List UInt8) : List UInt8 := if m = 0 then t else Lib.decDigits m ++ t
theorem decT_step (m : Nat) (t : List UInt8) (h : 0 < m) : decT (m / 10) (UInt8.ofNat (48 + m % 10) :: t) = decT m t := by
  by_cases h10 : m < 10
  · have h1 : m / 10 = 0 := by omega
    have h2 : m % 10 = m := by omega
    unfold decT
    rw [h1, h2, if_pos rfl, if_neg (by omega), Lib.decDigits_one h10]
    rfl
  · unfold decT
    rw [if_neg (by omega), if_neg (by omega)]
    conv => rhs; rw [Lib.decDigits, dif_neg h10]
    simp
theorem nd20 (u : Nat) (h : u < 18446744073709551616) : Lib.nDigits u ≤ 20 := by
  by_cases h0 : 1 ≤ u
  · have := Lib.numDigits_eq u h0 h
    split at this <;> omega
  · rw [Lib.nDigits_small (by omega)]; omega
theorem decT_len (m : Nat) (t : List UInt8) : t.length ≤ (decT m t).length := by
  unfold decT
  split
  · exact Nat.le_refl _
  · simp
theorem tabIs_below {w w' : World} {name : String} {k : IntKind} {zs : List Int} (h : TabIs Tryd.prog w name k zs) (hb : Below w.heap.size w w') : TabIs Tryd.prog w' name k zs := by
  unfold TabIs World.var? at *
  cases hg : Tryd.prog.globalNamed name with
  | none => simp [hg] at h
  | some g =>
    simp only [hg, Option.bind_some] at h ⊢
    have hlt : g < w.heap.size := by
      rcases Nat.lt_or_ge g w.heap.size with h' | h'
      · exact h'
      · rw [Array.getElem?_eq_none h'] at h; simp at h
    rw [hb.block g hlt]
    exact h
theorem below_grown (w : World) (k : Nat) (os : Array Obj) : Below w.heap.size w (grow (w.drewN k) os) := by
  refine ⟨rfl, rfl, rfl, ?_, fun j hj => ?_⟩
  · show w.heap.size ≤ (w.heap ++ os).size
    simp
  · show (w.heap ++ os)[j]? = w.heap[j]?
    rw [Array.getElem?_append_left hj]
theorem mk_add (a b : List UInt8) : (⟨a.toArray⟩ : ByteArray) ++ (⟨b.toArray⟩ : ByteArray) = ⟨(a ++ b).toArray⟩ := Go.ByteArray.mk_append_mk a b
theorem strB_one (x : Nat) : strB [x] = ⟨[UInt8.ofNat x].toArray⟩ := rfl
theorem decS_zero : decS 0 = ⟨#[48]⟩ := by unfold decS; rw [Lib.decDigits_one (by omega)]; rfl
set_option maxRecDepth 20000 in
theorem l1Dec_any (n : Nat) (w : World) (hn : n < 9223372036854775808) :
    Calls Tryd.prog 54 #[.int .i64 (n : Int)] w fun e w' => e = .returned (.string (decS n)) ∧ Below w.heap.size w w' := by
  by_cases h0 : n = 0
  · subst h0
    go_enter Tryd.func54, Tryd.ntmps54
    go_wp2
    go_ret
    exact ⟨by rw [decS_zero]; rfl, Below.refl _ _⟩
  · have hz : ¬ (n : Int) = 0 := by omega
    go_enter Tryd.func54, Tryd.ntmps54
    go_wp2
    go_loopw [0, 3] (fun v s wr => ∃ (m : Nat) (t : List UInt8), v = .int .i64 (m : Int) ∧ s = .string ⟨t.toArray⟩ ∧ m ≤ n ∧ Hid (decT m t = Lib.decDigits n) ∧ Below w.heap.size w wr) (fun v _ _ => (RowKit.intOf v).toNat)
    case atStart => exact ⟨n, [], rfl, rfl, Nat.le_refl _, by show _ = _; unfold decT; rw [if_neg h0, List.append_nil], Below.refl _ _⟩
    case round =>
      obtain ⟨m, t, rfl, rfl, hm, HT, hw⟩ := hrel
      have HW := hide hw
      have hle : t.length ≤ 20 := by
        have h1 := decT_len m t
        rw [HT.out, Lib.decDigits_length] at h1
        have h2 := nd20 n (by omega)
        omega
      clear hw
      by_cases h1 : 0 < m
      · have HS := hide ((decT_step m t h1).trans HT.out)
        have hi : (0 : Int) < (m : Int) := by omega
        clear HT
        have hcv : (convert 22 9 (.slice (some ⟨wr.heap.size, 0, none⟩) 1 1)).run Tryd.prog (wr.alloc (.cells #[.int .u8 (48 + (m : Int) % 10)] 5)) = .ok (.string ⟨[UInt8.ofNat (48 + m % 10)].toArray⟩) (wr.alloc (.cells #[.int .u8 (48 + (m : Int) % 10)] 5)) := by
          have h := run_string_of _ _ 1 [48 + m % 10] (row_one wr (48 + m % 10))
          rw [strB_one] at h
          have e : (((48 + m % 10 : Nat)) : Int) = 48 + (m : Int) % 10 := by omega
          rw [e] at h
          exact h
        have hb2 := hide (HW.out.alloc HW.out.size (.cells #[.int .u8 (48 + (m : Int) % 10)] 5))
        have hadd : (Op.stringOp .add ⟨[UInt8.ofNat (48 + m % 10)].toArray⟩ ⟨t.toArray⟩).run Tryd.prog (wr.alloc (.cells #[.int .u8 (48 + (m : Int) % 10)] 5)) = .ok (.string ⟨(UInt8.ofNat (48 + m % 10) :: t).toArray⟩) (wr.alloc (.cells #[.int .u8 (48 + (m : Int) % 10)] 5)) :=
          run_string_add_lists _ [UInt8.ofNat (48 + m % 10)] t (by simp) (by omega)
        generalize UInt8.ofNat (48 + m % 10) = x at HS hcv hadd
        generalize [x].toArray = xs at hcv hadd
        go_wp2
        go_roundw
        case rel => exact ⟨m / 10, x :: t, by congr 1, rfl, by omega, HS, hb2.out⟩
        case measure => simp [RowKit.intOf]; omega
      · have hi : ¬ (0 : Int) < (m : Int) := by omega
        have hm0 : m = 0 := by omega
        subst hm0
        go_wp2
        go_ret
        refine ⟨?_, HW.out⟩
        have h := HT.out
        unfold decT at h
        rw [if_pos rfl] at h
        unfold decS
        rw [← h]
        rfl
end Go.Proofs.YtledlicandlekaaDoor
namespace Go.Proofs.YtledlicandlekaaDoor
open Go.RowKit
/-- What l4Cut answers. -/
def CutIs (t : List UInt8) (b : UInt8) (a c : List UInt8) (ok : Bool) : Prop := (ok = true ∧ t = a ++ b :: c ∧ b ∉ a) ∨ (ok = false ∧ b ∉ t ∧ a = t ∧ c = [])
theorem ext_list (s : ByteArray) (a b : Nat) : (s.extract a b).data.toList = (s.data.toList.drop a).take (b - a) := by
  rw [ByteArray.data_extract, Array.toList_extract]
theorem sz_list (s : ByteArray) : s.data.toList.length = s.size := rfl
theorem drewN_add (w : World) (n m : Nat) : (w.drewN n).drewN m = w.drewN (n + m) := by
  unfold World.drewN; simp; omega
def CutPost (s : ByteArray) (b : UInt8) (w : World) (e : Ending) (w' : World) : Prop := ∃ (x y : ByteArray) (ok : Bool), e = .returned (.tuple #[.string x, .string y, .bool ok]) ∧ CutIs s.data.toList b x.data.toList y.data.toList ok ∧ ∃ n, w' = w.drewN n
theorem l4Cut_any (s : ByteArray) (b : UInt8) (w : World) (hs : s.size ≤ 1048576) :
    Calls Tryd.prog 47 #[.string s, .int .u8 (b.toNat : Int)] w (CutPost s b w) := by
  go_enter Tryd.func47, Tryd.ntmps47
  go_wp2
  go_loopw [7] (fun i wr => ∃ k : Nat, k ≤ s.size ∧ i = .int .i64 (k : Int) ∧ Hid (b ∉ s.data.toList.take k) ∧ ∃ n, wr = w.drewN n) (fun i _ => s.size - (RowKit.intOf i).toNat)
  case atStart => exact ⟨0, Nat.zero_le _, rfl, by show _ ∉ _; simp, 0, rfl⟩
  case round =>
    obtain ⟨i, hi, rfl, HN, n, rfl⟩ := hrel
    by_cases hlt : i < s.size
    · by_cases hq : s[i] = b
      · have he : ((s[i].toNat : Int) == (b.toNat : Int)) = true := by rw [hq]; simp
        have hA : (i : Int) ≤ (s.size : Int) := by omega
        have hB : (i : Int) + 1 ≤ (s.size : Int) := by omega
        go_wp2
        go_quiet (fail)
        go_wp2
        go_ret3
        refine ⟨s.extract 0 i, s.extract (i + 1) s.size, true, rfl, Or.inl ⟨rfl, ?_, ?_⟩, n + nq, ?_⟩
        · rw [ext_list, ext_list]
          have hl : i < s.data.toList.length := hlt
          have hsz : s.size = s.data.toList.length := rfl
          rw [hsz, List.drop_zero, Nat.sub_zero, List.take_of_length_le (l := s.data.toList.drop (i + 1)) (by simp)]
          have hb : s.data.toList[i] = b := hq
          rw [← hb]
          conv => lhs; rw [← List.take_append_drop i s.data.toList, List.drop_eq_getElem_cons hl]
        · rw [ext_list, List.drop_zero, Nat.sub_zero]
          exact HN.out
        · exact drewN_add w n nq
      · have he : ((s[i].toNat : Int) == (b.toNat : Int)) = false := by
          have : s[i].toNat ≠ b.toNat := fun e => hq (UInt8.toNat_inj.1 e)
          simp; omega
        go_wp2
        go_roundw
        case rel =>
          refine ⟨i + 1, by omega, by go_num, ?_, n, rfl⟩
          show b ∉ s.data.toList.take (i + 1)
          have hl : i < s.data.toList.length := hlt
          rw [List.take_succ_eq_append_getElem hl, List.mem_append]
          intro h
          rcases h with h | h
          · exact HN.out h
          · rw [List.mem_singleton] at h
            exact hq h.symm
        case measure => simp [RowKit.intOf]; omega
    · have hie : i = s.size := by omega
      subst hie
      go_wp2
      go_ret3
      refine ⟨s, ⟨#[]⟩, false, rfl, Or.inr ⟨rfl, ?_, rfl, rfl⟩, n, rfl⟩
      have h := HN.out
      rw [List.take_of_length_le (Nat.le_of_eq (sz_list s))] at h
      exact h
end Go.Proofs.YtledlicandlekaaDoor
