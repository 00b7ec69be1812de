import Derived.Laws.BitsAllLaws
import Derived.Test.YtpedmebigcchnaaGreatDoorProg
import GoSem.Claim
import GoSem.ClaimJoined
import GoSem.ClaimMapViews
import Derived.JoinedTies
import Derived.KernelRfl
import Derived.RowKit
import Derived.WalkKit
import Derived.WalkSpells
import Derived.WalkLawsBesides
import Derived.Deep.QuietTactic
import Derived.BigQuiet
namespace Go.Proofs.YtpedmebigcchnaaGreatDoor
/-- One step of the sum: the lowest bit goes out, the polynomial comes in where it was set. -/
def crcStep (c : Nat) : Nat := if c % 2 = 1 then (c / 2) ^^^ 3988292384 else c / 2
/-- The steps of the program: m of them over a sum that has taken its byte in. -/
def crcSteps : Nat → Nat → Nat
  | 0, c => c
  | m + 1, c => crcStep (crcSteps m c)
/-- The steps of the specification: the byte's bits are taken in one by one. -/
def specStep (c b m : Nat) : Nat := if (c ^^^ (b >>> m)) % 2 = 1 then (c / 2) ^^^ 3988292384 else c / 2
def specSteps (c b : Nat) : Nat → Nat
  | 0 => c
  | m + 1 => specStep (specSteps c b m) b m
def crcByte (c b : Nat) : Nat := crcSteps 8 (c ^^^ b)
def crcFold (c : Nat) (l : List Nat) : Nat := l.foldl crcByte c
theorem pair_steps (c b m : Nat) : crcSteps m (c ^^^ b) = specSteps c b m ^^^ (b >>> m) := by
  induction m with
  | zero => simp [crcSteps, specSteps]
  | succ m ih =>
    have hs : b >>> (m + 1) = (b >>> m) / 2 := by rw [Nat.shiftRight_succ]
    simp only [crcSteps, specSteps, ih]
    unfold crcStep specStep
    generalize specSteps c b m = x
    rw [hs]
    generalize b >>> m = y
    have hd : (x ^^^ y) / 2 = (x / 2) ^^^ (y / 2) := Nat.xor_div_two
    rw [hd]
    split
    · rw [Nat.xor_assoc, Nat.xor_assoc, Nat.xor_comm 3988292384]
    · rfl
theorem spec_byte (c b : Nat) (hb : b < 256) : specSteps c b 8 = crcByte c b := by
  unfold crcByte
  rw [pair_steps]
  have : b >>> 8 = 0 := by rw [Nat.shiftRight_eq_div_pow]; omega
  rw [this, Nat.xor_zero]
theorem crcStep_lt (c : Nat) (h : c < 4294967296) : crcStep c < 4294967296 := by
  unfold crcStep
  split
  · exact Nat.xor_lt_two_pow (n := 32) (by omega) (by omega)
  · omega
theorem crcSteps_lt (m c : Nat) (h : c < 4294967296) : crcSteps m c < 4294967296 := by
  induction m with
  | zero => exact h
  | succ m ih => exact crcStep_lt _ ih
theorem specSteps_lt (c b m : Nat) (h : c < 4294967296) : specSteps c b m < 4294967296 := by
  induction m with
  | zero => exact h
  | succ m ih =>
    unfold specSteps specStep
    split
    · exact Nat.xor_lt_two_pow (n := 32) (by omega) (by omega)
    · omega
theorem crcByte_lt (c b : Nat) (h : c < 4294967296) (hb : b < 256) : crcByte c b < 4294967296 :=
  crcSteps_lt _ _ (Nat.xor_lt_two_pow (n := 32) (by omega) (by omega))
theorem crcFold_lt (l : List Nat) (hl : ∀ x ∈ l, x < 256) (c : Nat) (h : c < 4294967296) : crcFold c l < 4294967296 := by
  induction l generalizing c with
  | nil => exact h
  | cons x r ih => exact ih (fun y hy => hl y (List.mem_cons_of_mem _ hy)) _ (crcByte_lt c x h (hl x List.mem_cons_self))
theorem crcFold_snoc (c : Nat) (l : List Nat) (x : Nat) : crcFold c (l ++ [x]) = crcByte (crcFold c l) x := by
  simp [crcFold]
theorem cast_shr (x m : Nat) : ((x : Int) / 2 ^ m) = ((x >>> m : Nat) : Int) := by
  rw [Nat.shiftRight_eq_div_pow]; simp
theorem shr_lt (x m : Nat) (hx : x < 256) : x >>> m < 4294967296 := by
  rw [Nat.shiftRight_eq_div_pow]; exact Nat.lt_of_le_of_lt (Nat.div_le_self _ _) (by omega)
theorem spec_bit (c x m : Nat) (hc : c < 4294967296) (hx : x < 256) :
    bits .and .u32 (bits .xor .u32 (c : Int) ((x : Int) / 2 ^ m)) 1 = (((c ^^^ (x >>> m)) % 2 : Nat) : Int) := by
  have hs := shr_lt x m hx
  have hx2 : c ^^^ (x >>> m) < 4294967296 := Nat.xor_lt_two_pow (n := 32) (by omega) (by omega)
  rw [cast_shr, u32_xor_nat c _ hc hs]
  have h := u32_and_nat (c ^^^ (x >>> m)) 1 hx2 (by decide)
  rw [nat_mask1] at h
  exact h
theorem half_xor (c : Nat) (hc : c < 4294967296) : bits .xor .u32 ((c : Int) / 2) 3988292384 = (((c / 2) ^^^ 3988292384 : Nat) : Int) := by
  have h := u32_xor_nat (c / 2) 3988292384 (by omega) (by decide)
  have e : ((c : Int) / 2) = ((c / 2 : Nat) : Int) := by omega
  rw [e]; exact h
theorem spec_hit {c x m : Nat} (hc : c < 4294967296) (hx : x < 256) (h : (bits .and .u32 (bits .xor .u32 (c : Int) ((x : Int) / 2 ^ m)) 1 == 1) = true) :
    bits .xor .u32 ((c : Int) / 2) 3988292384 = ((specStep c x m : Nat) : Int) := by
  rw [spec_bit c x m hc hx] at h
  have h' : (c ^^^ (x >>> m)) % 2 = 1 := by simp at h; omega
  unfold specStep; rw [if_pos h']; exact half_xor c hc
theorem spec_miss {c x m : Nat} (hc : c < 4294967296) (hx : x < 256) (h : (bits .and .u32 (bits .xor .u32 (c : Int) ((x : Int) / 2 ^ m)) 1 == 1) = false) :
    ((c : Int) / 2) = ((specStep c x m : Nat) : Int) := by
  rw [spec_bit c x m hc hx] at h
  have h' : ¬ (c ^^^ (x >>> m)) % 2 = 1 := by simp at h; omega
  unfold specStep; rw [if_neg h']; omega
theorem low_bit (c : Nat) (hc : c < 4294967296) : bits .and .u32 (c : Int) 1 = ((c % 2 : Nat) : Int) := by
  have h := u32_and_nat c 1 hc (by decide)
  rw [nat_mask1] at h
  exact h
theorem step_hit {c : Nat} (hc : c < 4294967296) (h : (bits .and .u32 (c : Int) 1 == 1) = true) : bits .xor .u32 ((c : Int) / 2) 3988292384 = ((crcStep c : Nat) : Int) := by
  rw [low_bit c hc] at h
  have h' : c % 2 = 1 := by simp at h; omega
  unfold crcStep; rw [if_pos h']; exact half_xor c hc
theorem step_miss {c : Nat} (hc : c < 4294967296) (h : (bits .and .u32 (c : Int) 1 == 1) = false) : ((c : Int) / 2) = ((crcStep c : Nat) : Int) := by
  rw [low_bit c hc] at h
  have h' : ¬ c % 2 = 1 := by simp at h; omega
  unfold crcStep; rw [if_neg h']; omega
theorem xor_byte (c x : Nat) (hc : c < 4294967296) (hx : x < 256) : bits .xor .u32 (c : Int) (x : Int) = ((c ^^^ x : Nat) : Int) := u32_xor_nat c x hc (by omega)
def crcOf (l : List Nat) : Nat := 4294967295 ^^^ crcFold 4294967295 l
theorem crcOf_lt (l : List Nat) (hl : ∀ x ∈ l, x < 256) : crcOf l < 4294967296 :=
  Nat.xor_lt_two_pow (n := 32) (by decide) (crcFold_lt l hl _ (by decide))
theorem out_eq (c : Nat) (hc : c < 4294967296) : bits .xor .u32 IntKind.u32.max (c : Int) = ((4294967295 ^^^ c : Nat) : Int) := by
  have e : IntKind.u32.max = ((4294967295 : Nat) : Int) := by decide
  rw [e]; exact u32_xor_nat 4294967295 c (by decide) hc
theorem ret_int {k : IntKind} {a b : Int} (h : a = b) : Ending.returned (.int k a) = .returned (.int k b) := by rw [h]
theorem val_int {k : IntKind} {a b : Int} (h : a = b) : Value.int k a = .int k b := by rw [h]
end Go.Proofs.YtpedmebigcchnaaGreatDoor
namespace Go.Proofs.YtpedmebigcchnaaGreatDoor
open Go.RowKit
theorem hide {p : Prop} (h : p) : Hid p := h
theorem unhide {p : Prop} (h : Hid p) : p := h
/-- The bytes 'l' lie at 'a' (where there are any). -/
def RowAt (w : World) (a : Option Addr) (l : List Nat) : Prop :=
  0 < l.length → ∃ b off, a = some ⟨b, off, none⟩ ∧ ∀ i (h : i < l.length), w.cell? ⟨b, off + i, none⟩ = some (.int .u8 ((l[i] : Nat) : Int))
def bv (x : Nat) : Value := .int .u8 (x : Int)
/-- v is a slice of the call's own (its block is 'base' or later) that holds the bytes 'l'. -/
def OwnB (w : World) (base : Nat) (v : Value) (l : List Nat) : Prop := w.ownsRow base 5 1 v l.length (l.map bv)
theorem lt_of_cell0 {w : World} {a : Addr} {v : Value} (h : w.cell? a = some v) : a.block < w.heap.size := World.block_lt_of_cell? w a h
theorem RowAt.below {w w' : World} {a : Option Addr} {l : List Nat} (h : RowAt w a l) (hb : Below w.heap.size w w') : RowAt w' a l := fun hp => by
  obtain ⟨b, off, rfl, hc⟩ := h hp
  exact ⟨b, off, rfl, fun i hi => by rw [hb.cell (p := ⟨b, off + i, none⟩) (lt_of_cell0 (hc i hi))]; exact hc i hi⟩
theorem OwnB.slice {w : World} {base : Nat} {v : Value} {l : List Nat} (h : OwnB w base v l) : ∃ a cap, v = .slice a l.length cap := by
  rcases h.2 with ⟨rfl, hn⟩ | ⟨g, cap, cur, rfl, _⟩
  · exact ⟨none, 0, by rw [hn]⟩
  · exact ⟨_, cap, rfl⟩
theorem OwnB.row {w : World} {base : Nat} {a : Option Addr} {n cap : Nat} {l : List Nat} (h : OwnB w base (.slice a n cap) l) : RowAt w a l := fun hp => by
  rcases h.2 with ⟨_, hn⟩ | ⟨g, cap', cur, h', _, hg, hc, _, hs, htake⟩
  · omega
  · simp only [Value.slice.injEq] at h'
    obtain ⟨rfl, _, _⟩ := h'
    refine ⟨g, 0, rfl, fun i hi => ?_⟩
    rw [Nat.zero_add, cell_of_row w g i cur 5 (0, 0) hg]
    have e : cur.toList[i]? = (l.map bv)[i]? := by rw [← htake, List.getElem?_take, if_pos (by omega)]
    rw [← Array.getElem?_toList, e]
    simp [hi, bv]
theorem OwnB.below {B base : Nat} {w w' : World} {v : Value} {l : List Nat} (h : OwnB w base v l) (hb : Below B w w') (hB : w.heap.size ≤ B) : OwnB w' base v l := by
  refine ⟨h.1, ?_⟩
  rcases h.2 with hn | ⟨g, cap, cur, rfl, hbase, hg, rest⟩
  · exact .inl hn
  · exact .inr ⟨g, cap, cur, rfl, hbase, (hb.block g (Nat.lt_of_lt_of_le (lt_of_block hg) hB)).trans hg, rest⟩
theorem OwnB.nil (w : World) (base : Nat) : OwnB w base (.slice none 0 0) [] := World.ownsRow_nil w base 5 1
theorem OwnB.mono {w : World} {base base' : Nat} {v : Value} {l : List Nat} (h : OwnB w base v l) (hb : base' ≤ base) : OwnB w base' v l := by
  refine ⟨h.1, ?_⟩
  rcases h.2 with hn | ⟨g, cap, cur, rfl, hbase, rest⟩
  · exact .inl hn
  · exact .inr ⟨g, cap, cur, rfl, Nat.le_trans hb hbase, rest⟩
/-- Blocks outside [lo, hi) are as they were. -/
structure Out (lo hi : Nat) (w w' : World) : Prop where
  os : w'.os = w.os
  tape : w'.tape = w.tape
  output : w'.output = w.output
  size : w.heap.size ≤ w'.heap.size
  block : ∀ k, k < w.heap.size → k < lo ∨ hi ≤ k → w'.heap[k]? = w.heap[k]?
theorem Out.refl (lo hi : Nat) (w : World) : Out lo hi w w := ⟨rfl, rfl, rfl, Nat.le_refl _, fun _ _ _ => rfl⟩
theorem Out.trans {lo hi : Nat} {a b c : World} (h : Out lo hi a b) (k : Out lo hi b c) : Out lo hi a c :=
  ⟨k.os.trans h.os, k.tape.trans h.tape, k.output.trans h.output, Nat.le_trans h.size k.size, fun i hi ho => (k.block i (Nat.lt_of_lt_of_le hi h.size) ho).trans (h.block i hi ho)⟩
theorem Out.of_grown {lo hi : Nat} {w w' : World} {row : Option Nat} (h : w.grownBy w' row) (hr : ∀ k, row = some k → lo ≤ k ∧ k < hi) : Out lo hi w w' :=
  ⟨h.os, h.tape, h.output, h.size, fun k hk ho => h.block k hk (fun e => by have := hr k e.symm; omega)⟩
theorem Out.below {lo hi B : Nat} {w w' : World} (h : Out lo hi w w') (h1 : B ≤ lo) (h2 : B ≤ w.heap.size) : Below B w w' :=
  ⟨h.os, h.tape, h.output, h.size, fun k hk => h.block k (by omega) (.inl (by omega))⟩
theorem Out.mono {lo hi lo' hi' : Nat} {w w' : World} (h : Out lo hi w w') (h1 : lo' ≤ lo) (h2 : hi ≤ hi') : Out lo' hi' w w' :=
  ⟨h.os, h.tape, h.output, h.size, fun k hk ho => h.block k hk (by omega)⟩
theorem Out.of_below {lo hi : Nat} {w w' : World} (h : Below w.heap.size w w') : Out lo hi w w' := ⟨h.os, h.tape, h.output, h.size, fun k hk _ => h.block k hk⟩
theorem OwnB.out {lo hi base : Nat} {w w' : World} {v : Value} {l : List Nat} (h : OwnB w base v l) (ho : Out lo hi w w') (hb : hi ≤ base) : OwnB w' base v l := by
  refine ⟨h.1, ?_⟩
  rcases h.2 with hn | ⟨g, cap, cur, rfl, hbase, hg, rest⟩
  · exact .inl hn
  · exact .inr ⟨g, cap, cur, rfl, hbase, (ho.block g (lt_of_block hg) (.inr (Nat.le_trans hb hbase))).trans hg, rest⟩
theorem grown_trans {w w1 w2 : World} {row : Option Nat} (h : w.grownBy w1 row) (k : w1.grownBy w2 row) : w.grownBy w2 row :=
  ⟨k.os.trans h.os, k.tape.trans h.tape, k.output.trans h.output, Nat.le_trans h.size k.size, fun i hi ho => (k.block i (Nat.lt_of_lt_of_le hi h.size) ho).trans (h.block i hi ho)⟩
theorem grown_refl (w : World) (row : Option Nat) : w.grownBy w row := ⟨rfl, rfl, rfl, Nat.le_refl _, fun _ _ _ => rfl⟩
theorem addr_add (b off i : Nat) : Addr.add ⟨b, off, none⟩ i = ⟨b, off + i, none⟩ := by
  unfold Addr.add; split
  · next h => subst h; rfl
  · rfl
theorem ret_bool {a b : Bool} (h : a = b) : Ending.returned (.bool a) = .returned (.bool b) := by rw [h]
theorem Tryz.info5 : (Tryz.prog.info? 5).map (fun i => (i.zero, i.size, i.bytes)) = some (some (.int .u8 0), 1, 1) := by kernel_rfl
/-- append of bytes that lie somewhere onto a slice of the call's own. -/
theorem wpList_append_bytes {ops : Array Oper} {rest : List Oper} {o : Oper} {act : Act} {Q : Exit → Act → World → Prop} (w : World) (hgd : o.guard = none) (s x : Operand)
    (ho : o.op = .call { callee := .builtin .append, args := #[s, x], argTypes := #[22, 22] })
    (base : Nat) (v : Value) (l m : List Nat) (hs : act.eval s = v) (hown : OwnB w base v l) (ad : Option Addr) (c : Nat) (hx : act.eval x = .slice ad m.length c) (hr : RowAt w ad m) (hm : 0 < m.length)
    (hlen : l.length + m.length ≤ 1099511627776) (hbase : base ≤ w.heap.size)
    (h : ∀ v' w', OwnB w' base v' (l ++ m) → w.grownBy w' v.ownBlock → wpList Tryz.prog ops Q rest (act.put o.dst v') w') : wpList Tryz.prog ops Q (o :: rest) act w := by
  obtain ⟨i0, hi, hz0, hz1, hz2⟩ := info_parts Tryz.info5
  obtain ⟨b, off, rfl, hc⟩ := hr hm
  refine wpList_append_own w hgd s x 22 ho base 5 i0 (.int .u8 0) 1 1 Tryz.underlying22 hi hz0 hz1 hz2 rfl (by decide) v l.length (l.map bv) hs hown ⟨b, off, none⟩ m.length c (m.map bv) hx (by simp) ?_ ?_ (by unfold maxLen; omega) (by omega) hbase ?_
  · intro j u hj
    rw [addr_add]
    have hjm : j < m.length := by
      rcases Nat.lt_or_ge j m.length with h' | h'
      · exact h'
      · simp [List.getElem?_eq_none h'] at hj
    rw [hc j hjm]
    simp [hjm, bv] at hj
    rw [hj]
  · intro u hu
    simp only [List.mem_map] at hu
    obtain ⟨y, _, rfl⟩ := hu
    rfl
  · intro v' w' hown' hg _
    refine h v' w' ?_ hg
    unfold OwnB
    rw [List.length_append, List.map_append]
    exact hown'
/-- make of n bytes. -/
theorem wpList_make_bytes {ops : Array Oper} {rest : List Oper} {o : Oper} {act : Act} {Q : Exit → Act → World → Prop} (w : World) (hgd : o.guard = none) (s x : Operand)
    (ho : o.op = Op.makeSlice 22 s x) (n : Nat) (hs : act.eval s = .int .i64 (n : Int)) (hx : act.eval x = .int .i64 (n : Int)) (hlen : n ≤ 1099511627776)
    (h : ∀ w', OwnB w' w.heap.size (.slice (some ⟨w.heap.size, 0, none⟩) n n) (List.replicate n 0) → Below w.heap.size w w' → wpList Tryz.prog ops Q rest (act.put o.dst (.slice (some ⟨w.heap.size, 0, none⟩) n n)) w') : wpList Tryz.prog ops Q (o :: rest) act w := by
  obtain ⟨i0, hi, hz0, hz1, hz2⟩ := info_parts Tryz.info5
  refine wpList_make_full w hgd s x 22 ho w.heap.size 5 i0 (.int .u8 0) 1 Tryz.underlying22 hi hz0 hz1 .i64 .i64 _ _ n hs hx rfl rfl (by rw [hz2]; omega) (by unfold maxLen; omega) (Nat.le_refl _) ?_
  intro w1 hown hgrow
  refine h w1 ?_ ((Below.refl _ _).grown hgrow (Nat.le_refl _) (fun k h => by cases h))
  unfold OwnB
  rw [List.length_replicate, List.map_replicate]
  have e : (madeCells (Value.int .u8 0).cells (n * 1)).toList = List.replicate n (bv 0) := by rw [Nat.mul_one]; exact toList_madeCells_one _ _
  rw [e] at hown; exact hown
/-- What a store into a byte of one's own leaves. -/
theorem OwnB.store {w : World} {base g n cap : Nat} {l : List Nat} (h : OwnB w base (.slice (some ⟨g, 0, none⟩) n cap) l) (k x : Nat) :
    OwnB (w.setCell ⟨g, k, none⟩ (bv x)) base (.slice (some ⟨g, 0, none⟩) n cap) (l.set k x) ∧ w.grownBy (w.setCell ⟨g, k, none⟩ (bv x)) (some g) := by
  obtain ⟨a, c, e⟩ := h.slice
  simp only [Value.slice.injEq] at e
  obtain ⟨_, rfl, rfl⟩ := e
  have hs := World.ownsRow.stored h k (bv x)
  refine ⟨?_, hs.2⟩
  unfold OwnB
  rw [List.length_set, List.map_set]
  exact hs.1
theorem OwnB.cellAt {w : World} {base g n cap : Nat} {l : List Nat} (h : OwnB w base (.slice (some ⟨g, 0, none⟩) n cap) l) (k : Nat) (hk : k < l.length) : w.cell? ⟨g, k, none⟩ = some (.int .u8 ((l[k] : Nat) : Int)) := by
  obtain ⟨b, off, e, hc⟩ := h.row (by omega)
  simp only [Option.some.injEq, Addr.mk.injEq] at e
  obtain ⟨rfl, rfl, _⟩ := e
  have := hc k hk
  rwa [Nat.zero_add] at this
theorem OwnB.frozenAt {w : World} {base g n cap : Nat} {l : List Nat} (h : OwnB w base (.slice (some ⟨g, 0, none⟩) n cap) l) (k : Nat) : w.frozen? ⟨g, k, none⟩ = false := by
  obtain ⟨a, c, e⟩ := h.slice
  simp only [Value.slice.injEq] at e
  obtain ⟨_, rfl, rfl⟩ := e
  exact World.ownsRow.frozenAt h k
end Go.Proofs.YtpedmebigcchnaaGreatDoor
namespace Go.Proofs.YtpedmebigcchnaaGreatDoor
open Go.RowKit
/-- Nothing but two blocks may have changed. -/
structure Two (b1 b2 : Nat) (w w' : World) : Prop where
  os : w'.os = w.os
  tape : w'.tape = w.tape
  output : w'.output = w.output
  size : w.heap.size ≤ w'.heap.size
  block : ∀ k, k < w.heap.size → k ≠ b1 → k ≠ b2 → w'.heap[k]? = w.heap[k]?
theorem Two.refl (b1 b2 : Nat) (w : World) : Two b1 b2 w w := ⟨rfl, rfl, rfl, Nat.le_refl _, fun _ _ _ _ => rfl⟩
theorem Two.trans {b1 b2 : Nat} {a b c : World} (h : Two b1 b2 a b) (k : Two b1 b2 b c) : Two b1 b2 a c :=
  ⟨k.os.trans h.os, k.tape.trans h.tape, k.output.trans h.output, Nat.le_trans h.size k.size, fun j hj h1 h2 => (k.block j (Nat.lt_of_lt_of_le hj h.size) h1 h2).trans (h.block j hj h1 h2)⟩
theorem Two.of_below {b1 b2 : Nat} {w w' : World} (h : Below w.heap.size w w') : Two b1 b2 w w' := ⟨h.os, h.tape, h.output, h.size, fun k hk _ _ => h.block k hk⟩
theorem Two.below {b1 b2 B : Nat} {w w' : World} (h : Two b1 b2 w w') (h1 : B ≤ b1) (h2 : B ≤ b2) (hB : B ≤ w.heap.size) : Below B w w' :=
  ⟨h.os, h.tape, h.output, h.size, fun k hk => h.block k (by omega) (by omega) (by omega)⟩
theorem Two.set1 {b1 b2 j : Nat} {w w' : World} (h : Two b1 b2 w w') (u : Value) : Two b1 b2 w (w'.setCell ⟨b1, j, none⟩ u) :=
  ⟨h.os, h.tape, h.output, by simpa using h.size, fun k hk h1 h2 => (heap_setCell_other w' ⟨b1, j, none⟩ k u (by simpa using h1)).trans (h.block k hk h1 h2)⟩
theorem Two.set2 {b1 b2 j : Nat} {w w' : World} (h : Two b1 b2 w w') (u : Value) : Two b1 b2 w (w'.setCell ⟨b2, j, none⟩ u) :=
  ⟨h.os, h.tape, h.output, by simpa using h.size, fun k hk h1 h2 => (heap_setCell_other w' ⟨b2, j, none⟩ k u (by simpa using h2)).trans (h.block k hk h1 h2)⟩
/-- A block that holds just these cells. -/
def Blk (w : World) (g : Nat) (cs : Array Value) (t : TypeId) : Prop := w.heap[g]? = some (.cells cs t (0, 0))
theorem Blk.lt {w : World} {g : Nat} {cs : Array Value} {t : TypeId} (h : Blk w g cs t) : g < w.heap.size := lt_of_block h
theorem Blk.cell {w : World} {g : Nat} {cs : Array Value} {t : TypeId} (h : Blk w g cs t) (j : Nat) : w.cell? ⟨g, j, none⟩ = cs[j]? := cell_of_row w g j _ _ (0, 0) h
theorem Blk.fz {w : World} {g : Nat} {cs : Array Value} {t : TypeId} (h : Blk w g cs t) (j : Nat) : w.frozen? ⟨g, j, none⟩ = false := by unfold Blk at h; simp [World.frozen?, h]
theorem Blk.set {w : World} {g : Nat} {cs : Array Value} {t : TypeId} (h : Blk w g cs t) (j : Nat) (u : Value) : Blk (w.setCell ⟨g, j, none⟩ u) g (cs.setIfInBounds j u) t := heap_setCell_same w g j _ _ u h
theorem Blk.other {w : World} {g g' j : Nat} {cs : Array Value} {t : TypeId} (h : Blk w g cs t) (hne : g ≠ g') (u : Value) : Blk (w.setCell ⟨g', j, none⟩ u) g cs t := (heap_setCell_other w ⟨g', j, none⟩ g u (by simpa using hne)).trans h
theorem Blk.below {w w' : World} {B g : Nat} {cs : Array Value} {t : TypeId} (h : Blk w g cs t) (hb : Below B w w') (hg : g < B) : Blk w' g cs t := (hb.block g hg).trans h
theorem Blk.two {b1 b2 g : Nat} {w w' : World} {cs : Array Value} {t : TypeId} (h : Blk w g cs t) (ho : Two b1 b2 w w') (h1 : g ≠ b1) (h2 : g ≠ b2) : Blk w' g cs t := (ho.block g h.lt h1 h2).trans h
theorem blk_new (w : World) (cs : Array Value) (t : TypeId) : Blk (w.alloc (.cells cs t)) w.heap.size cs t := heap_alloc_new w _
end Go.Proofs.YtpedmebigcchnaaGreatDoor
