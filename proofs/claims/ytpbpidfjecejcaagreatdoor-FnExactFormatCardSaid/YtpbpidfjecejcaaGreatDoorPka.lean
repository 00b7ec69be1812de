import Derived.Laws.BitsAllLaws
import Derived.Test.YtpbpidfjecejcaaGreatDoorProg
import GoSem.Claim
import GoSem.ClaimJoined
import GoSem.ClaimMapViews
import Derived.JoinedTies
import Derived.KernelRfl
import Derived.RowKit
import Derived.WalkKit
import Derived.WalkSpells
import Derived.WalkLawsBesides
import Derived.Deep.QuietTactic
import Derived.BigQuiet
namespace Go.Proofs.YtpbpidfjecejcaaGreatDoor
/-- One step of the sum: the lowest bit goes out, the polynomial comes in where it was set. -/
def crcStep (c : Nat) : Nat := if c % 2 = 1 then (c / 2) ^^^ 3988292384 else c / 2
/-- The steps of the program: m of them over a sum that has taken its byte in. -/
def crcSteps : Nat → Nat → Nat
  | 0, c => c
  | m + 1, c => crcStep (crcSteps m c)
/-- The steps of the specification: the byte's bits are taken in one by one. -/
def specStep (c b m : Nat) : Nat := if (c ^^^ (b >>> m)) % 2 = 1 then (c / 2) ^^^ 3988292384 else c / 2
def specSteps (c b : Nat) : Nat → Nat
  | 0 => c
  | m + 1 => specStep (specSteps c b m) b m
def crcByte (c b : Nat) : Nat := crcSteps 8 (c ^^^ b)
def crcFold (c : Nat) (l : List Nat) : Nat := l.foldl crcByte c
theorem pair_steps (c b m : Nat) : crcSteps m (c ^^^ b) = specSteps c b m ^^^ (b >>> m) := by
  induction m with
  | zero => simp [crcSteps, specSteps]
  | succ m ih =>
    have hs : b >>> (m + 1) = (b >>> m) / 2 := by rw [Nat.shiftRight_succ]
    simp only [crcSteps, specSteps, ih]
    unfold crcStep specStep
    generalize specSteps c b m = x
    rw [hs]
    generalize b >>> m = y
    have hd : (x ^^^ y) / 2 = (x / 2) ^^^ (y / 2) := Nat.xor_div_two
    rw [hd]
    split
    · rw [Nat.xor_assoc, Nat.xor_assoc, Nat.xor_comm 3988292384]
    · rfl
theorem spec_byte (c b : Nat) (hb : b < 256) : specSteps c b 8 = crcByte c b := by
  unfold crcByte
  rw [pair_steps]
  have : b >>> 8 = 0 := by rw [Nat.shiftRight_eq_div_pow]; omega
  rw [this, Nat.xor_zero]
theorem crcStep_lt (c : Nat) (h : c < 4294967296) : crcStep c < 4294967296 := by
  unfold crcStep
  split
  · exact Nat.xor_lt_two_pow (n := 32) (by omega) (by omega)
  · omega
theorem crcSteps_lt (m c : Nat) (h : c < 4294967296) : crcSteps m c < 4294967296 := by
  induction m with
  | zero => exact h
  | succ m ih => exact crcStep_lt _ ih
theorem specSteps_lt (c b m : Nat) (h : c < 4294967296) : specSteps c b m < 4294967296 := by
  induction m with
  | zero => exact h
  | succ m ih =>
    unfold specSteps specStep
    split
    · exact Nat.xor_lt_two_pow (n := 32) (by omega) (by omega)
    · omega
theorem crcByte_lt (c b : Nat) (h : c < 4294967296) (hb : b < 256) : crcByte c b < 4294967296 :=
  crcSteps_lt _ _ (Nat.xor_lt_two_pow (n := 32) (by omega) (by omega))
theorem crcFold_lt (l : List Nat) (hl : ∀ x ∈ l, x < 256) (c : Nat) (h : c < 4294967296) : crcFold c l < 4294967296 := by
  induction l generalizing c with
  | nil => exact h
  | cons x r ih => exact ih (fun y hy => hl y (List.mem_cons_of_mem _ hy)) _ (crcByte_lt c x h (hl x List.mem_cons_self))
theorem crcFold_snoc (c : Nat) (l : List Nat) (x : Nat) : crcFold c (l ++ [x]) = crcByte (crcFold c l) x := by
  simp [crcFold]
theorem cast_shr (x m : Nat) : ((x : Int) / 2 ^ m) = ((x >>> m : Nat) : Int) := by
  rw [Nat.shiftRight_eq_div_pow]; simp
theorem shr_lt (x m : Nat) (hx : x < 256) : x >>> m < 4294967296 := by
  rw [Nat.shiftRight_eq_div_pow]; exact Nat.lt_of_le_of_lt (Nat.div_le_self _ _) (by omega)
theorem spec_bit (c x m : Nat) (hc : c < 4294967296) (hx : x < 256) :
    bits .and .u32 (bits .xor .u32 (c : Int) ((x : Int) / 2 ^ m)) 1 = (((c ^^^ (x >>> m)) % 2 : Nat) : Int) := by
  have hs := shr_lt x m hx
  have hx2 : c ^^^ (x >>> m) < 4294967296 := Nat.xor_lt_two_pow (n := 32) (by omega) (by omega)
  rw [cast_shr, u32_xor_nat c _ hc hs]
  have h := u32_and_nat (c ^^^ (x >>> m)) 1 hx2 (by decide)
  rw [nat_mask1] at h
  exact h
theorem half_xor (c : Nat) (hc : c < 4294967296) : bits .xor .u32 ((c : Int) / 2) 3988292384 = (((c / 2) ^^^ 3988292384 : Nat) : Int) := by
  have h := u32_xor_nat (c / 2) 3988292384 (by omega) (by decide)
  have e : ((c : Int) / 2) = ((c / 2 : Nat) : Int) := by omega
  rw [e]; exact h
theorem spec_hit {c x m : Nat} (hc : c < 4294967296) (hx : x < 256) (h : (bits .and .u32 (bits .xor .u32 (c : Int) ((x : Int) / 2 ^ m)) 1 == 1) = true) :
    bits .xor .u32 ((c : Int) / 2) 3988292384 = ((specStep c x m : Nat) : Int) := by
  rw [spec_bit c x m hc hx] at h
  have h' : (c ^^^ (x >>> m)) % 2 = 1 := by simp at h; omega
  unfold specStep; rw [if_pos h']; exact half_xor c hc
theorem spec_miss {c x m : Nat} (hc : c < 4294967296) (hx : x < 256) (h : (bits .and .u32 (bits .xor .u32 (c : Int) ((x : Int) / 2 ^ m)) 1 == 1) = false) :
    ((c : Int) / 2) = ((specStep c x m : Nat) : Int) := by
  rw [spec_bit c x m hc hx] at h
  have h' : ¬ (c ^^^ (x >>> m)) % 2 = 1 := by simp at h; omega
  unfold specStep; rw [if_neg h']; omega
theorem low_bit (c : Nat) (hc : c < 4294967296) : bits .and .u32 (c : Int) 1 = ((c % 2 : Nat) : Int) := by
  have h := u32_and_nat c 1 hc (by decide)
  rw [nat_mask1] at h
  exact h
theorem step_hit {c : Nat} (hc : c < 4294967296) (h : (bits .and .u32 (c : Int) 1 == 1) = true) : bits .xor .u32 ((c : Int) / 2) 3988292384 = ((crcStep c : Nat) : Int) := by
  rw [low_bit c hc] at h
  have h' : c % 2 = 1 := by simp at h; omega
  unfold crcStep; rw [if_pos h']; exact half_xor c hc
theorem step_miss {c : Nat} (hc : c < 4294967296) (h : (bits .and .u32 (c : Int) 1 == 1) = false) : ((c : Int) / 2) = ((crcStep c : Nat) : Int) := by
  rw [low_bit c hc] at h
  have h' : ¬ c % 2 = 1 := by simp at h; omega
  unfold crcStep; rw [if_neg h']; omega
theorem xor_byte (c x : Nat) (hc : c < 4294967296) (hx : x < 256) : bits .xor .u32 (c : Int) (x : Int) = ((c ^^^ x : Nat) : Int) := u32_xor_nat c x hc (by omega)
def crcOf (l : List Nat) : Nat := 4294967295 ^^^ crcFold 4294967295 l
theorem crcOf_lt (l : List Nat) (hl : ∀ x ∈ l, x < 256) : crcOf l < 4294967296 :=
  Nat.xor_lt_two_pow (n := 32) (by decide) (crcFold_lt l hl _ (by decide))
theorem out_eq (c : Nat) (hc : c < 4294967296) : bits .xor .u32 IntKind.u32.max (c : Int) = ((4294967295 ^^^ c : Nat) : Int) := by
  have e : IntKind.u32.max = ((4294967295 : Nat) : Int) := by decide
  rw [e]; exact u32_xor_nat 4294967295 c (by decide) hc
theorem ret_int {k : IntKind} {a b : Int} (h : a = b) : Ending.returned (.int k a) = .returned (.int k b) := by rw [h]
theorem val_int {k : IntKind} {a b : Int} (h : a = b) : Value.int k a = .int k b := by rw [h]
end Go.Proofs.YtpbpidfjecejcaaGreatDoor
namespace Go.Proofs.YtpbpidfjecejcaaGreatDoor
open Go.RowKit
theorem hide {p : Prop} (h : p) : Hid p := h
theorem unhide {p : Prop} (h : Hid p) : p := h
/-- The bytes 'l' lie at 'a' (where there are any). -/
def RowAt (w : World) (a : Option Addr) (l : List Nat) : Prop :=
  0 < l.length → ∃ b off, a = some ⟨b, off, none⟩ ∧ ∀ i (h : i < l.length), w.cell? ⟨b, off + i, none⟩ = some (.int .u8 ((l[i] : Nat) : Int))
def bv (x : Nat) : Value := .int .u8 (x : Int)
/-- v is a slice of the call's own (its block is 'base' or later) that holds the bytes 'l'. -/
def OwnB (w : World) (base : Nat) (v : Value) (l : List Nat) : Prop := w.ownsRow base 5 1 v l.length (l.map bv)
theorem lt_of_cell0 {w : World} {a : Addr} {v : Value} (h : w.cell? a = some v) : a.block < w.heap.size := World.block_lt_of_cell? w a h
theorem RowAt.below {w w' : World} {a : Option Addr} {l : List Nat} (h : RowAt w a l) (hb : Below w.heap.size w w') : RowAt w' a l := fun hp => by
  obtain ⟨b, off, rfl, hc⟩ := h hp
  exact ⟨b, off, rfl, fun i hi => by rw [hb.cell (p := ⟨b, off + i, none⟩) (lt_of_cell0 (hc i hi))]; exact hc i hi⟩
theorem OwnB.slice {w : World} {base : Nat} {v : Value} {l : List Nat} (h : OwnB w base v l) : ∃ a cap, v = .slice a l.length cap := by
  rcases h.2 with ⟨rfl, hn⟩ | ⟨g, cap, cur, rfl, _⟩
  · exact ⟨none, 0, by rw [hn]⟩
  · exact ⟨_, cap, rfl⟩
theorem OwnB.row {w : World} {base : Nat} {a : Option Addr} {n cap : Nat} {l : List Nat} (h : OwnB w base (.slice a n cap) l) : RowAt w a l := fun hp => by
  rcases h.2 with ⟨_, hn⟩ | ⟨g, cap', cur, h', _, hg, hc, _, hs, htake⟩
  · omega
  · simp only [Value.slice.injEq] at h'
    obtain ⟨rfl, _, _⟩ := h'
    refine ⟨g, 0, rfl, fun i hi => ?_⟩
    rw [Nat.zero_add, cell_of_row w g i cur 5 (0, 0) hg]
    have e : cur.toList[i]? = (l.map bv)[i]? := by rw [← htake, List.getElem?_take, if_pos (by omega)]
    rw [← Array.getElem?_toList, e]
    simp [hi, bv]
theorem OwnB.below {B base : Nat} {w w' : World} {v : Value} {l : List Nat} (h : OwnB w base v l) (hb : Below B w w') (hB : w.heap.size ≤ B) : OwnB w' base v l := by
  refine ⟨h.1, ?_⟩
  rcases h.2 with hn | ⟨g, cap, cur, rfl, hbase, hg, rest⟩
  · exact .inl hn
  · exact .inr ⟨g, cap, cur, rfl, hbase, (hb.block g (Nat.lt_of_lt_of_le (lt_of_block hg) hB)).trans hg, rest⟩
theorem OwnB.nil (w : World) (base : Nat) : OwnB w base (.slice none 0 0) [] := World.ownsRow_nil w base 5 1
theorem OwnB.mono {w : World} {base base' : Nat} {v : Value} {l : List Nat} (h : OwnB w base v l) (hb : base' ≤ base) : OwnB w base' v l := by
  refine ⟨h.1, ?_⟩
  rcases h.2 with hn | ⟨g, cap, cur, rfl, hbase, rest⟩
  · exact .inl hn
  · exact .inr ⟨g, cap, cur, rfl, Nat.le_trans hb hbase, rest⟩
/-- Blocks outside [lo, hi) are as they were. -/
structure Out (lo hi : Nat) (w w' : World) : Prop where
  os : w'.os = w.os
  tape : w'.tape = w.tape
  output : w'.output = w.output
  size : w.heap.size ≤ w'.heap.size
  block : ∀ k, k < w.heap.size → k < lo ∨ hi ≤ k → w'.heap[k]? = w.heap[k]?
theorem Out.refl (lo hi : Nat) (w : World) : Out lo hi w w := ⟨rfl, rfl, rfl, Nat.le_refl _, fun _ _ _ => rfl⟩
theorem Out.trans {lo hi : Nat} {a b c : World} (h : Out lo hi a b) (k : Out lo hi b c) : Out lo hi a c :=
  ⟨k.os.trans h.os, k.tape.trans h.tape, k.output.trans h.output, Nat.le_trans h.size k.size, fun i hi ho => (k.block i (Nat.lt_of_lt_of_le hi h.size) ho).trans (h.block i hi ho)⟩
theorem Out.of_grown {lo hi : Nat} {w w' : World} {row : Option Nat} (h : w.grownBy w' row) (hr : ∀ k, row = some k → lo ≤ k ∧ k < hi) : Out lo hi w w' :=
  ⟨h.os, h.tape, h.output, h.size, fun k hk ho => h.block k hk (fun e => by have := hr k e.symm; omega)⟩
theorem Out.below {lo hi B : Nat} {w w' : World} (h : Out lo hi w w') (h1 : B ≤ lo) (h2 : B ≤ w.heap.size) : Below B w w' :=
  ⟨h.os, h.tape, h.output, h.size, fun k hk => h.block k (by omega) (.inl (by omega))⟩
theorem Out.mono {lo hi lo' hi' : Nat} {w w' : World} (h : Out lo hi w w') (h1 : lo' ≤ lo) (h2 : hi ≤ hi') : Out lo' hi' w w' :=
  ⟨h.os, h.tape, h.output, h.size, fun k hk ho => h.block k hk (by omega)⟩
theorem Out.of_below {lo hi : Nat} {w w' : World} (h : Below w.heap.size w w') : Out lo hi w w' := ⟨h.os, h.tape, h.output, h.size, fun k hk _ => h.block k hk⟩
theorem OwnB.out {lo hi base : Nat} {w w' : World} {v : Value} {l : List Nat} (h : OwnB w base v l) (ho : Out lo hi w w') (hb : hi ≤ base) : OwnB w' base v l := by
  refine ⟨h.1, ?_⟩
  rcases h.2 with hn | ⟨g, cap, cur, rfl, hbase, hg, rest⟩
  · exact .inl hn
  · exact .inr ⟨g, cap, cur, rfl, hbase, (ho.block g (lt_of_block hg) (.inr (Nat.le_trans hb hbase))).trans hg, rest⟩
theorem grown_trans {w w1 w2 : World} {row : Option Nat} (h : w.grownBy w1 row) (k : w1.grownBy w2 row) : w.grownBy w2 row :=
  ⟨k.os.trans h.os, k.tape.trans h.tape, k.output.trans h.output, Nat.le_trans h.size k.size, fun i hi ho => (k.block i (Nat.lt_of_lt_of_le hi h.size) ho).trans (h.block i hi ho)⟩
theorem grown_refl (w : World) (row : Option Nat) : w.grownBy w row := ⟨rfl, rfl, rfl, Nat.le_refl _, fun _ _ _ => rfl⟩
theorem addr_add (b off i : Nat) : Addr.add ⟨b, off, none⟩ i = ⟨b, off + i, none⟩ := by
  unfold Addr.add; split
  · next h => subst h; rfl
  · rfl
theorem ret_bool {a b : Bool} (h : a = b) : Ending.returned (.bool a) = .returned (.bool b) := by rw [h]
theorem Tryz.info5 : (Tryz.prog.info? 5).map (fun i => (i.zero, i.size, i.bytes)) = some (some (.int .u8 0), 1, 1) := by kernel_rfl
/-- append of bytes that lie somewhere onto a slice of the call's own. -/
theorem wpList_append_bytes {ops : Array Oper} {rest : List Oper} {o : Oper} {act : Act} {Q : Exit → Act → World → Prop} (w : World) (hgd : o.guard = none) (s x : Operand)
    (ho : o.op = .call { callee := .builtin .append, args := #[s, x], argTypes := #[52, 52] })
    (base : Nat) (v : Value) (l m : List Nat) (hs : act.eval s = v) (hown : OwnB w base v l) (ad : Option Addr) (c : Nat) (hx : act.eval x = .slice ad m.length c) (hr : RowAt w ad m) (hm : 0 < m.length)
    (hlen : l.length + m.length ≤ 1099511627776) (hbase : base ≤ w.heap.size)
    (h : ∀ v' w', OwnB w' base v' (l ++ m) → w.grownBy w' v.ownBlock → wpList Tryz.prog ops Q rest (act.put o.dst v') w') : wpList Tryz.prog ops Q (o :: rest) act w := by
  obtain ⟨i0, hi, hz0, hz1, hz2⟩ := info_parts Tryz.info5
  obtain ⟨b, off, rfl, hc⟩ := hr hm
  refine wpList_append_own w hgd s x 52 ho base 5 i0 (.int .u8 0) 1 1 Tryz.underlying52 hi hz0 hz1 hz2 rfl (by decide) v l.length (l.map bv) hs hown ⟨b, off, none⟩ m.length c (m.map bv) hx (by simp) ?_ ?_ (by unfold maxLen; omega) (by omega) hbase ?_
  · intro j u hj
    rw [addr_add]
    have hjm : j < m.length := by
      rcases Nat.lt_or_ge j m.length with h' | h'
      · exact h'
      · simp [List.getElem?_eq_none h'] at hj
    rw [hc j hjm]
    simp [hjm, bv] at hj
    rw [hj]
  · intro u hu
    simp only [List.mem_map] at hu
    obtain ⟨y, _, rfl⟩ := hu
    rfl
  · intro v' w' hown' hg _
    refine h v' w' ?_ hg
    unfold OwnB
    rw [List.length_append, List.map_append]
    exact hown'
/-- make of n bytes. -/
theorem wpList_make_bytes {ops : Array Oper} {rest : List Oper} {o : Oper} {act : Act} {Q : Exit → Act → World → Prop} (w : World) (hgd : o.guard = none) (s x : Operand)
    (ho : o.op = Op.makeSlice 52 s x) (n : Nat) (hs : act.eval s = .int .i64 (n : Int)) (hx : act.eval x = .int .i64 (n : Int)) (hlen : n ≤ 1099511627776)
    (h : ∀ w', OwnB w' w.heap.size (.slice (some ⟨w.heap.size, 0, none⟩) n n) (List.replicate n 0) → Below w.heap.size w w' → wpList Tryz.prog ops Q rest (act.put o.dst (.slice (some ⟨w.heap.size, 0, none⟩) n n)) w') : wpList Tryz.prog ops Q (o :: rest) act w := by
  obtain ⟨i0, hi, hz0, hz1, hz2⟩ := info_parts Tryz.info5
  refine wpList_make_full w hgd s x 52 ho w.heap.size 5 i0 (.int .u8 0) 1 Tryz.underlying52 hi hz0 hz1 .i64 .i64 _ _ n hs hx rfl rfl (by rw [hz2]; omega) (by unfold maxLen; omega) (Nat.le_refl _) ?_
  intro w1 hown hgrow
  refine h w1 ?_ ((Below.refl _ _).grown hgrow (Nat.le_refl _) (fun k h => by cases h))
  unfold OwnB
  rw [List.length_replicate, List.map_replicate]
  have e : (madeCells (Value.int .u8 0).cells (n * 1)).toList = List.replicate n (bv 0) := by rw [Nat.mul_one]; exact toList_madeCells_one _ _
  rw [e] at hown; exact hown
/-- What a store into a byte of one's own leaves. -/
theorem OwnB.store {w : World} {base g n cap : Nat} {l : List Nat} (h : OwnB w base (.slice (some ⟨g, 0, none⟩) n cap) l) (k x : Nat) :
    OwnB (w.setCell ⟨g, k, none⟩ (bv x)) base (.slice (some ⟨g, 0, none⟩) n cap) (l.set k x) ∧ w.grownBy (w.setCell ⟨g, k, none⟩ (bv x)) (some g) := by
  obtain ⟨a, c, e⟩ := h.slice
  simp only [Value.slice.injEq] at e
  obtain ⟨_, rfl, rfl⟩ := e
  have hs := World.ownsRow.stored h k (bv x)
  refine ⟨?_, hs.2⟩
  unfold OwnB
  rw [List.length_set, List.map_set]
  exact hs.1
theorem OwnB.cellAt {w : World} {base g n cap : Nat} {l : List Nat} (h : OwnB w base (.slice (some ⟨g, 0, none⟩) n cap) l) (k : Nat) (hk : k < l.length) : w.cell? ⟨g, k, none⟩ = some (.int .u8 ((l[k] : Nat) : Int)) := by
  obtain ⟨b, off, e, hc⟩ := h.row (by omega)
  simp only [Option.some.injEq, Addr.mk.injEq] at e
  obtain ⟨rfl, rfl, _⟩ := e
  have := hc k hk
  rwa [Nat.zero_add] at this
theorem OwnB.frozenAt {w : World} {base g n cap : Nat} {l : List Nat} (h : OwnB w base (.slice (some ⟨g, 0, none⟩) n cap) l) (k : Nat) : w.frozen? ⟨g, k, none⟩ = false := by
  obtain ⟨a, c, e⟩ := h.slice
  simp only [Value.slice.injEq] at e
  obtain ⟨_, rfl, rfl⟩ := e
  exact World.ownsRow.frozenAt h k
end Go.Proofs.YtpbpidfjecejcaaGreatDoor
namespace Go.Proofs.YtpbpidfjecejcaaGreatDoor
open Go.RowKit
/-- The rows 'ls' lie at 'a'. -/
def RowsAt (w : World) (a : Option Addr) (ls : List (List Nat)) : Prop :=
  0 < ls.length → ∃ b off, a = some ⟨b, off, none⟩ ∧ ∀ i (h : i < ls.length), ∃ ai ci, w.cell? ⟨b, off + i, none⟩ = some (.slice ai ls[i].length ci) ∧ RowAt w ai ls[i]
theorem RowsAt.below {w w' : World} {a : Option Addr} {ls : List (List Nat)} (h : RowsAt w a ls) (hb : Below w.heap.size w w') : RowsAt w' a ls := fun hp => by
  obtain ⟨b, off, rfl, hc⟩ := h hp
  refine ⟨b, off, rfl, fun i hi => ?_⟩
  obtain ⟨ai, ci, hc1, hr⟩ := hc i hi
  exact ⟨ai, ci, by rw [hb.cell (p := ⟨b, off + i, none⟩) (lt_of_cell0 hc1)]; exact hc1, hr.below hb⟩
def sumL : List (List Nat) → Nat
  | [] => 0
  | r :: rs => r.length + sumL rs
theorem sumL_append (a b : List (List Nat)) : sumL (a ++ b) = sumL a + sumL b := by
  induction a with
  | nil => simp [sumL]
  | cons x r ih => simp [sumL, ih]; omega
theorem sumL_take_succ (ls : List (List Nat)) (k : Nat) (h : k < ls.length) : sumL (ls.take (k + 1)) = sumL (ls.take k) + ls[k].length := by
  rw [List.take_succ_eq_append_getElem h, sumL_append]; simp [sumL]
theorem sumL_take_le (ls : List (List Nat)) (k : Nat) : sumL (ls.take k) ≤ sumL ls := by
  have h := sumL_append (ls.take k) (ls.drop k)
  rw [List.take_append_drop] at h; omega
theorem len_le_sum (ls : List (List Nat)) (r : List Nat) (h : r ∈ ls) : r.length ≤ sumL ls := by
  induction ls with
  | nil => cases h
  | cons x t ih =>
    simp only [sumL]
    rcases List.mem_cons.1 h with rfl | h'
    · omega
    · have := ih h'; omega
theorem Tryz.info52 : (Tryz.prog.info? 52).map (fun i => (i.zero, i.size, i.bytes)) = some (some (.slice none 0 0), 1, 24) := by kernel_rfl
/-- v is a slice of the call's own whose elements, vs, are slices of the call's own, each with a row for itself. -/
def OwnBV (w : World) (lo : Nat) (v : Value) (vs : List Value) (ls : List (List Nat)) : Prop :=
  w.ownsRow lo 52 1 v ls.length vs ∧ (∀ i (h : i < ls.length), ∃ x, vs[i]? = some x ∧ OwnB w lo x ls[i]) ∧ vs.Pairwise fun x y => x.ownBlock = none ∨ x.ownBlock ≠ y.ownBlock
def OwnBB (w : World) (lo : Nat) (v : Value) (ls : List (List Nat)) : Prop := ∃ vs : List Value, OwnBV w lo v vs ls
theorem OwnBV.lt {w : World} {lo : Nat} {v : Value} {vs : List Value} {ls : List (List Nat)} (h : OwnBV w lo v vs ls) : ∀ x ∈ vs, ∀ g, x.ownBlock = some g → g < w.heap.size := by
  intro x hx g hg
  obtain ⟨h1, h2, _⟩ := h
  obtain ⟨i, hi, rfl⟩ := List.getElem_of_mem hx
  have hl : vs.length = ls.length := by have := h1.1; omega
  obtain ⟨y, hy, ho⟩ := h2 i (by omega)
  rw [List.getElem?_eq_getElem hi] at hy
  simp only [Option.some.injEq] at hy
  subst hy
  exact (World.ownsRow.lt ho g hg).2
theorem OwnBB.slice {w : World} {base : Nat} {v : Value} {ls : List (List Nat)} (h : OwnBB w base v ls) : ∃ a cap, v = .slice a ls.length cap := by
  obtain ⟨vs, h, _⟩ := h
  rcases h.2 with ⟨rfl, hn⟩ | ⟨g, cap, cur, rfl, _⟩
  · exact ⟨none, 0, by rw [hn]⟩
  · exact ⟨_, cap, rfl⟩
theorem outer_cell {w : World} {base e : Nat} {a : Option Addr} {n cap : Nat} {vs : List Value} (h : w.ownsRow base e 1 (.slice a n cap) n vs) (hp : 0 < n) : ∃ g, a = some ⟨g, 0, none⟩ ∧ ∀ i x, vs[i]? = some x → w.cell? ⟨g, i, none⟩ = some x := by
  rcases h.2 with ⟨_, hn⟩ | ⟨g, cap', cur, h', _⟩
  · omega
  · simp only [Value.slice.injEq, true_and] at h'
    obtain ⟨rfl, rfl⟩ := h'
    refine ⟨g, rfl, fun i x hx => ?_⟩
    have := World.ownsRow.cells h (g := g) rfl i x hx
    rwa [addr_add, Nat.zero_add] at this
theorem OwnBB.rows {w : World} {base : Nat} {a : Option Addr} {n cap : Nat} {ls : List (List Nat)} (h : OwnBB w base (.slice a n cap) ls) : RowsAt w a ls := fun hp => by
  obtain ⟨a', c', e⟩ := h.slice
  simp only [Value.slice.injEq] at e
  obtain ⟨rfl, rfl, rfl⟩ := e
  obtain ⟨vs, h1, h2, _⟩ := h
  obtain ⟨g, rfl, hc⟩ := outer_cell h1 hp
  refine ⟨g, 0, rfl, fun i hi => ?_⟩
  obtain ⟨x, hx, ho⟩ := h2 i hi
  obtain ⟨ai, ci, rfl⟩ := ho.slice
  exact ⟨ai, ci, by rw [Nat.zero_add]; exact hc i _ hx, ho.row⟩
theorem own_keep {w w' : World} {base e n : Nat} {v : Value} {xs : List Value} (h : w.ownsRow base e 1 v n xs) (hk : ∀ g, base ≤ g → g < w.heap.size → w'.heap[g]? = w.heap[g]?) : w'.ownsRow base e 1 v n xs := by
  refine ⟨h.1, ?_⟩
  rcases h.2 with hn | ⟨g, cap, cur, rfl, hbase, hg, rest⟩
  · exact .inl hn
  · exact .inr ⟨g, cap, cur, rfl, hbase, (hk g hbase (lt_of_block hg)).trans hg, rest⟩
theorem OwnBB.keep {w w' : World} {base : Nat} {v : Value} {ls : List (List Nat)} (h : OwnBB w base v ls) (hk : ∀ g, base ≤ g → g < w.heap.size → w'.heap[g]? = w.heap[g]?) : OwnBB w' base v ls := by
  obtain ⟨vs, h1, h2, h3⟩ := h
  refine ⟨vs, own_keep h1 hk, fun i hi => ?_, h3⟩
  obtain ⟨x, hx, ho⟩ := h2 i hi
  exact ⟨x, hx, own_keep ho hk⟩
theorem OwnBB.below {B base : Nat} {w w' : World} {v : Value} {ls : List (List Nat)} (h : OwnBB w base v ls) (hb : Below B w w') (hB : w.heap.size ≤ B) : OwnBB w' base v ls := h.keep fun g _ hg => hb.block g (by omega)
theorem OwnBB.out {lo hi base : Nat} {w w' : World} {v : Value} {ls : List (List Nat)} (h : OwnBB w base v ls) (ho : Out lo hi w w') (hb : hi ≤ base) : OwnBB w' base v ls := h.keep fun g hg hs => ho.block g hs (.inr (by omega))
/-- A row's block is not its list's. -/
theorem inner_ne_outer {w : World} {b1 b2 e1 e2 n1 n2 : Nat} {v x : Value} {xs ys : List Value} (h1 : w.ownsRow b1 e1 1 v n1 xs) (h2 : w.ownsRow b2 e2 1 x n2 ys) (he : e1 ≠ e2) : v.ownBlock = none ∨ v.ownBlock ≠ x.ownBlock := by
  rcases h1.2 with ⟨rfl, _⟩ | ⟨g, cap, cur, rfl, _, hg, _⟩
  · exact .inl rfl
  · refine .inr fun e => ?_
    rcases h2.2 with ⟨rfl, _⟩ | ⟨g', cap', cur', rfl, _, hg', _⟩
    · simp [Value.ownBlock] at e
    · simp only [Value.ownBlock, Option.some.injEq] at e
      subst e
      rw [hg] at hg'
      simp only [Option.some.injEq, Obj.cells.injEq] at hg'
      exact he hg'.2.1
/-- Behind a change of one row. -/
theorem OwnBV.set_row {w w' : World} {base i : Nat} {v x : Value} {ls : List (List Nat)} {l : List Nat} {vs : List Value} (h1 : w.ownsRow base 52 1 v ls.length vs) (h2 : ∀ i (h : i < ls.length), ∃ x, vs[i]? = some x ∧ OwnB w base x ls[i])
    (h3 : vs.Pairwise fun x y => x.ownBlock = none ∨ x.ownBlock ≠ y.ownBlock) (hi : i < ls.length) (hx : vs[i]? = some x) (hox : OwnB w base x ls[i]) (ho : OwnB w' base x l) (hg : w.grownBy w' x.ownBlock) : OwnBV w' base v vs (ls.set i l) := by
  refine ⟨?_, fun j hj => ?_, h3⟩
  · rw [List.length_set]
    exact World.ownsRow.kept h1 hg (inner_ne_outer h1 hox (by decide))
  · by_cases e : i = j
    · subst e
      exact ⟨x, hx, by simpa using ho⟩
    · have hj' : j < ls.length := by simpa using hj
      obtain ⟨y, hy, hoy⟩ := h2 j hj'
      refine ⟨y, hy, ?_⟩
      have e2 : (ls.set i l)[j] = ls[j] := by simp [e]
      rw [e2]
      refine World.ownsRow.kept hoy hg ?_
      have hp := List.pairwise_iff_getElem.1 h3
      have hl : vs.length = ls.length := by have := h1.1; omega
      have ei : vs[i]'(by omega) = x := by rw [List.getElem?_eq_getElem (by omega)] at hx; simpa using hx
      have ej : vs[j]'(by omega) = y := by rw [List.getElem?_eq_getElem (by omega)] at hy; simpa using hy
      rcases Nat.lt_or_gt_of_ne e with h | h
      · have := hp i j (by omega) (by omega) h
        rw [ei, ej] at this
        rcases this with h' | h'
        · rw [h']; cases hb : y.ownBlock
          · exact .inl rfl
          · exact .inr (by simp)
        · exact .inr (fun e => h' e.symm)
      · have := hp j i (by omega) (by omega) h
        rw [ei, ej] at this
        exact this
theorem OwnBV.below {B base : Nat} {w w' : World} {v : Value} {vs : List Value} {ls : List (List Nat)} (h : OwnBV w base v vs ls) (hb : Below B w w') (hB : w.heap.size ≤ B) : OwnBV w' base v vs ls := by
  obtain ⟨h1, h2, h3⟩ := h
  have hk : ∀ g, base ≤ g → g < w.heap.size → w'.heap[g]? = w.heap[g]? := fun g _ hg => hb.block g (by omega)
  refine ⟨own_keep h1 hk, fun i hi => ?_, h3⟩
  obtain ⟨x, hx, ho⟩ := h2 i hi
  exact ⟨x, hx, own_keep ho hk⟩
theorem drew_more {w wr : World} (h : ∃ n, wr = w.drewN n) (m : Nat) : ∃ n, wr.drewN m = w.drewN n := by obtain ⟨n, rfl⟩ := h; exact ⟨n + m, World.drewN_drewN _ _ _⟩
theorem RowAt.drew {w : World} {a : Option Addr} {l : List Nat} (h : RowAt w a l) (n : Nat) : RowAt (w.drewN n) a l := h
theorem RowsAt.drew {w : World} {a : Option Addr} {ls : List (List Nat)} (h : RowsAt w a ls) (n : Nat) : RowsAt (w.drewN n) a ls := h
theorem take_eq_succ {l m : List Nat} {k : Nat} (h1 : k < l.length) (h2 : k < m.length) (h : l.take k = m.take k) (he : l[k] = m[k]) : l.take (k + 1) = m.take (k + 1) := by
  rw [List.take_succ_eq_append_getElem h1, List.take_succ_eq_append_getElem h2, h, he]
theorem ne_of_at {l m : List Nat} {k : Nat} (h1 : k < l.length) (h2 : k < m.length) (he : ¬ l[k] = m[k]) : ¬ l = m := fun h => he (by subst h; rfl)
end Go.Proofs.YtpbpidfjecejcaaGreatDoor
namespace Go.Proofs.YtpbpidfjecejcaaGreatDoor
open Go.RowKit
/-- The entries 'es' (name, node) lie at 'a'. -/
def EntAt (w : World) (a : Option Addr) (es : List (ByteArray × Int)) : Prop :=
  0 < es.length → ∃ b off, a = some ⟨b, off, none⟩ ∧ ∀ i (h : i < es.length), w.cell? ⟨b, off + i * 2, none⟩ = some (.string es[i].1) ∧ w.cell? ⟨b, off + i * 2 + 1, none⟩ = some (.int .i64 es[i].2)
theorem EntAt.below {w w' : World} {a : Option Addr} {es : List (ByteArray × Int)} (h : EntAt w a es) (hb : Below w.heap.size w w') : EntAt w' a es := fun hp => by
  obtain ⟨b, off, rfl, hc⟩ := h hp
  refine ⟨b, off, rfl, fun i hi => ?_⟩
  obtain ⟨h1, h2⟩ := hc i hi
  exact ⟨by rw [hb.cell (p := ⟨b, off + i * 2, none⟩) (lt_of_cell0 h1)]; exact h1, by rw [hb.cell (p := ⟨b, off + i * 2 + 1, none⟩) (lt_of_cell0 h2)]; exact h2⟩
theorem szEntry_any (s : ByteArray) (n left : Int) (w : World) (hs : s.size ≤ 9223372036854775807) (h0 : 0 ≤ left) (h1 : left ≤ 1048576) :
    Calls Tryz.prog 68 #[.agg #[.string s, .int .i64 n], .int .i64 left] w fun e w' => e = .returned (.int .i64 (if left < s.size then -1 else left - s.size)) ∧ Below w.heap.size w w' := by
  by_cases h : left < s.size
  · rw [if_pos h]
    go_enter Tryz.func68, Tryz.ntmps68
    go_wp2
    go_ret
    exact ⟨rfl, (Below.refl _ _).alloc (Nat.le_refl _) _⟩
  · rw [if_neg h]
    go_enter Tryz.func68, Tryz.ntmps68
    go_wp2
    go_ret
    exact ⟨rfl, (Below.refl _ _).alloc (Nat.le_refl _) _⟩
/-- What is left of 'left' behind 'n'. -/
def szRest (left n : Nat) : Int := if left < n then -1 else ((left - n : Nat) : Int)
theorem szRest_neg {left n : Nat} (h : left < n) : szRest left n = -1 := if_pos h
theorem szRest_pos {left n : Nat} (h : n ≤ left) : szRest left n = (left : Int) - (n : Int) := by rw [szRest, if_neg (by omega)]; omega
def sumE : List (ByteArray × Int) → Nat
  | [] => 0
  | e :: es => e.1.size + sumE es
theorem sumE_append (a b : List (ByteArray × Int)) : sumE (a ++ b) = sumE a + sumE b := by
  induction a with
  | nil => simp [sumE]
  | cons x r ih => simp [sumE, ih]; omega
theorem sumE_take_succ (es : List (ByteArray × Int)) (k : Nat) (h : k < es.length) : sumE (es.take (k + 1)) = sumE (es.take k) + es[k].1.size := by
  rw [List.take_succ_eq_append_getElem h, sumE_append]; simp [sumE]
theorem sumE_take_le (es : List (ByteArray × Int)) (k : Nat) : sumE (es.take k) ≤ sumE es := by
  have h := sumE_append (es.take k) (es.drop k)
  rw [List.take_append_drop] at h; omega
theorem szEntryS_any (a : Option Addr) (cap : Nat) (es : List (ByteArray × Int)) (left : Nat) (w : World) (hl : left ≤ 1048576) (hn : es.length ≤ 9223372036854775807) (hes : ∀ e ∈ es, e.1.size ≤ 9223372036854775807) (hr : EntAt w a es) :
    Calls Tryz.prog 38 #[.slice a es.length cap, .int .i64 (left : Int)] w fun e w' => e = .returned (.int .i64 (szRest left (es.length + sumE es))) ∧ Below w.heap.size w w' := by
  by_cases hbig : left < es.length
  · rw [szRest_neg (by omega)]
    go_enter Tryz.func38, Tryz.ntmps38
    go_wp2
    go_ret
    exact ⟨rfl, Below.refl _ _⟩
  · go_enter Tryz.func38, Tryz.ntmps38
    go_wp2
    go_loopw [1, 5] (fun s i wr => ∃ k : Nat, k ≤ es.length ∧ i = .int .i64 k ∧ es.length + sumE (es.take k) ≤ left ∧ s = .int .i64 ((left : Int) - (es.length : Int) - (sumE (es.take k) : Int)) ∧ Below w.heap.size w wr) (fun _ i _ => es.length - (intOf i).toNat)
    case atStart => exact ⟨0, Nat.zero_le _, rfl, by simp [sumE]; omega, val_int (by simp [sumE]), Below.refl _ _⟩
    case round =>
      obtain ⟨k, hk, rfl, hs, rfl, hnx⟩ := hrel
      by_cases hlt : k < es.length
      · obtain ⟨b, off, rfl, hc⟩ := (hr.below hnx) (by omega)
        obtain ⟨hc0, hc1⟩ := hc k hlt
        have hkl := hes _ (List.getElem_mem hlt)
        have HS := hide (sumE_take_succ es k hlt)
        have HT := hide (sumE_take_le es (k + 1))
        generalize sumE (es.take k) = s0 at hs HS ⊢
        clear hc hr hes
        generalize es[k] = e0 at hc0 hc1 hkl HS
        obtain ⟨nm, nd⟩ := e0
        simp only at hc0 hc1 hkl HS
        by_cases hfit : es.length + s0 + nm.size ≤ left
        · go_wp2_with fail
          refine (szEntry_any nm nd _ wr hkl (by omega) (by omega)).mono ?_
          rintro e w' ⟨rfl, hb⟩
          rw [if_neg (by omega)]
          have hnx' := hnx.trans (hb.mono hnx.size)
          clear hc0 hc1
          go_wp2
          go_round
          case rel => exact ⟨k + 1, by omega, by go_num, by rw [HS.out]; omega, val_int (by rw [HS.out]; omega), hnx'⟩
          case measure => simp [intOf]; omega
        · go_wp2_with fail
          refine (szEntry_any nm nd _ wr hkl (by omega) (by omega)).mono ?_
          rintro e w' ⟨rfl, hb⟩
          rw [if_pos (by omega)]
          have hnx' := hnx.trans (hb.mono hnx.size)
          clear hc0 hc1
          go_wp2
          go_ret
          exact ⟨by rw [szRest_neg (by have := HS.out; have := HT.out; omega)]; rfl, hnx'⟩
      · have he : es.take k = es := List.take_of_length_le (by omega)
        rw [he] at hs ⊢
        clear he
        go_wp2
        go_ret
        exact ⟨by rw [szRest_pos hs]; exact congrArg Ending.returned (val_int (by omega)), hnx⟩
end Go.Proofs.YtpbpidfjecejcaaGreatDoor
namespace Go.Proofs.YtpbpidfjecejcaaGreatDoor
open Go.RowKit
/-- The steps 'es' (kind, name, to, node) lie at 'a'. -/
def OpAt (w : World) (a : Option Addr) (es : List (Int × ByteArray × ByteArray × Int)) : Prop :=
  0 < es.length → ∃ b off, a = some ⟨b, off, none⟩ ∧ ∀ i (h : i < es.length), w.cell? ⟨b, off + i * 4, none⟩ = some (.int .i64 es[i].1) ∧ w.cell? ⟨b, off + i * 4 + 1, none⟩ = some (.string es[i].2.1) ∧ w.cell? ⟨b, off + i * 4 + 2, none⟩ = some (.string es[i].2.2.1) ∧ w.cell? ⟨b, off + i * 4 + 3, none⟩ = some (.int .i64 es[i].2.2.2)
theorem OpAt.below {w w' : World} {a : Option Addr} {es : List (Int × ByteArray × ByteArray × Int)} (h : OpAt w a es) (hb : Below w.heap.size w w') : OpAt w' a es := fun hp => by
  obtain ⟨b, off, rfl, hc⟩ := h hp
  refine ⟨b, off, rfl, fun i hi => ?_⟩
  obtain ⟨h1, h2, h3, h4⟩ := hc i hi
  exact ⟨by rw [hb.cell (p := ⟨b, off + i * 4, none⟩) (lt_of_cell0 h1)]; exact h1, by rw [hb.cell (p := ⟨b, off + i * 4 + 1, none⟩) (lt_of_cell0 h2)]; exact h2, by rw [hb.cell (p := ⟨b, off + i * 4 + 2, none⟩) (lt_of_cell0 h3)]; exact h3, by rw [hb.cell (p := ⟨b, off + i * 4 + 3, none⟩) (lt_of_cell0 h4)]; exact h4⟩
theorem szDirOp_any (k : Int) (s t : ByteArray) (n left : Int) (w : World) (hs : s.size ≤ 9223372036854775807) (ht : t.size ≤ 9223372036854775807) (h0 : 0 ≤ left) (h1 : left ≤ 1048576) :
    Calls Tryz.prog 69 #[.agg #[.int .i64 k, .string s, .string t, .int .i64 n], .int .i64 left] w fun e w' => e = .returned (.int .i64 (if left < s.size + t.size then -1 else left - (s.size + t.size))) ∧ Below w.heap.size w w' := by
  by_cases h : left < s.size
  · rw [if_pos (by omega)]
    go_enter Tryz.func69, Tryz.ntmps69
    go_wp2
    go_ret
    exact ⟨rfl, (Below.refl _ _).alloc (Nat.le_refl _) _⟩
  · by_cases h' : left < s.size + t.size
    · rw [if_pos h']
      go_enter Tryz.func69, Tryz.ntmps69
      go_wp2
      go_ret
      exact ⟨rfl, (Below.refl _ _).alloc (Nat.le_refl _) _⟩
    · rw [if_neg h']
      go_enter Tryz.func69, Tryz.ntmps69
      go_wp2
      go_ret
      exact ⟨congrArg Ending.returned (val_int (by omega)), (Below.refl _ _).alloc (Nat.le_refl _) _⟩
def sumO : List (Int × ByteArray × ByteArray × Int) → Nat
  | [] => 0
  | e :: es => e.2.1.size + e.2.2.1.size + sumO es
theorem sumO_append (a b : List (Int × ByteArray × ByteArray × Int)) : sumO (a ++ b) = sumO a + sumO b := by
  induction a with
  | nil => simp [sumO]
  | cons x r ih => simp [sumO, ih]; omega
theorem sumO_take_succ (es : List (Int × ByteArray × ByteArray × Int)) (k : Nat) (h : k < es.length) : sumO (es.take (k + 1)) = sumO (es.take k) + (es[k].2.1.size + es[k].2.2.1.size) := by
  rw [List.take_succ_eq_append_getElem h, sumO_append]; simp [sumO]
theorem sumO_take_le (es : List (Int × ByteArray × ByteArray × Int)) (k : Nat) : sumO (es.take k) ≤ sumO es := by
  have h := sumO_append (es.take k) (es.drop k)
  rw [List.take_append_drop] at h; omega
theorem szDirOpS_any (a : Option Addr) (cap : Nat) (es : List (Int × ByteArray × ByteArray × Int)) (left : Nat) (w : World) (hl : left ≤ 1048576) (hn : es.length ≤ 9223372036854775807) (hes : ∀ e ∈ es, e.2.1.size ≤ 9223372036854775807 ∧ e.2.2.1.size ≤ 9223372036854775807) (hr : OpAt w a es) :
    Calls Tryz.prog 39 #[.slice a es.length cap, .int .i64 (left : Int)] w fun e w' => e = .returned (.int .i64 (szRest left (es.length + sumO es))) ∧ Below w.heap.size w w' := by
  by_cases hbig : left < es.length
  · rw [szRest_neg (by omega)]
    go_enter Tryz.func39, Tryz.ntmps39
    go_wp2
    go_ret
    exact ⟨rfl, Below.refl _ _⟩
  · go_enter Tryz.func39, Tryz.ntmps39
    go_wp2
    go_loopw [1, 5] (fun s i wr => ∃ k : Nat, k ≤ es.length ∧ i = .int .i64 k ∧ es.length + sumO (es.take k) ≤ left ∧ s = .int .i64 ((left : Int) - (es.length : Int) - (sumO (es.take k) : Int)) ∧ Below w.heap.size w wr) (fun _ i _ => es.length - (intOf i).toNat)
    case atStart => exact ⟨0, Nat.zero_le _, rfl, by simp [sumO]; omega, val_int (by simp [sumO]), Below.refl _ _⟩
    case round =>
      obtain ⟨k, hk, rfl, hs, rfl, hnx⟩ := hrel
      by_cases hlt : k < es.length
      · obtain ⟨b, off, rfl, hc⟩ := (hr.below hnx) (by omega)
        obtain ⟨hc0, hc1, hc2, hc3⟩ := hc k hlt
        have hkl := hes _ (List.getElem_mem hlt)
        have HS := hide (sumO_take_succ es k hlt)
        have HT := hide (sumO_take_le es (k + 1))
        generalize sumO (es.take k) = s0 at hs HS ⊢
        clear hc hr hes
        generalize es[k] = e0 at hc0 hc1 hc2 hc3 hkl HS
        obtain ⟨kd, nm, tn, nd⟩ := e0
        simp only at hc0 hc1 hc2 hc3 hkl HS
        obtain ⟨hkl, hkt⟩ := hkl
        by_cases hfit : es.length + s0 + (nm.size + tn.size) ≤ left
        · go_wp2_with fail
          refine (szDirOp_any kd nm tn nd _ wr hkl hkt (by omega) (by omega)).mono ?_
          rintro e w' ⟨rfl, hb⟩
          rw [if_neg (by omega)]
          have hnx' := hnx.trans (hb.mono hnx.size)
          clear hc0 hc1 hc2 hc3
          go_wp2
          go_round
          case rel => exact ⟨k + 1, by omega, by go_num, by rw [HS.out]; omega, val_int (by rw [HS.out]; omega), hnx'⟩
          case measure => simp [intOf]; omega
        · go_wp2_with fail
          refine (szDirOp_any kd nm tn nd _ wr hkl hkt (by omega) (by omega)).mono ?_
          rintro e w' ⟨rfl, hb⟩
          rw [if_pos (by omega)]
          have hnx' := hnx.trans (hb.mono hnx.size)
          clear hc0 hc1 hc2 hc3
          go_wp2
          go_ret
          exact ⟨by rw [szRest_neg (by have := HS.out; have := HT.out; omega)]; rfl, hnx'⟩
      · have he : es.take k = es := List.take_of_length_le (by omega)
        rw [he] at hs ⊢
        clear he
        go_wp2
        go_ret
        exact ⟨by rw [szRest_pos hs]; exact congrArg Ending.returned (val_int (by omega)), hnx⟩
end Go.Proofs.YtpbpidfjecejcaaGreatDoor
