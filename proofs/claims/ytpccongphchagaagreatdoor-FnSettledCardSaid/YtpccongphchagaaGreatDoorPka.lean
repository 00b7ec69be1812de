import Derived.Laws.BitsAllLaws
import Derived.Test.YtpccongphchagaaGreatDoorProg
import GoSem.Claim
import GoSem.ClaimJoined
import GoSem.ClaimMapViews
import Derived.JoinedTies
import Derived.KernelRfl
import Derived.RowKit
import Derived.WalkKit
import Derived.WalkSpells
import Derived.WalkLawsBesides
import Derived.Deep.QuietTactic
import Derived.BigQuiet
namespace Go.Proofs.YtpccongphchagaaGreatDoor
/-- One step of the sum: the lowest bit goes out, the polynomial comes in where it was set. -/
def crcStep (c : Nat) : Nat := if c % 2 = 1 then (c / 2) ^^^ 3988292384 else c / 2
/-- The steps of the program: m of them over a sum that has taken its byte in. -/
def crcSteps : Nat → Nat → Nat
  | 0, c => c
  | m + 1, c => crcStep (crcSteps m c)
/-- The steps of the specification: the byte's bits are taken in one by one. -/
def specStep (c b m : Nat) : Nat := if (c ^^^ (b >>> m)) % 2 = 1 then (c / 2) ^^^ 3988292384 else c / 2
def specSteps (c b : Nat) : Nat → Nat
  | 0 => c
  | m + 1 => specStep (specSteps c b m) b m
def crcByte (c b : Nat) : Nat := crcSteps 8 (c ^^^ b)
def crcFold (c : Nat) (l : List Nat) : Nat := l.foldl crcByte c
theorem pair_steps (c b m : Nat) : crcSteps m (c ^^^ b) = specSteps c b m ^^^ (b >>> m) := by
  induction m with
  | zero => simp [crcSteps, specSteps]
  | succ m ih =>
    have hs : b >>> (m + 1) = (b >>> m) / 2 := by rw [Nat.shiftRight_succ]
    simp only [crcSteps, specSteps, ih]
    unfold crcStep specStep
    generalize specSteps c b m = x
    rw [hs]
    generalize b >>> m = y
    have hd : (x ^^^ y) / 2 = (x / 2) ^^^ (y / 2) := Nat.xor_div_two
    rw [hd]
    split
    · rw [Nat.xor_assoc, Nat.xor_assoc, Nat.xor_comm 3988292384]
    · rfl
theorem spec_byte (c b : Nat) (hb : b < 256) : specSteps c b 8 = crcByte c b := by
  unfold crcByte
  rw [pair_steps]
  have : b >>> 8 = 0 := by rw [Nat.shiftRight_eq_div_pow]; omega
  rw [this, Nat.xor_zero]
theorem crcStep_lt (c : Nat) (h : c < 4294967296) : crcStep c < 4294967296 := by
  unfold crcStep
  split
  · exact Nat.xor_lt_two_pow (n := 32) (by omega) (by omega)
  · omega
theorem crcSteps_lt (m c : Nat) (h : c < 4294967296) : crcSteps m c < 4294967296 := by
  induction m with
  | zero => exact h
  | succ m ih => exact crcStep_lt _ ih
theorem specSteps_lt (c b m : Nat) (h : c < 4294967296) : specSteps c b m < 4294967296 := by
  induction m with
  | zero => exact h
  | succ m ih =>
    unfold specSteps specStep
    split
    · exact Nat.xor_lt_two_pow (n := 32) (by omega) (by omega)
    · omega
theorem crcByte_lt (c b : Nat) (h : c < 4294967296) (hb : b < 256) : crcByte c b < 4294967296 :=
  crcSteps_lt _ _ (Nat.xor_lt_two_pow (n := 32) (by omega) (by omega))
theorem crcFold_lt (l : List Nat) (hl : ∀ x ∈ l, x < 256) (c : Nat) (h : c < 4294967296) : crcFold c l < 4294967296 := by
  induction l generalizing c with
  | nil => exact h
  | cons x r ih => exact ih (fun y hy => hl y (List.mem_cons_of_mem _ hy)) _ (crcByte_lt c x h (hl x List.mem_cons_self))
theorem crcFold_snoc (c : Nat) (l : List Nat) (x : Nat) : crcFold c (l ++ [x]) = crcByte (crcFold c l) x := by
  simp [crcFold]
theorem cast_shr (x m : Nat) : ((x : Int) / 2 ^ m) = ((x >>> m : Nat) : Int) := by
  rw [Nat.shiftRight_eq_div_pow]; simp
theorem shr_lt (x m : Nat) (hx : x < 256) : x >>> m < 4294967296 := by
  rw [Nat.shiftRight_eq_div_pow]; exact Nat.lt_of_le_of_lt (Nat.div_le_self _ _) (by omega)
theorem spec_bit (c x m : Nat) (hc : c < 4294967296) (hx : x < 256) :
    bits .and .u32 (bits .xor .u32 (c : Int) ((x : Int) / 2 ^ m)) 1 = (((c ^^^ (x >>> m)) % 2 : Nat) : Int) := by
  have hs := shr_lt x m hx
  have hx2 : c ^^^ (x >>> m) < 4294967296 := Nat.xor_lt_two_pow (n := 32) (by omega) (by omega)
  rw [cast_shr, u32_xor_nat c _ hc hs]
  have h := u32_and_nat (c ^^^ (x >>> m)) 1 hx2 (by decide)
  rw [nat_mask1] at h
  exact h
theorem half_xor (c : Nat) (hc : c < 4294967296) : bits .xor .u32 ((c : Int) / 2) 3988292384 = (((c / 2) ^^^ 3988292384 : Nat) : Int) := by
  have h := u32_xor_nat (c / 2) 3988292384 (by omega) (by decide)
  have e : ((c : Int) / 2) = ((c / 2 : Nat) : Int) := by omega
  rw [e]; exact h
theorem spec_hit {c x m : Nat} (hc : c < 4294967296) (hx : x < 256) (h : (bits .and .u32 (bits .xor .u32 (c : Int) ((x : Int) / 2 ^ m)) 1 == 1) = true) :
    bits .xor .u32 ((c : Int) / 2) 3988292384 = ((specStep c x m : Nat) : Int) := by
  rw [spec_bit c x m hc hx] at h
  have h' : (c ^^^ (x >>> m)) % 2 = 1 := by simp at h; omega
  unfold specStep; rw [if_pos h']; exact half_xor c hc
theorem spec_miss {c x m : Nat} (hc : c < 4294967296) (hx : x < 256) (h : (bits .and .u32 (bits .xor .u32 (c : Int) ((x : Int) / 2 ^ m)) 1 == 1) = false) :
    ((c : Int) / 2) = ((specStep c x m : Nat) : Int) := by
  rw [spec_bit c x m hc hx] at h
  have h' : ¬ (c ^^^ (x >>> m)) % 2 = 1 := by simp at h; omega
  unfold specStep; rw [if_neg h']; omega
theorem low_bit (c : Nat) (hc : c < 4294967296) : bits .and .u32 (c : Int) 1 = ((c % 2 : Nat) : Int) := by
  have h := u32_and_nat c 1 hc (by decide)
  rw [nat_mask1] at h
  exact h
theorem step_hit {c : Nat} (hc : c < 4294967296) (h : (bits .and .u32 (c : Int) 1 == 1) = true) : bits .xor .u32 ((c : Int) / 2) 3988292384 = ((crcStep c : Nat) : Int) := by
  rw [low_bit c hc] at h
  have h' : c % 2 = 1 := by simp at h; omega
  unfold crcStep; rw [if_pos h']; exact half_xor c hc
theorem step_miss {c : Nat} (hc : c < 4294967296) (h : (bits .and .u32 (c : Int) 1 == 1) = false) : ((c : Int) / 2) = ((crcStep c : Nat) : Int) := by
  rw [low_bit c hc] at h
  have h' : ¬ c % 2 = 1 := by simp at h; omega
  unfold crcStep; rw [if_neg h']; omega
theorem xor_byte (c x : Nat) (hc : c < 4294967296) (hx : x < 256) : bits .xor .u32 (c : Int) (x : Int) = ((c ^^^ x : Nat) : Int) := u32_xor_nat c x hc (by omega)
def crcOf (l : List Nat) : Nat := 4294967295 ^^^ crcFold 4294967295 l
theorem crcOf_lt (l : List Nat) (hl : ∀ x ∈ l, x < 256) : crcOf l < 4294967296 :=
  Nat.xor_lt_two_pow (n := 32) (by decide) (crcFold_lt l hl _ (by decide))
theorem out_eq (c : Nat) (hc : c < 4294967296) : bits .xor .u32 IntKind.u32.max (c : Int) = ((4294967295 ^^^ c : Nat) : Int) := by
  have e : IntKind.u32.max = ((4294967295 : Nat) : Int) := by decide
  rw [e]; exact u32_xor_nat 4294967295 c (by decide) hc
theorem ret_int {k : IntKind} {a b : Int} (h : a = b) : Ending.returned (.int k a) = .returned (.int k b) := by rw [h]
theorem val_int {k : IntKind} {a b : Int} (h : a = b) : Value.int k a = .int k b := by rw [h]
end Go.Proofs.YtpccongphchagaaGreatDoor
namespace Go.Proofs.YtpccongphchagaaGreatDoor
def hd2 (n : Nat) : List Nat := [n / 256 % 256, n % 256]
def be4 (c : Nat) : List Nat := [c / 16777216 % 256, c / 65536 % 256, c / 256 % 256, c % 256]
/-- The frame of a record. -/
def frameB (r : List Nat) : List Nat := hd2 r.length ++ be4 (crcOf (hd2 r.length ++ r)) ++ r
theorem frameB_length (r : List Nat) : (frameB r).length = 6 + r.length := by simp [frameB, hd2, be4]; omega
theorem hd2_lt (n : Nat) : ∀ x ∈ hd2 n, x < 256 := by
  intro x hx; simp [hd2] at hx; omega
theorem be4_lt (n : Nat) : ∀ x ∈ be4 n, x < 256 := by
  intro x hx; simp [be4] at hx; omega
theorem app_lt {a b : List Nat} (ha : ∀ x ∈ a, x < 256) (hb : ∀ x ∈ b, x < 256) : ∀ x ∈ a ++ b, x < 256 := by
  intro x hx; rcases List.mem_append.1 hx with h | h
  · exact ha x h
  · exact hb x h
theorem frameB_lt (r : List Nat) (h : ∀ x ∈ r, x < 256) : ∀ x ∈ frameB r, x < 256 := app_lt (app_lt (hd2_lt _) (be4_lt _)) h
theorem crc_two (a b : List Nat) : crcFold (crcFold 4294967295 a) b = crcFold 4294967295 (a ++ b) := by simp [crcFold]
/-- The frames of the records, or none where a record or the whole is out of bounds. -/
def frameGo (acc : List Nat) : List (List Nat) → Option (List Nat)
  | [] => some acc
  | r :: rs => if r.length < 1 ∨ 2000 < r.length ∨ 40000 < acc.length + 6 + r.length then none else frameGo (acc ++ frameB r) rs
def frameOf (ls : List (List Nat)) : List Nat := (frameGo [] ls).getD []
theorem frameGo_len (acc : List Nat) (ls : List (List Nat)) (r : List Nat) (ha : acc.length ≤ 40000) (h : frameGo acc ls = some r) : r.length ≤ 40000 := by
  induction ls generalizing acc with
  | nil => simp [frameGo] at h; subst h; exact ha
  | cons x t ih =>
    simp only [frameGo] at h
    split at h
    · cases h
    · exact ih _ (by rw [List.length_append, frameB_length]; omega) h
theorem frameOf_len (ls : List (List Nat)) : (frameOf ls).length ≤ 40000 := by
  unfold frameOf
  cases h : frameGo [] ls with
  | none => simp
  | some r => exact frameGo_len [] ls r (by simp) h
theorem frameGo_lt (acc : List Nat) (ls : List (List Nat)) (r : List Nat) (ha : ∀ x ∈ acc, x < 256) (hl : ∀ l ∈ ls, ∀ x ∈ l, x < 256) (h : frameGo acc ls = some r) : ∀ x ∈ r, x < 256 := by
  induction ls generalizing acc with
  | nil => simp [frameGo] at h; subst h; exact ha
  | cons x t ih =>
    simp only [frameGo] at h
    split at h
    · cases h
    · exact ih _ (app_lt ha (frameB_lt x (hl x List.mem_cons_self))) (fun l h' => hl l (List.mem_cons_of_mem _ h')) h
theorem frameOf_lt (ls : List (List Nat)) (hl : ∀ l ∈ ls, ∀ x ∈ l, x < 256) : ∀ x ∈ frameOf ls, x < 256 := by
  unfold frameOf
  cases h : frameGo [] ls with
  | none => intro x hx; simp at hx
  | some r => exact frameGo_lt [] ls r (fun x hx => by cases hx) hl h
end Go.Proofs.YtpccongphchagaaGreatDoor
namespace Go.Proofs.YtpccongphchagaaGreatDoor
/-- The length that the first two bytes tell. -/
def len2 (d : List Nat) : Nat := d.getD 0 0 * 256 + d.getD 1 0
/-- The record of the frame that d begins with. -/
def firstOf (d : List Nat) : Option (List Nat) :=
  if d.length < 6 then none
  else if len2 d < 1 ∨ 2000 < len2 d ∨ d.length < 6 + len2 d then none
  else if frameB ((d.drop 6).take (len2 d)) = d.take (6 + len2 d) then some ((d.drop 6).take (len2 d)) else none
theorem firstOf_short {d : List Nat} (h : d.length < 6) : firstOf d = none := by simp [firstOf, h]
theorem firstOf_bad {d : List Nat} (h0 : ¬ d.length < 6) (h : len2 d < 1 ∨ 2000 < len2 d ∨ d.length < 6 + len2 d) : firstOf d = none := by
  unfold firstOf; rw [if_neg h0, if_pos h]
theorem firstOf_no {d : List Nat} (h0 : ¬ d.length < 6) (h : ¬ (len2 d < 1 ∨ 2000 < len2 d ∨ d.length < 6 + len2 d)) (hf : ¬ frameB ((d.drop 6).take (len2 d)) = d.take (6 + len2 d)) : firstOf d = none := by
  unfold firstOf; rw [if_neg h0, if_neg h, if_neg hf]
theorem firstOf_yes {d : List Nat} (h0 : ¬ d.length < 6) (h : ¬ (len2 d < 1 ∨ 2000 < len2 d ∨ d.length < 6 + len2 d)) (hf : frameB ((d.drop 6).take (len2 d)) = d.take (6 + len2 d)) : firstOf d = some ((d.drop 6).take (len2 d)) := by
  unfold firstOf; rw [if_neg h0, if_neg h, if_pos hf]
theorem firstOf_len {d r : List Nat} (h : firstOf d = some r) : 1 ≤ r.length ∧ r.length ≤ 2000 ∧ 6 + r.length ≤ d.length := by
  unfold firstOf at h
  split at h
  · cases h
  · split at h
    · cases h
    · split at h
      · simp only [Option.some.injEq] at h
        subst h
        simp; omega
      · cases h
theorem firstOf_lt {d r : List Nat} (hd : ∀ x ∈ d, x < 256) (h : firstOf d = some r) : ∀ x ∈ r, x < 256 := by
  unfold firstOf at h
  split at h
  · cases h
  · split at h
    · cases h
    · split at h
      · simp only [Option.some.injEq] at h
        subst h
        intro x hx
        exact hd x (List.mem_of_mem_drop (List.mem_of_mem_take hx))
      · cases h
def unfGo (d : List Nat) : Nat → List (List Nat) → Nat → List (List Nat) × Nat
  | 0, rs, g => (rs, g)
  | f + 1, rs, g => match firstOf (d.drop g) with
    | none => (rs, g)
    | some r => unfGo d f (rs ++ [r]) (g + (6 + r.length))
def unfOf (d : List Nat) : List (List Nat) × Nat := if 40000 < d.length then ([], 0) else unfGo d d.length [] 0
theorem unf_none {d : List Nat} {f : Nat} {rs : List (List Nat)} {g : Nat} (h : firstOf (d.drop g) = none) : unfGo d f rs g = (rs, g) := by
  cases f with
  | zero => rfl
  | succ f => simp [unfGo, h]
theorem unf_some {d : List Nat} {f : Nat} {rs : List (List Nat)} {g : Nat} {r : List Nat} (hf : d.length ≤ g + f) (h : firstOf (d.drop g) = some r) : ∃ f', f = f' + 1 ∧ unfGo d f rs g = unfGo d f' (rs ++ [r]) (g + (6 + r.length)) ∧ d.length ≤ g + (6 + r.length) + f' := by
  have hl := firstOf_len h
  simp at hl
  cases f with
  | zero => omega
  | succ f => exact ⟨f, rfl, by simp [unfGo, h], by omega⟩
end Go.Proofs.YtpccongphchagaaGreatDoor
namespace Go.Proofs.YtpccongphchagaaGreatDoor
/-- The k-th byte of the code; past its end 0. -/
def nx (code : List Nat) (i : Nat) : Nat := code.getD i 0
def dataLen (c : Nat) : Nat := if c < 200 then c % 12 else c
def dataAt (code : List Nat) (i : Nat) : List Nat := (List.range (dataLen (nx code i))).map fun k => nx code (i + 1 + k)
def recAt (code : List Nat) (i : Nat) : List Nat := if dataAt code i = [] then [120] else dataAt code i
def recsGo (code : List Nat) : Nat → Nat → List (List Nat)
  | 0, _ => []
  | m + 1, i => recAt code i :: recsGo code m (i + 1 + dataLen (nx code i))
def drawOf (code : List Nat) : List (List Nat) :=
  recsGo code (nx code 1 % 9) 2 ++
    (if nx code 0 % 20 = 0 then [[]] else if nx code 0 % 20 = 1 then [List.replicate (2000 + nx code 0 / 20 % 2) 0] else if nx code 0 % 20 = 2 then List.replicate 19 (List.replicate 2000 0) ++ [List.replicate (1880 + nx code 0 / 20) 0] else [])
theorem nx_lt {code : List Nat} (h : ∀ x ∈ code, x < 256) (i : Nat) : nx code i < 256 := by
  unfold nx
  rcases Nat.lt_or_ge i code.length with h' | h'
  · simp [h']; exact h _ (List.getElem_mem h')
  · simp [List.getElem?_eq_none h']
theorem dataLen_lt {c : Nat} (h : c < 256) : dataLen c < 256 := by unfold dataLen; split <;> omega
theorem dataAt_length (code : List Nat) (i : Nat) : (dataAt code i).length = dataLen (nx code i) := by simp [dataAt]
theorem recsGo_length (code : List Nat) (m i : Nat) : (recsGo code m i).length = m := by
  induction m generalizing i with
  | zero => rfl
  | succ m ih => simp [recsGo, ih]
theorem recAt_ok {code : List Nat} (h : ∀ x ∈ code, x < 256) (i : Nat) : (recAt code i).length < 256 ∧ ∀ x ∈ recAt code i, x < 256 := by
  unfold recAt
  split
  · exact ⟨by simp, by intro x hx; simp at hx; omega⟩
  · refine ⟨by rw [dataAt_length]; exact dataLen_lt (nx_lt h i), fun x hx => ?_⟩
    simp only [dataAt, List.mem_map] at hx
    obtain ⟨k, _, rfl⟩ := hx
    exact nx_lt h _
theorem recsGo_ok {code : List Nat} (h : ∀ x ∈ code, x < 256) (m i : Nat) : ∀ l ∈ recsGo code m i, l.length ≤ 4000 ∧ ∀ x ∈ l, x < 256 := by
  induction m generalizing i with
  | zero => intro l hl; simp [recsGo] at hl
  | succ m ih =>
    intro l hl
    rcases List.mem_cons.1 hl with rfl | hl
    · exact ⟨by have := (recAt_ok h i).1; omega, (recAt_ok h i).2⟩
    · exact ih _ l hl
theorem drawOf_ok {code : List Nat} (h : ∀ x ∈ code, x < 256) : (drawOf code).length ≤ 100 ∧ ∀ l ∈ drawOf code, l.length ≤ 4000 ∧ ∀ x ∈ l, x < 256 := by
  have h0 := nx_lt h 0
  constructor
  · unfold drawOf
    rw [List.length_append, recsGo_length]
    have : nx code 1 % 9 < 9 := Nat.mod_lt _ (by decide)
    split
    · simp only [List.length_cons, List.length_nil]; omega
    · split
      · simp only [List.length_cons, List.length_nil]; omega
      · split
        · rw [List.length_append, List.length_replicate]; simp only [List.length_cons, List.length_nil]; omega
        · simp only [List.length_nil]; omega
  · intro l hl
    unfold drawOf at hl
    rcases List.mem_append.1 hl with hl | hl
    · exact recsGo_ok h _ _ l hl
    · have hz : ∀ n, n ≤ 4000 → l = List.replicate n 0 → l.length ≤ 4000 ∧ ∀ x ∈ l, x < 256 := by
        intro n hn e
        subst e
        exact ⟨by rw [List.length_replicate]; exact hn, fun x hx => by have := (List.mem_replicate.1 hx).2; omega⟩
      split at hl
      · obtain rfl : l = [] := List.mem_singleton.1 hl
        exact ⟨by simp, fun x hx => by cases hx⟩
      · split at hl
        · exact hz (2000 + nx code 0 / 20 % 2) (by omega) (List.mem_singleton.1 hl)
        · split at hl
          · rcases List.mem_append.1 hl with hl | hl
            · exact hz 2000 (by omega) (List.mem_replicate.1 hl).2
            · exact hz (1880 + nx code 0 / 20) (by omega) (List.mem_singleton.1 hl)
          · cases hl
end Go.Proofs.YtpccongphchagaaGreatDoor
namespace Go.Proofs.YtpccongphchagaaGreatDoor
open Go.RowKit
theorem hide {p : Prop} (h : p) : Hid p := h
theorem unhide {p : Prop} (h : Hid p) : p := h
/-- The bytes 'l' lie at 'a' (where there are any). -/
def RowAt (w : World) (a : Option Addr) (l : List Nat) : Prop :=
  0 < l.length → ∃ b off, a = some ⟨b, off, none⟩ ∧ ∀ i (h : i < l.length), w.cell? ⟨b, off + i, none⟩ = some (.int .u8 ((l[i] : Nat) : Int))
def bv (x : Nat) : Value := .int .u8 (x : Int)
/-- v is a slice of the call's own (its block is 'base' or later) that holds the bytes 'l'. -/
def OwnB (w : World) (base : Nat) (v : Value) (l : List Nat) : Prop := w.ownsRow base 5 1 v l.length (l.map bv)
theorem lt_of_cell0 {w : World} {a : Addr} {v : Value} (h : w.cell? a = some v) : a.block < w.heap.size := World.block_lt_of_cell? w a h
theorem RowAt.below {w w' : World} {a : Option Addr} {l : List Nat} (h : RowAt w a l) (hb : Below w.heap.size w w') : RowAt w' a l := fun hp => by
  obtain ⟨b, off, rfl, hc⟩ := h hp
  exact ⟨b, off, rfl, fun i hi => by rw [hb.cell (p := ⟨b, off + i, none⟩) (lt_of_cell0 (hc i hi))]; exact hc i hi⟩
theorem OwnB.slice {w : World} {base : Nat} {v : Value} {l : List Nat} (h : OwnB w base v l) : ∃ a cap, v = .slice a l.length cap := by
  rcases h.2 with ⟨rfl, hn⟩ | ⟨g, cap, cur, rfl, _⟩
  · exact ⟨none, 0, by rw [hn]⟩
  · exact ⟨_, cap, rfl⟩
theorem OwnB.row {w : World} {base : Nat} {a : Option Addr} {n cap : Nat} {l : List Nat} (h : OwnB w base (.slice a n cap) l) : RowAt w a l := fun hp => by
  rcases h.2 with ⟨_, hn⟩ | ⟨g, cap', cur, h', _, hg, hc, _, hs, htake⟩
  · omega
  · simp only [Value.slice.injEq] at h'
    obtain ⟨rfl, _, _⟩ := h'
    refine ⟨g, 0, rfl, fun i hi => ?_⟩
    rw [Nat.zero_add, cell_of_row w g i cur 5 (0, 0) hg]
    have e : cur.toList[i]? = (l.map bv)[i]? := by rw [← htake, List.getElem?_take, if_pos (by omega)]
    rw [← Array.getElem?_toList, e]
    simp [hi, bv]
theorem OwnB.below {B base : Nat} {w w' : World} {v : Value} {l : List Nat} (h : OwnB w base v l) (hb : Below B w w') (hB : w.heap.size ≤ B) : OwnB w' base v l := by
  refine ⟨h.1, ?_⟩
  rcases h.2 with hn | ⟨g, cap, cur, rfl, hbase, hg, rest⟩
  · exact .inl hn
  · exact .inr ⟨g, cap, cur, rfl, hbase, (hb.block g (Nat.lt_of_lt_of_le (lt_of_block hg) hB)).trans hg, rest⟩
theorem OwnB.nil (w : World) (base : Nat) : OwnB w base (.slice none 0 0) [] := World.ownsRow_nil w base 5 1
theorem OwnB.mono {w : World} {base base' : Nat} {v : Value} {l : List Nat} (h : OwnB w base v l) (hb : base' ≤ base) : OwnB w base' v l := by
  refine ⟨h.1, ?_⟩
  rcases h.2 with hn | ⟨g, cap, cur, rfl, hbase, rest⟩
  · exact .inl hn
  · exact .inr ⟨g, cap, cur, rfl, Nat.le_trans hb hbase, rest⟩
/-- Blocks outside [lo, hi) are as they were. -/
structure Out (lo hi : Nat) (w w' : World) : Prop where
  os : w'.os = w.os
  tape : w'.tape = w.tape
  output : w'.output = w.output
  size : w.heap.size ≤ w'.heap.size
  block : ∀ k, k < w.heap.size → k < lo ∨ hi ≤ k → w'.heap[k]? = w.heap[k]?
theorem Out.refl (lo hi : Nat) (w : World) : Out lo hi w w := ⟨rfl, rfl, rfl, Nat.le_refl _, fun _ _ _ => rfl⟩
theorem Out.trans {lo hi : Nat} {a b c : World} (h : Out lo hi a b) (k : Out lo hi b c) : Out lo hi a c :=
  ⟨k.os.trans h.os, k.tape.trans h.tape, k.output.trans h.output, Nat.le_trans h.size k.size, fun i hi ho => (k.block i (Nat.lt_of_lt_of_le hi h.size) ho).trans (h.block i hi ho)⟩
theorem Out.of_grown {lo hi : Nat} {w w' : World} {row : Option Nat} (h : w.grownBy w' row) (hr : ∀ k, row = some k → lo ≤ k ∧ k < hi) : Out lo hi w w' :=
  ⟨h.os, h.tape, h.output, h.size, fun k hk ho => h.block k hk (fun e => by have := hr k e.symm; omega)⟩
theorem Out.below {lo hi B : Nat} {w w' : World} (h : Out lo hi w w') (h1 : B ≤ lo) (h2 : B ≤ w.heap.size) : Below B w w' :=
  ⟨h.os, h.tape, h.output, h.size, fun k hk => h.block k (by omega) (.inl (by omega))⟩
theorem Out.mono {lo hi lo' hi' : Nat} {w w' : World} (h : Out lo hi w w') (h1 : lo' ≤ lo) (h2 : hi ≤ hi') : Out lo' hi' w w' :=
  ⟨h.os, h.tape, h.output, h.size, fun k hk ho => h.block k hk (by omega)⟩
theorem Out.of_below {lo hi : Nat} {w w' : World} (h : Below w.heap.size w w') : Out lo hi w w' := ⟨h.os, h.tape, h.output, h.size, fun k hk _ => h.block k hk⟩
theorem OwnB.out {lo hi base : Nat} {w w' : World} {v : Value} {l : List Nat} (h : OwnB w base v l) (ho : Out lo hi w w') (hb : hi ≤ base) : OwnB w' base v l := by
  refine ⟨h.1, ?_⟩
  rcases h.2 with hn | ⟨g, cap, cur, rfl, hbase, hg, rest⟩
  · exact .inl hn
  · exact .inr ⟨g, cap, cur, rfl, hbase, (ho.block g (lt_of_block hg) (.inr (Nat.le_trans hb hbase))).trans hg, rest⟩
theorem grown_trans {w w1 w2 : World} {row : Option Nat} (h : w.grownBy w1 row) (k : w1.grownBy w2 row) : w.grownBy w2 row :=
  ⟨k.os.trans h.os, k.tape.trans h.tape, k.output.trans h.output, Nat.le_trans h.size k.size, fun i hi ho => (k.block i (Nat.lt_of_lt_of_le hi h.size) ho).trans (h.block i hi ho)⟩
theorem grown_refl (w : World) (row : Option Nat) : w.grownBy w row := ⟨rfl, rfl, rfl, Nat.le_refl _, fun _ _ _ => rfl⟩
theorem addr_add (b off i : Nat) : Addr.add ⟨b, off, none⟩ i = ⟨b, off + i, none⟩ := by
  unfold Addr.add; split
  · next h => subst h; rfl
  · rfl
theorem ret_bool {a b : Bool} (h : a = b) : Ending.returned (.bool a) = .returned (.bool b) := by rw [h]
theorem Tryz.info5 : (Tryz.prog.info? 5).map (fun i => (i.zero, i.size, i.bytes)) = some (some (.int .u8 0), 1, 1) := by kernel_rfl
/-- append of bytes that lie somewhere onto a slice of the call's own. -/
theorem wpList_append_bytes {ops : Array Oper} {rest : List Oper} {o : Oper} {act : Act} {Q : Exit → Act → World → Prop} (w : World) (hgd : o.guard = none) (s x : Operand)
    (ho : o.op = .call { callee := .builtin .append, args := #[s, x], argTypes := #[22, 22] })
    (base : Nat) (v : Value) (l m : List Nat) (hs : act.eval s = v) (hown : OwnB w base v l) (ad : Option Addr) (c : Nat) (hx : act.eval x = .slice ad m.length c) (hr : RowAt w ad m) (hm : 0 < m.length)
    (hlen : l.length + m.length ≤ 1099511627776) (hbase : base ≤ w.heap.size)
    (h : ∀ v' w', OwnB w' base v' (l ++ m) → w.grownBy w' v.ownBlock → wpList Tryz.prog ops Q rest (act.put o.dst v') w') : wpList Tryz.prog ops Q (o :: rest) act w := by
  obtain ⟨i0, hi, hz0, hz1, hz2⟩ := info_parts Tryz.info5
  obtain ⟨b, off, rfl, hc⟩ := hr hm
  refine wpList_append_own w hgd s x 22 ho base 5 i0 (.int .u8 0) 1 1 Tryz.underlying22 hi hz0 hz1 hz2 rfl (by decide) v l.length (l.map bv) hs hown ⟨b, off, none⟩ m.length c (m.map bv) hx (by simp) ?_ ?_ (by unfold maxLen; omega) (by omega) hbase ?_
  · intro j u hj
    rw [addr_add]
    have hjm : j < m.length := by
      rcases Nat.lt_or_ge j m.length with h' | h'
      · exact h'
      · simp [List.getElem?_eq_none h'] at hj
    rw [hc j hjm]
    simp [hjm, bv] at hj
    rw [hj]
  · intro u hu
    simp only [List.mem_map] at hu
    obtain ⟨y, _, rfl⟩ := hu
    rfl
  · intro v' w' hown' hg _
    refine h v' w' ?_ hg
    unfold OwnB
    rw [List.length_append, List.map_append]
    exact hown'
/-- make of n bytes. -/
theorem wpList_make_bytes {ops : Array Oper} {rest : List Oper} {o : Oper} {act : Act} {Q : Exit → Act → World → Prop} (w : World) (hgd : o.guard = none) (s x : Operand)
    (ho : o.op = Op.makeSlice 22 s x) (n : Nat) (hs : act.eval s = .int .i64 (n : Int)) (hx : act.eval x = .int .i64 (n : Int)) (hlen : n ≤ 1099511627776)
    (h : ∀ w', OwnB w' w.heap.size (.slice (some ⟨w.heap.size, 0, none⟩) n n) (List.replicate n 0) → Below w.heap.size w w' → wpList Tryz.prog ops Q rest (act.put o.dst (.slice (some ⟨w.heap.size, 0, none⟩) n n)) w') : wpList Tryz.prog ops Q (o :: rest) act w := by
  obtain ⟨i0, hi, hz0, hz1, hz2⟩ := info_parts Tryz.info5
  refine wpList_make_full w hgd s x 22 ho w.heap.size 5 i0 (.int .u8 0) 1 Tryz.underlying22 hi hz0 hz1 .i64 .i64 _ _ n hs hx rfl rfl (by rw [hz2]; omega) (by unfold maxLen; omega) (Nat.le_refl _) ?_
  intro w1 hown hgrow
  refine h w1 ?_ ((Below.refl _ _).grown hgrow (Nat.le_refl _) (fun k h => by cases h))
  unfold OwnB
  rw [List.length_replicate, List.map_replicate]
  have e : (madeCells (Value.int .u8 0).cells (n * 1)).toList = List.replicate n (bv 0) := by rw [Nat.mul_one]; exact toList_madeCells_one _ _
  rw [e] at hown; exact hown
/-- What a store into a byte of one's own leaves. -/
theorem OwnB.store {w : World} {base g n cap : Nat} {l : List Nat} (h : OwnB w base (.slice (some ⟨g, 0, none⟩) n cap) l) (k x : Nat) :
    OwnB (w.setCell ⟨g, k, none⟩ (bv x)) base (.slice (some ⟨g, 0, none⟩) n cap) (l.set k x) ∧ w.grownBy (w.setCell ⟨g, k, none⟩ (bv x)) (some g) := by
  obtain ⟨a, c, e⟩ := h.slice
  simp only [Value.slice.injEq] at e
  obtain ⟨_, rfl, rfl⟩ := e
  have hs := World.ownsRow.stored h k (bv x)
  refine ⟨?_, hs.2⟩
  unfold OwnB
  rw [List.length_set, List.map_set]
  exact hs.1
theorem OwnB.cellAt {w : World} {base g n cap : Nat} {l : List Nat} (h : OwnB w base (.slice (some ⟨g, 0, none⟩) n cap) l) (k : Nat) (hk : k < l.length) : w.cell? ⟨g, k, none⟩ = some (.int .u8 ((l[k] : Nat) : Int)) := by
  obtain ⟨b, off, e, hc⟩ := h.row (by omega)
  simp only [Option.some.injEq, Addr.mk.injEq] at e
  obtain ⟨rfl, rfl, _⟩ := e
  have := hc k hk
  rwa [Nat.zero_add] at this
theorem OwnB.frozenAt {w : World} {base g n cap : Nat} {l : List Nat} (h : OwnB w base (.slice (some ⟨g, 0, none⟩) n cap) l) (k : Nat) : w.frozen? ⟨g, k, none⟩ = false := by
  obtain ⟨a, c, e⟩ := h.slice
  simp only [Value.slice.injEq] at e
  obtain ⟨_, rfl, rfl⟩ := e
  exact World.ownsRow.frozenAt h k
end Go.Proofs.YtpccongphchagaaGreatDoor
