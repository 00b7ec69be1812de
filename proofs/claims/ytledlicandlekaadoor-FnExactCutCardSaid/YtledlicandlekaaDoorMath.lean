import Derived.Laws.BitsAllLaws
namespace Go.Proofs.YtledlicandlekaaDoor
/-- One step of the sum: the lowest bit goes out, the polynomial comes in where it was set. -/
def crcStep (c : Nat) : Nat := if c % 2 = 1 then (c / 2) ^^^ 3988292384 else c / 2
/-- The steps of the program: m of them over a sum that has taken its byte in. -/
def crcSteps : Nat → Nat → Nat
  | 0, c => c
  | m + 1, c => crcStep (crcSteps m c)
/-- The steps of the specification: the byte's bits are taken in one by one. -/
def specStep (c b m : Nat) : Nat := if (c ^^^ (b >>> m)) % 2 = 1 then (c / 2) ^^^ 3988292384 else c / 2
def specSteps (c b : Nat) : Nat → Nat
  | 0 => c
  | m + 1 => specStep (specSteps c b m) b m
def crcByte (c b : Nat) : Nat := crcSteps 8 (c ^^^ b)
def crcFold (c : Nat) (l : List Nat) : Nat := l.foldl crcByte c
theorem pair_steps (c b m : Nat) : crcSteps m (c ^^^ b) = specSteps c b m ^^^ (b >>> m) := by
  induction m with
  | zero => simp [crcSteps, specSteps]
  | succ m ih =>
    have hs : b >>> (m + 1) = (b >>> m) / 2 := by rw [Nat.shiftRight_succ]
    simp only [crcSteps, specSteps, ih]
    unfold crcStep specStep
    generalize specSteps c b m = x
    rw [hs]
    generalize b >>> m = y
    have hd : (x ^^^ y) / 2 = (x / 2) ^^^ (y / 2) := Nat.xor_div_two
    rw [hd]
    split
    · rw [Nat.xor_assoc, Nat.xor_assoc, Nat.xor_comm 3988292384]
    · rfl
theorem spec_byte (c b : Nat) (hb : b < 256) : specSteps c b 8 = crcByte c b := by
  unfold crcByte
  rw [pair_steps]
  have : b >>> 8 = 0 := by rw [Nat.shiftRight_eq_div_pow]; omega
  rw [this, Nat.xor_zero]
theorem crcStep_lt (c : Nat) (h : c < 4294967296) : crcStep c < 4294967296 := by
  unfold crcStep
  split
  · exact Nat.xor_lt_two_pow (n := 32) (by omega) (by omega)
  · omega
theorem crcSteps_lt (m c : Nat) (h : c < 4294967296) : crcSteps m c < 4294967296 := by
  induction m with
  | zero => exact h
  | succ m ih => exact crcStep_lt _ ih
theorem specSteps_lt (c b m : Nat) (h : c < 4294967296) : specSteps c b m < 4294967296 := by
  induction m with
  | zero => exact h
  | succ m ih =>
    unfold specSteps specStep
    split
    · exact Nat.xor_lt_two_pow (n := 32) (by omega) (by omega)
    · omega
theorem crcByte_lt (c b : Nat) (h : c < 4294967296) (hb : b < 256) : crcByte c b < 4294967296 :=
  crcSteps_lt _ _ (Nat.xor_lt_two_pow (n := 32) (by omega) (by omega))
theorem crcFold_lt (l : List Nat) (hl : ∀ x ∈ l, x < 256) (c : Nat) (h : c < 4294967296) : crcFold c l < 4294967296 := by
  induction l generalizing c with
  | nil => exact h
  | cons x r ih => exact ih (fun y hy => hl y (List.mem_cons_of_mem _ hy)) _ (crcByte_lt c x h (hl x List.mem_cons_self))
theorem crcFold_snoc (c : Nat) (l : List Nat) (x : Nat) : crcFold c (l ++ [x]) = crcByte (crcFold c l) x := by
  simp [crcFold]
theorem cast_shr (x m : Nat) : ((x : Int) / 2 ^ m) = ((x >>> m : Nat) : Int) := by
  rw [Nat.shiftRight_eq_div_pow]; simp
theorem shr_lt (x m : Nat) (hx : x < 256) : x >>> m < 4294967296 := by
  rw [Nat.shiftRight_eq_div_pow]; exact Nat.lt_of_le_of_lt (Nat.div_le_self _ _) (by omega)
theorem spec_bit (c x m : Nat) (hc : c < 4294967296) (hx : x < 256) :
    bits .and .u32 (bits .xor .u32 (c : Int) ((x : Int) / 2 ^ m)) 1 = (((c ^^^ (x >>> m)) % 2 : Nat) : Int) := by
  have hs := shr_lt x m hx
  have hx2 : c ^^^ (x >>> m) < 4294967296 := Nat.xor_lt_two_pow (n := 32) (by omega) (by omega)
  rw [cast_shr, u32_xor_nat c _ hc hs]
  have h := u32_and_nat (c ^^^ (x >>> m)) 1 hx2 (by decide)
  rw [nat_mask1] at h
  exact h
theorem half_xor (c : Nat) (hc : c < 4294967296) : bits .xor .u32 ((c : Int) / 2) 3988292384 = (((c / 2) ^^^ 3988292384 : Nat) : Int) := by
  have h := u32_xor_nat (c / 2) 3988292384 (by omega) (by decide)
  have e : ((c : Int) / 2) = ((c / 2 : Nat) : Int) := by omega
  rw [e]; exact h
theorem spec_hit {c x m : Nat} (hc : c < 4294967296) (hx : x < 256) (h : (bits .and .u32 (bits .xor .u32 (c : Int) ((x : Int) / 2 ^ m)) 1 == 1) = true) :
    bits .xor .u32 ((c : Int) / 2) 3988292384 = ((specStep c x m : Nat) : Int) := by
  rw [spec_bit c x m hc hx] at h
  have h' : (c ^^^ (x >>> m)) % 2 = 1 := by simp at h; omega
  unfold specStep; rw [if_pos h']; exact half_xor c hc
theorem spec_miss {c x m : Nat} (hc : c < 4294967296) (hx : x < 256) (h : (bits .and .u32 (bits .xor .u32 (c : Int) ((x : Int) / 2 ^ m)) 1 == 1) = false) :
    ((c : Int) / 2) = ((specStep c x m : Nat) : Int) := by
  rw [spec_bit c x m hc hx] at h
  have h' : ¬ (c ^^^ (x >>> m)) % 2 = 1 := by simp at h; omega
  unfold specStep; rw [if_neg h']; omega
theorem low_bit (c : Nat) (hc : c < 4294967296) : bits .and .u32 (c : Int) 1 = ((c % 2 : Nat) : Int) := by
  have h := u32_and_nat c 1 hc (by decide)
  rw [nat_mask1] at h
  exact h
theorem step_hit {c : Nat} (hc : c < 4294967296) (h : (bits .and .u32 (c : Int) 1 == 1) = true) : bits .xor .u32 ((c : Int) / 2) 3988292384 = ((crcStep c : Nat) : Int) := by
  rw [low_bit c hc] at h
  have h' : c % 2 = 1 := by simp at h; omega
  unfold crcStep; rw [if_pos h']; exact half_xor c hc
theorem step_miss {c : Nat} (hc : c < 4294967296) (h : (bits .and .u32 (c : Int) 1 == 1) = false) : ((c : Int) / 2) = ((crcStep c : Nat) : Int) := by
  rw [low_bit c hc] at h
  have h' : ¬ c % 2 = 1 := by simp at h; omega
  unfold crcStep; rw [if_neg h']; omega
theorem xor_byte (c x : Nat) (hc : c < 4294967296) (hx : x < 256) : bits .xor .u32 (c : Int) (x : Int) = ((c ^^^ x : Nat) : Int) := u32_xor_nat c x hc (by omega)
def crcOf (l : List Nat) : Nat := 4294967295 ^^^ crcFold 4294967295 l
theorem crcOf_lt (l : List Nat) (hl : ∀ x ∈ l, x < 256) : crcOf l < 4294967296 :=
  Nat.xor_lt_two_pow (n := 32) (by decide) (crcFold_lt l hl _ (by decide))
theorem out_eq (c : Nat) (hc : c < 4294967296) : bits .xor .u32 IntKind.u32.max (c : Int) = ((4294967295 ^^^ c : Nat) : Int) := by
  have e : IntKind.u32.max = ((4294967295 : Nat) : Int) := by decide
  rw [e]; exact u32_xor_nat 4294967295 c (by decide) hc
theorem ret_int {k : IntKind} {a b : Int} (h : a = b) : Ending.returned (.int k a) = .returned (.int k b) := by rw [h]
theorem val_int {k : IntKind} {a b : Int} (h : a = b) : Value.int k a = .int k b := by rw [h]
end Go.Proofs.YtledlicandlekaaDoor
