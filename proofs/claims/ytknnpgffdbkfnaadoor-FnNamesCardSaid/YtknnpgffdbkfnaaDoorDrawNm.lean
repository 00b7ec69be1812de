import Derived.Test.YtknnpgffdbkfnaaDoorRdr
import Derived.Test.YtknnpgffdbkfnaaDoorLetMath
namespace Go.Proofs.YtknnpgffdbkfnaaDoor
open Go.RowKit
/-- The reader in block p over what came in at w0: all below it is as it was. -/
structure RdIn (w0 w : World) (p : Nat) (a : Option Addr) (cap : Nat) (code : List Nat) (i : Nat) : Prop where
  rd : Rd w p (.slice a code.length cap) code i
  low : Below w0.heap.size w0 w
  above : w0.heap.size ≤ p
/-- What came in. -/
structure CodeIn (w0 : World) (a : Option Addr) (code : List Nat) : Prop where
  len : code.length ≤ 1048576
  row : RowAt w0 a code
  byte : ∀ x ∈ code, x < 256
theorem next_in {w0 w : World} {p : Nat} {a : Option Addr} {cap : Nat} {code : List Nat} {i : Nat} (hc : CodeIn w0 a code) (h : RdIn w0 w p a cap code i) :
    Calls Tryd.prog 53 #[.pointer (some ⟨p, 0, none⟩)] w fun e w' => e = .returned (.int .i64 (nx code i : Int)) ∧ RdIn w0 w' p a cap code (i + 1) := by
  refine (next_any p a cap code i w hc.len (hc.row.below h.low) hc.byte h.rd).mono ?_
  rintro e w' ⟨rfl, h1, h2, h3⟩
  have := h.above
  exact ⟨rfl, h1, h.low.trans ((Below.refl _ _).grown h2 h.low.size (fun k e => by simp at e; omega)), h.above⟩
/-- A number that is drawn: within bounds; the reader stands somewhere. -/
def DNum (w0 : World) (p : Nat) (a : Option Addr) (cap : Nat) (code : List Nat) (k : IntKind) (lo hi : Int) (e : Ending) (w' : World) : Prop := ∃ (x : Int) (j : Nat), e = .returned (.int k x) ∧ lo ≤ x ∧ x < hi ∧ RdIn w0 w' p a cap code j
theorem dnum_mk {w0 w' : World} {p : Nat} {a : Option Addr} {cap : Nat} {code : List Nat} {j : Nat} (h : RdIn w0 w' p a cap code j) (k : IntKind) (lo hi x : Int) (h1 : lo ≤ x) (h2 : x < hi) : DNum w0 p a cap code k lo hi (.returned (.int k x)) w' := ⟨x, j, rfl, h1, h2, h⟩
set_option maxRecDepth 20000 in
set_option maxHeartbeats 1000000 in
theorem l4Uid_in {w0 w : World} {p : Nat} {a : Option Addr} {cap : Nat} {code : List Nat} {i : Nat} (hc : CodeIn w0 a code) (h : RdIn w0 w p a cap code i) :
    Calls Tryd.prog 27 #[.pointer (some ⟨p, 0, none⟩)] w (DNum w0 p a cap code .u32 0 4294967296) := by
  have hx := nx_lt hc.byte i
  have hd := nx_lt hc.byte (i + 1)
  have HC := hide hc
  have NX := hide (next_in hc h)
  clear hc h
  go_enter Tryd.func27, Tryd.ntmps27
  go_wp2_with fail
  refine NX.out.mono ?_
  rintro e w1 ⟨rfl, hrd1⟩
  have H1 := hide hrd1
  clear hrd1 NX
  generalize nx code i = c at hx ⊢
  by_cases h0 : c % 8 = 0
  · have hk : (c : Int) % 8 = 0 := by omega
    go_wp2
    go_ret
    exact dnum_mk H1.out _ _ _ _ (by omega) (by omega)
  · by_cases h1 : c % 8 = 1
    · have hk : (c : Int) % 8 = 1 := by omega
      go_wp2
      go_ret
      exact dnum_mk H1.out _ _ _ _ (by omega) (by omega)
    · have hk0 : ¬ (c : Int) % 8 = 0 := by omega
      have hk1 : ¬ (c : Int) % 8 = 1 := by omega
      have NX := hide (next_in HC.out H1.out)
      go_wp2_with fail
      refine NX.out.mono ?_
      rintro e w2 ⟨rfl, hrd2⟩
      have H2 := hide hrd2
      clear hrd2 NX
      generalize nx code (i + 1) = d at hd ⊢
      have hm1 : (c : Int) * ((d : Int) + 1) ≤ 65280 := by
        have h : (c : Int) * ((d : Int) + 1) ≤ 255 * 256 := Int.mul_le_mul (by omega) (by omega) (by omega) (by omega)
        omega
      have hm0 : 0 ≤ (c : Int) * ((d : Int) + 1) := Int.mul_nonneg (by omega) (by omega)
      go_wp2
      go_ret
      exact dnum_mk H2.out _ _ _ _ (by omega) (by omega)
theorem or_drawn (c : Nat) : 0 ≤ bits .or .u32 ((c : Int) % 32) (2 ^ (5 + c % 26) % 4294967296) ∧ bits .or .u32 ((c : Int) % 32) (2 ^ (5 + c % 26) % 4294967296) < 2147483648 := by
  have hp : (2 : Nat) ^ (5 + c % 26) < 2 ^ 31 := Nat.pow_lt_pow_right (by decide) (by omega)
  have e2 : ((2 : Int) ^ (5 + c % 26)) = ((2 ^ (5 + c % 26) : Nat) : Int) := by simp
  have e1 : (c : Int) % 32 = ((c % 32 : Nat) : Int) := by omega
  have hor : c % 32 ||| 2 ^ (5 + c % 26) < 2 ^ 31 := Nat.or_lt_two_pow (by omega) hp
  rw [e2, e1]
  generalize 2 ^ (5 + c % 26) = m at hp hor ⊢
  have e3 : ((m : Nat) : Int) % 4294967296 = ((m : Nat) : Int) := by omega
  rw [e3, u32_or_nat _ _ (by omega) (by omega)]
  omega
set_option maxRecDepth 20000 in
set_option maxHeartbeats 1000000 in
theorem l4Flags_in {w0 w : World} {p : Nat} {a : Option Addr} {cap : Nat} {code : List Nat} {i : Nat} (hc : CodeIn w0 a code) (h : RdIn w0 w p a cap code i) :
    Calls Tryd.prog 29 #[.pointer (some ⟨p, 0, none⟩)] w (DNum w0 p a cap code .u32 0 2147483648) := by
  have hx := nx_lt hc.byte i
  have NX := hide (next_in hc h)
  clear hc h
  go_enter Tryd.func29, Tryd.ntmps29
  go_wp2_with fail
  refine NX.out.mono ?_
  rintro e w1 ⟨rfl, hrd1⟩
  have H1 := hide hrd1
  clear hrd1 NX
  generalize nx code i = c at hx ⊢
  by_cases h0 : c = 255
  · subst h0
    go_wp2
    go_ret
    exact dnum_mk H1.out _ _ _ _ (by omega) (by omega)
  · by_cases h1 : 128 ≤ c
    · have hk0 : ¬ (c : Int) = 255 := by omega
      have hk1 : (128 : Int) ≤ (c : Int) := by omega
      have HE := hide (or_drawn c)
      go_wp2
      go_ret
      exact dnum_mk H1.out _ _ _ _ HE.out.1 HE.out.2
    · have hk0 : ¬ (c : Int) = 255 := by omega
      have hk1 : ¬ (128 : Int) ≤ (c : Int) := by omega
      go_wp2
      go_ret
      exact dnum_mk H1.out _ _ _ _ (by omega) (by omega)
set_option maxRecDepth 20000 in
set_option maxHeartbeats 1000000 in
theorem l4Stamp_in {w0 w : World} {p : Nat} {a : Option Addr} {cap : Nat} {code : List Nat} {i : Nat} (hc : CodeIn w0 a code) (h : RdIn w0 w p a cap code i) :
    Calls Tryd.prog 28 #[.pointer (some ⟨p, 0, none⟩)] w (DNum w0 p a cap code .i64 (-1) 2000000000000) := by
  have hx := nx_lt hc.byte i
  have hd := nx_lt hc.byte (i + 1)
  have hf := nx_lt hc.byte (i + 1 + 1)
  have HC := hide hc
  have NX := hide (next_in hc h)
  clear hc h
  go_enter Tryd.func28, Tryd.ntmps28
  go_wp2_with fail
  refine NX.out.mono ?_
  rintro e w1 ⟨rfl, hrd1⟩
  have H1 := hide hrd1
  clear hrd1 NX
  generalize nx code i = c at hx ⊢
  by_cases h0 : c % 8 = 0
  · have hk : (c : Int) % 8 = 0 := by omega
    go_wp2
    go_ret
    exact dnum_mk H1.out _ _ _ _ (by omega) (by omega)
  · by_cases h1 : c % 8 = 1
    · have hk : (c : Int) % 8 = 1 := by omega
      go_wp2
      go_ret
      exact dnum_mk H1.out _ _ _ _ (by omega) (by omega)
    · have hk0 : ¬ (c : Int) % 8 = 0 := by omega
      have hk1 : ¬ (c : Int) % 8 = 1 := by omega
      have NX := hide (next_in HC.out H1.out)
      go_wp2_with fail
      refine NX.out.mono ?_
      rintro e w2 ⟨rfl, hrd2⟩
      have H2 := hide hrd2
      clear hrd2 NX
      generalize nx code (i + 1) = d at hd ⊢
      have hm1 : (c : Int) * (d : Int) ≤ 65025 := by
        have h : (c : Int) * (d : Int) ≤ 255 * 255 := Int.mul_le_mul (by omega) (by omega) (by omega) (by omega)
        omega
      have hm0 : 0 ≤ (c : Int) * (d : Int) := Int.mul_nonneg (by omega) (by omega)
      have NX := hide (next_in HC.out H2.out)
      go_wp2_with fail
      refine NX.out.mono ?_
      rintro e w3 ⟨rfl, hrd3⟩
      have H3 := hide hrd3
      clear hrd3 NX
      generalize nx code (i + 1 + 1) = f at hf ⊢
      have hn1 : (c : Int) * (d : Int) * (f : Int) ≤ 16581375 := by
        have h : (c : Int) * (d : Int) * (f : Int) ≤ 65025 * 255 := Int.mul_le_mul hm1 (by omega) (by omega) (by omega)
        omega
      have hn0 : 0 ≤ (c : Int) * (d : Int) * (f : Int) := Int.mul_nonneg hm0 (by omega)
      go_wp2
      go_ret
      exact dnum_mk H3.out _ _ _ _ (by omega) (by omega)
end Go.Proofs.YtknnpgffdbkfnaaDoor
