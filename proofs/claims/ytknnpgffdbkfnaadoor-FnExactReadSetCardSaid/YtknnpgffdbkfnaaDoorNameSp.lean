import Derived.Test.YtknnpgffdbkfnaaDoorDecSp
import Derived.Test.YtknnpgffdbkfnaaDoorSpecFlags
namespace Go.Proofs.YtknnpgffdbkfnaaDoor
open Go.RowKit Go.Lib
/-- The name of a mail: its uid, its stamp, its flags' letters. -/
def nameS (a b c : ByteArray) : ByteArray := ⟨#[99, 117, 114, 47]⟩ ++ a ++ ⟨#[46]⟩ ++ b ++ ⟨#[58, 50, 44]⟩ ++ c
def nameOf (u : Nat) (s : Int) (f : Nat) : ByteArray := if u = 0 ∨ s < 0 ∨ 1000000000000 < s then ⟨#[]⟩ else nameS (decS u) (decS s.toNat) (strB (lettersOf f))
theorem decS_size (u : Nat) (h : u < 18446744073709551616) : (decS u).size ≤ 20 := by
  show (Lib.decDigits u).toArray.size ≤ 20
  rw [List.size_toArray, Lib.decDigits_length]
  exact nd20 u h
theorem letters_size (f : Nat) : (strB (lettersOf f)).size ≤ 31 := by
  show ((lettersOf f).map UInt8.ofNat).toArray.size ≤ 31
  rw [List.size_toArray, List.length_map]
  exact lettersTo_len f 31
theorem nameOf_bad {u : Nat} {s : Int} (f : Nat) (h : u = 0 ∨ s < 0 ∨ 1000000000000 < s) : nameOf u s f = ⟨#[]⟩ := if_pos h
theorem nameOf_ok {u s : Nat} (f : Nat) (h1 : u ≠ 0) (h2 : s ≤ 1000000000000) : nameOf u (s : Int) f = nameS (decS u) (decS s) (strB (lettersOf f)) := by
  unfold nameOf
  rw [if_neg (by omega)]
  rfl
set_option maxRecDepth 20000 in
theorem specName_any (u : Nat) (s : Int) (f : Nat) (w : World) (hu : u < 4294967296) (hf : f < 4294967296) :
    Calls Tryd.prog 23 #[.int .u32 (u : Int), .int .i64 s, .int .u32 (f : Int)] w fun e w' => e = .returned (.string (nameOf u s f)) ∧ Below w.heap.size w w' := by
  by_cases hb : u = 0 ∨ s < 0 ∨ 1000000000000 < s
  · rw [nameOf_bad f hb]
    by_cases hu0 : u = 0
    · subst hu0
      go_enter Tryd.func23, Tryd.ntmps23
      go_wp2
      go_ret
      exact ⟨rfl, Below.refl _ _⟩
    · have hi : ¬ (u : Int) = 0 := by omega
      by_cases hs : s < 0
      · go_enter Tryd.func23, Tryd.ntmps23
        go_wp2
        go_ret
        exact ⟨rfl, Below.refl _ _⟩
      · have hs2 : 1000000000000 < s := by omega
        go_enter Tryd.func23, Tryd.ntmps23
        go_wp2
        go_ret
        exact ⟨rfl, Below.refl _ _⟩
  · obtain ⟨k, rfl⟩ := Int.eq_ofNat_of_zero_le (show 0 ≤ s by omega)
    have hi : ¬ (u : Int) = 0 := by omega
    have hs1 : ¬ (k : Int) < 0 := by omega
    have hs2 : ¬ (1000000000000 : Int) < (k : Int) := by omega
    rw [nameOf_ok f (by omega) (by omega)]
    have D1 := hide (fun w => l1Dec_any u w (by omega))
    have D2 := hide (fun w => l1Dec_any k w (by omega))
    have D3 := hide (fun w => specFlagLetters_any f w hf)
    have z1 := decS_size u (by omega)
    have z2 := decS_size k (by omega)
    have z3 := letters_size f
    generalize decS u = a at D1 z1 ⊢
    generalize decS k = b at D2 z2 ⊢
    generalize strB (lettersOf f) = c at D3 z3 ⊢
    go_enter Tryd.func23, Tryd.ntmps23
    go_wp2_with fail
    refine (D1.out w).mono ?_
    rintro e w1 ⟨rfl, hb1⟩
    go_wp2_with fail
    refine (D2.out w1).mono ?_
    rintro e w2 ⟨rfl, hb2⟩
    go_wp2_with fail
    refine (D3.out w2).mono ?_
    rintro e w3 ⟨rfl, hb3⟩
    go_wp2
    go_ret
    exact ⟨rfl, (hb1.trans (hb2.mono hb1.size)).trans (hb3.mono (Nat.le_trans hb1.size hb2.size))⟩
end Go.Proofs.YtknnpgffdbkfnaaDoor
