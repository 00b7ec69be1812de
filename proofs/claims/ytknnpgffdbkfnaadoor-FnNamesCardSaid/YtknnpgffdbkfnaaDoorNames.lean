import Derived.Test.YtknnpgffdbkfnaaDoorNameSp
import Derived.Test.YtknnpgffdbkfnaaDoorDec
import Derived.Test.YtknnpgffdbkfnaaDoorImplFlags
namespace Go.Proofs.YtknnpgffdbkfnaaDoor
open Go.RowKit Go.Lib
set_option maxRecDepth 20000 in
theorem implName_any (u : Nat) (s : Int) (f : Nat) (w : World) (hu : u < 4294967296) (hf : f < 4294967296) (htab : TabIs Tryd.prog w "internal/strconv.uint64pow10" .u64 Lib.pow10Tab) :
    Calls Tryd.prog 14 #[.int .u32 (u : Int), .int .i64 s, .int .u32 (f : Int)] w fun e w' => e = .returned (.string (nameOf u s f)) ∧ Below w.heap.size w w' := by
  by_cases hb : u = 0 ∨ s < 0 ∨ 1000000000000 < s
  · rw [nameOf_bad f hb]
    by_cases hu0 : u = 0
    · subst hu0
      go_enter Tryd.func14, Tryd.ntmps14
      go_wp2
      go_ret
      exact ⟨rfl, Below.refl _ _⟩
    · have hi : ¬ (u : Int) = 0 := by omega
      by_cases hs : s < 0
      · go_enter Tryd.func14, Tryd.ntmps14
        go_wp2
        go_ret
        exact ⟨rfl, Below.refl _ _⟩
      · have hs2 : 1000000000000 < s := by omega
        go_enter Tryd.func14, Tryd.ntmps14
        go_wp2
        go_ret
        exact ⟨rfl, Below.refl _ _⟩
  · obtain ⟨k, rfl⟩ := Int.eq_ofNat_of_zero_le (show 0 ≤ s by omega)
    have hi : ¬ (u : Int) = 0 := by omega
    have hs1 : ¬ (k : Int) < 0 := by omega
    have hs2 : ¬ (1000000000000 : Int) < (k : Int) := by omega
    rw [nameOf_ok f (by omega) (by omega)]
    have D1 := hide (fun w h => strFormatUint_any u w (by omega) h)
    have D2 := hide (fun w h => strFormatInt_any k w (by omega) h)
    have D3 := hide (fun w => implFlagLetters_any f w hf)
    have HT := hide htab
    have z1 := decS_size u (by omega)
    have z2 := decS_size k (by omega)
    have z3 := letters_size f
    clear htab
    generalize decS u = a at D1 z1 ⊢
    generalize decS k = b at D2 z2 ⊢
    generalize strB (lettersOf f) = c at D3 z3 ⊢
    go_enter Tryd.func14, Tryd.ntmps14
    go_wp2_with fail
    refine (D1.out w HT.out).mono ?_
    rintro e w1 ⟨rfl, hb1⟩
    go_wp2_with fail
    refine (D2.out w1 (tabIs_below HT.out hb1)).mono ?_
    rintro e w2 ⟨rfl, hb2⟩
    go_wp2_with fail
    refine (D3.out w2).mono ?_
    rintro e w3 ⟨rfl, hb3⟩
    go_wp2
    go_ret
    exact ⟨rfl, (hb1.trans (hb2.mono hb1.size)).trans (hb3.mono (Nat.le_trans hb1.size hb2.size))⟩
end Go.Proofs.YtknnpgffdbkfnaaDoor
