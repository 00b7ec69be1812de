import Derived.Test.YtledlicandlekabBSearch
namespace Go.Proofs.Ytledlicandlekab
open Go.RowKit
def cmpI (x y : ByteArray) : Int := if Op.bytesLess x.toList y.toList then -1 else if x.toList = y.toList then 0 else 1
theorem cmpI_lt (x y : ByteArray) : cmpI x y < 0 ↔ Op.bytesLess x.toList y.toList = true := by
  unfold cmpI
  constructor
  · intro h
    by_cases e : Op.bytesLess x.toList y.toList = true
    · exact e
    · rw [if_neg e] at h
      split at h <;> omega
  · intro h; rw [if_pos h]; decide
theorem cmpI_zero (x y : ByteArray) : cmpI x y = 0 ↔ x = y := by
  unfold cmpI
  constructor
  · intro h
    by_cases e : Op.bytesLess x.toList y.toList = true
    · rw [if_pos e] at h; omega
    · rw [if_neg e] at h
      by_cases e3 : x.toList = y.toList
      · exact bytes_eq e3
      · rw [if_neg e3] at h; omega
  · rintro rfl
    rw [less_irrefl]
    simp
theorem cmpCompare_any (x y : ByteArray) (w : World) : Calls Try.prog 65 #[.string x, .string y] w fun e w' => e = .returned (.int .i64 (cmpI x y)) ∧ w' = w := by
  have HC := hide (show cmpI x y = if Op.bytesLess x.toList y.toList then -1 else if x.toList = y.toList then 0 else 1 from rfl)
  cases h1 : Op.bytesLess x.toList y.toList with
  | true =>
    have HC2 : Hid (cmpI x y = -1) := hide (by rw [HC.out, h1]; rfl)
    clear HC
    go_enter Try.func65, Try.ntmps65
    go_wp2_with fail
    refine (isNaN_any x w).mono ?_
    rintro e w1 ⟨rfl, rfl⟩
    go_wp2_with fail
    refine (isNaN_any y w1).mono ?_
    rintro e w2 ⟨rfl, rfl⟩
    go_wp2
    go_ret
    exact ⟨by rw [HC2.out]; rfl, rfl⟩
  | false =>
    by_cases h2 : x.toList = y.toList
    · have HC2 : Hid (cmpI x y = 0) := hide (by rw [HC.out, h1, if_neg (by decide), if_pos h2])
      have hb : (x.toList == y.toList) = true := by rw [h2]; simp
      clear HC h2
      go_enter Try.func65, Try.ntmps65
      go_wp2_with fail
      refine (isNaN_any x w).mono ?_
      rintro e w1 ⟨rfl, rfl⟩
      go_wp2_with fail
      refine (isNaN_any y w1).mono ?_
      rintro e w2 ⟨rfl, rfl⟩
      go_wp2
      go_ret
      exact ⟨by rw [HC2.out]; rfl, rfl⟩
    · have HC2 : Hid (cmpI x y = 1) := hide (by rw [HC.out, h1, if_neg (by decide), if_neg h2])
      have hb : (x.toList == y.toList) = false := beq_eq_false_iff_ne.2 h2
      clear HC h2
      go_enter Try.func65, Try.ntmps65
      go_wp2_with fail
      refine (isNaN_any x w).mono ?_
      rintro e w1 ⟨rfl, rfl⟩
      go_wp2_with fail
      refine (isNaN_any y w1).mono ?_
      rintro e w2 ⟨rfl, rfl⟩
      go_wp2
      go_ret
      exact ⟨by rw [HC2.out]; rfl, rfl⟩
theorem lit_any (s : ByteArray) (n : Int) (t : ByteArray) (w : World) : Calls Try.prog 64 #[.agg #[.string s, .int .i64 n], .string t] w fun e w' => e = .returned (.int .i64 (cmpI s t)) ∧ Below w.heap.size w w' := by
  have HA := hide ((Below.refl w.heap.size w).alloc (Nat.le_refl _) (.cells #[.string s, .int .i64 n] 58))
  generalize hq : cmpI s t = q
  go_enter Try.func64, Try.ntmps64
  go_wp2_with fail
  generalize w.alloc (.cells #[.string s, .int .i64 n] 58) = w1 at HA ⊢
  refine (cmpCompare_any s t w1).mono ?_
  rintro e w2 ⟨rfl, rfl⟩
  rw [hq]
  clear hq
  go_wp2
  go_ret
  exact ⟨rfl, HA.out⟩
end Go.Proofs.Ytledlicandlekab
