import Derived.Test.YtknnpgffdbkfnaaDoorSetMath
import Derived.Test.YtknnpgffdbkfnaaDoorBytL
namespace Go.Proofs.YtknnpgffdbkfnaaDoor
open Go.RowKit
/-- What l5Num answers. -/
def N5Is (t : List UInt8) (lo hi : Nat) (n : Nat) (ok : Bool) : Prop := (ok = true ∧ t = Lib.decDigits n ∧ lo ≤ n ∧ n ≤ hi) ∨ (ok = false ∧ ∀ m, lo ≤ m → m ≤ hi → t ≠ Lib.decDigits m)
def N5Post (s : ByteArray) (lo hi : Nat) (w : World) (e : Ending) (w' : World) : Prop := ∃ (n : Nat) (ok : Bool), e = .returned (.tuple #[.int .i64 (n : Int), .bool ok]) ∧ N5Is s.data.toList lo hi n ok ∧ Below w.heap.size w w'
set_option maxRecDepth 20000 in
theorem l5Num_any (s : ByteArray) (lo hi : Nat) (w : World) (hs : s.size ≤ 1048576) (hhi : hi < 10000000000000) :
    Calls Tryd.prog 62 #[.string s, .int .i64 (lo : Int), .int .i64 (hi : Int)] w (N5Post s lo hi w) := by
  go_enter Tryd.func62, Tryd.ntmps62
  go_wp2_with fail
  refine (l4Number_any s w hs).mono ?_
  rintro e w1 ⟨n, ok, rfl, hN, hb⟩
  have HB := hide hb
  clear hb
  cases ok with
  | false =>
    have HN := hide (show ∀ m, lo ≤ m → m ≤ hi → s.data.toList ≠ Lib.decDigits m from fun m _ h2 => by
      rcases hN with ⟨h, _⟩ | ⟨_, h⟩
      · cases h
      · exact h m (by omega))
    clear hN
    go_wp2
    go_ret2
    exact ⟨n, false, rfl, Or.inr ⟨rfl, HN.out⟩, HB.out⟩
  | true =>
    have hN2 : s.data.toList = Lib.decDigits n := by
      rcases hN with ⟨_, h, _⟩ | ⟨h, _⟩
      · exact h
      · cases h
    have HN := hide hN2
    clear hN hN2
    by_cases h1 : lo ≤ n
    · have h1' : (lo : Int) ≤ (n : Int) := by omega
      by_cases h2 : n ≤ hi
      · have h2' : (n : Int) ≤ (hi : Int) := by omega
        go_wp2
        go_ret2
        exact ⟨n, true, rfl, Or.inl ⟨rfl, HN.out, h1, h2⟩, HB.out⟩
      · have h2' : ¬ (n : Int) ≤ (hi : Int) := by omega
        go_wp2
        go_ret2
        refine ⟨n, false, rfl, Or.inr ⟨rfl, fun m _ hm e => ?_⟩, HB.out⟩
        have := dec_inj (HN.out.symm.trans e)
        omega
    · have h1' : ¬ (lo : Int) ≤ (n : Int) := by omega
      go_wp2
      go_ret2
      refine ⟨n, false, rfl, Or.inr ⟨rfl, fun m hm _ e => ?_⟩, HB.out⟩
      have := dec_inj (HN.out.symm.trans e)
      omega
/-- What both readers of a place answer. -/
def PlPost (s : ByteArray) (w : World) (e : Ending) (w' : World) : Prop := ∃ (n : Nat) (ok : Bool), e = .returned (.tuple #[.int .u32 (n : Int), .bool ok]) ∧ ((ok = true ∧ plOf s.data.toList = some n) ∨ (ok = false ∧ plOf s.data.toList = none)) ∧ Below w.heap.size w w'
set_option maxRecDepth 20000 in
theorem l6Place_any (s : ByteArray) (w : World) (hs : s.size ≤ 1048576) :
    Calls Tryd.prog 41 #[.string s] w (PlPost s w) := by
  by_cases h0 : s.data.toList = [42]
  · have h0' : (s.toList == [42]) = true := by rw [ByteArray.toList_eq, h0]; rfl
    go_enter Tryd.func41, Tryd.ntmps41
    go_wp2
    go_ret2
    exact ⟨0, true, rfl, Or.inl ⟨rfl, by rw [h0]; rfl⟩, Below.refl _ _⟩
  · have h0' : (s.toList == [42]) = false := by rw [ByteArray.toList_eq]; exact beq_eq_false_iff_ne.2 h0
    have H0 := hide h0
    clear h0
    go_enter Tryd.func41, Tryd.ntmps41
    go_wp2_with fail
    refine (l5Num_any s 1 4294967295 w hs (by omega)).mono ?_
    rintro e w1 ⟨n, ok, rfl, hN, hb⟩
    have HB := hide hb
    have HN := hide hN
    clear hb hN
    go_wp2
    go_ret2
    refine ⟨n % 4294967296, ok, by simp, ?_, HB.out⟩
    rcases HN.out with ⟨rfl, h1, h2, h3⟩ | ⟨rfl, h⟩
    · refine Or.inl ⟨rfl, ?_⟩
      rw [Nat.mod_eq_of_lt (by omega)]
      exact plOf_num h1 h2 h3
    · exact Or.inr ⟨rfl, plOf_none H0.out h⟩
end Go.Proofs.YtknnpgffdbkfnaaDoor
