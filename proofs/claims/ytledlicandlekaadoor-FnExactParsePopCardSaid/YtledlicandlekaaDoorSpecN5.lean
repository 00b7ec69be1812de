import Derived.Test.YtledlicandlekaaDoorSpecRd
namespace Go.Proofs.YtledlicandlekaaDoor
open Go.RowKit
/-- What l5Num answers. -/
def N5Is (t : List UInt8) (lo hi : Nat) (n : Nat) (ok : Bool) : Prop := (ok = true ∧ t = Lib.decDigits n ∧ lo ≤ n ∧ n ≤ hi) ∨ (ok = false ∧ ∀ m, lo ≤ m → m ≤ hi → t ≠ Lib.decDigits m)
def N5Post (s : ByteArray) (lo hi : Nat) (w : World) (e : Ending) (w' : World) : Prop := ∃ (n : Nat) (ok : Bool), e = .returned (.tuple #[.int .i64 (n : Int), .bool ok]) ∧ N5Is s.data.toList lo hi n ok ∧ Below w.heap.size w w'
set_option maxRecDepth 20000 in
theorem l5Num_any (s : ByteArray) (lo hi : Nat) (w : World) (hs : s.size ≤ 1048576) (hhi : hi < 10000000000000) :
    Calls Tryd.prog 30 #[.string s, .int .i64 (lo : Int), .int .i64 (hi : Int)] w (N5Post s lo hi w) := by
  go_enter Tryd.func30, Tryd.ntmps30
  go_wp2_with fail
  refine (l4Number_any s w hs).mono ?_
  rintro e w1 ⟨n, ok, rfl, hN, hb⟩
  have HB := hide hb
  clear hb
  cases ok with
  | false =>
    have HN := hide (show ∀ m, lo ≤ m → m ≤ hi → s.data.toList ≠ Lib.decDigits m from fun m _ h2 => by
      rcases hN with ⟨h, _⟩ | ⟨_, h⟩
      · cases h
      · exact h m (by omega))
    clear hN
    go_wp2
    go_ret2
    exact ⟨n, false, rfl, Or.inr ⟨rfl, HN.out⟩, HB.out⟩
  | true =>
    have hN2 : s.data.toList = Lib.decDigits n := by
      rcases hN with ⟨_, h, _⟩ | ⟨h, _⟩
      · exact h
      · cases h
    have HN := hide hN2
    clear hN hN2
    by_cases h1 : lo ≤ n
    · have h1' : (lo : Int) ≤ (n : Int) := by omega
      by_cases h2 : n ≤ hi
      · have h2' : (n : Int) ≤ (hi : Int) := by omega
        go_wp2
        go_ret2
        exact ⟨n, true, rfl, Or.inl ⟨rfl, HN.out, h1, h2⟩, HB.out⟩
      · have h2' : ¬ (n : Int) ≤ (hi : Int) := by omega
        go_wp2
        go_ret2
        refine ⟨n, false, rfl, Or.inr ⟨rfl, fun m _ hm e => ?_⟩, HB.out⟩
        have := dec_inj (HN.out.symm.trans e)
        omega
    · have h1' : ¬ (lo : Int) ≤ (n : Int) := by omega
      go_wp2
      go_ret2
      refine ⟨n, false, rfl, Or.inr ⟨rfl, fun m hm _ e => ?_⟩, HB.out⟩
      have := dec_inj (HN.out.symm.trans e)
      omega
end Go.Proofs.YtledlicandlekaaDoor
