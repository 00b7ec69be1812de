import Derived.Test.YtledlicandlekaaDoorCutSp2
namespace Go.Proofs.YtledlicandlekaaDoor
open Go.RowKit
/-- What LastIndexByte answers. -/
def lastI (c : Nat) (d : List Nat) : Int := match lastIx c d with
  | some i => (i : Int)
  | none => -1
set_option maxRecDepth 20000 in
set_option maxHeartbeats 1000000 in
theorem lastIndexIn_any (q b off cap : Nat) (d : List Nat) (w : World) (hd : d.length ≤ 1048576) (hT : Tx w b off d) :
    Calls Tryd.prog 78 #[.slice (some ⟨b, off, none⟩) d.length cap, .int .u8 (q : Int)] w fun e w' => e = .returned (.int .i64 (lastI q d)) ∧ w' = w := by
  generalize hm : d.length = m at hd
  have HM := hide hm
  have HT := hide hT
  clear hm hT
  go_enter Tryd.func78, Tryd.ntmps78
  go_wp2
  go_loopw [5] (fun i wr => ∃ k : Nat, k ≤ m ∧ i = .int .i64 ((k : Int) - 1) ∧ q ∉ d.drop k ∧ wr = w) (fun i _ => (intOf i + 1).toNat)
  case atStart => exact ⟨m, Nat.le_refl _, rfl, by rw [← HM.out, List.drop_length]; simp, rfl⟩
  case round =>
    obtain ⟨k, hk, rfl, hn, rfl⟩ := hrel
    cases k with
    | zero =>
      have HR := hide (lastIx_none.2 (show q ∉ d by simpa using hn))
      have h0 : ¬ (0 : Int) ≤ ((0 : Nat) : Int) - 1 := by omega
      clear hn
      go_wp2
      go_ret
      exact ⟨by simp only [lastI, HR.out]; rfl, rfl⟩
    | succ i =>
      have hi : i < d.length := by have := HM.out; omega
      have hci := HT.out i hi
      have he : ((i + 1 : Nat) : Int) - 1 = (i : Int) := by omega
      rw [he]
      have hil : (i : Int) < (m : Int) := by omega
      have him : i < m := by omega
      by_cases hq : d[i] = q
      · have HL := hide (lastIx_at hi hq hn)
        rw [hq] at hci
        clear hn
        go_wp2
        go_ret
        exact ⟨by simp only [lastI, HL.out]; rfl, rfl⟩
      · have HN := hide (drop_more hi hn hq)
        have hqb : ((d[i] : Int) == (q : Int)) = false := by simp; omega
        clear hn
        go_wp2
        exact ⟨⟨i, by omega, by go_num, HN.out, trivial⟩, by simp [intOf]⟩
theorem lastIndex_any (q b off cap : Nat) (d : List Nat) (w : World) (hd : d.length ≤ 1048576) (hT : Tx w b off d) :
    Calls Tryd.prog 60 #[.slice (some ⟨b, off, none⟩) d.length cap, .int .u8 (q : Int)] w fun e w' => e = .returned (.int .i64 (lastI q d)) ∧ w' = w := by
  have HL := hide (lastIndexIn_any q b off cap d w hd hT)
  clear hT
  go_enter Tryd.func60, Tryd.ntmps60
  go_wp2_with fail
  refine HL.out.mono ?_
  rintro e w2 ⟨rfl, rfl⟩
  go_wp2
  go_ret
  exact ⟨rfl, rfl⟩
end Go.Proofs.YtledlicandlekaaDoor
