import Derived.Test.YtledlicandlekabLists
import Derived.Laws.IdiomStrings
namespace Go.Proofs.Ytledlicandlekab
open Go.RowKit
/-- A byte that a good name may hold. -/
def okB (x : UInt8) : Bool := decide (33 ≤ x.toNat ∧ x.toNat ≤ 126)
/-- A good name. -/
def okName (s : ByteArray) : Bool := decide (1 ≤ s.size ∧ s.size ≤ 80 ∧ ∀ i, i < s.size → okB (s.get! i) = true)
theorem okName_no {s : ByteArray} {i : Nat} (h : i < s.size) (hb : okB (s.get! i) = false) : okName s = false := by
  unfold okName
  refine decide_eq_false fun h' => ?_
  rw [h'.2.2 i h] at hb
  simp at hb
theorem get_bang (s : ByteArray) (k : Nat) (h : k < s.size) : s.get! k = s[k]'h := by
  show s.data[k]! = _
  rw [getElem!_pos s.data k h]
  rfl
theorem l1GoodName_any (s : ByteArray) (w : World) (hs : s.size ≤ 9223372036854775807) :
    Calls Try.prog 70 #[.string s] w fun e w' => e = .returned (.bool (okName s)) ∧ w' = w := by
  by_cases h1 : s.size < 1
  · have hf : okName s = false := decide_eq_false fun h => by omega
    rw [hf]
    go_enter Try.func70, Try.ntmps70
    go_wp2
    go_ret
    exact ⟨rfl, rfl⟩
  by_cases h2 : 80 < s.size
  · have hf : okName s = false := decide_eq_false fun h => by omega
    rw [hf]
    go_enter Try.func70, Try.ntmps70
    go_wp2
    go_ret
    exact ⟨rfl, rfl⟩
  go_enter Try.func70, Try.ntmps70
  go_wp2
  go_loop [3] (fun i => ∃ k : Nat, k ≤ s.size ∧ i = .int .i64 k ∧ ∀ i, i < k → okB (s.get! i) = true) (fun i => s.size - (intOf i).toNat)
  case atStart => exact ⟨0, Nat.zero_le _, rfl, fun i h => by omega⟩
  case round =>
    obtain ⟨k, hk, rfl, hok⟩ := hrel
    have HK := hide hok
    clear hok
    by_cases hlt : k < s.size
    · have HG := hide (get_bang s k hlt)
      by_cases lo : s[k].toNat < 33
      · go_wp2
        go_ret
        exact ⟨ret_bool (okName_no hlt (by rw [HG.out]; exact decide_eq_false fun h => by omega)).symm, rfl⟩
      · by_cases hi : 126 < s[k].toNat
        · go_wp2
          go_ret
          exact ⟨ret_bool (okName_no hlt (by rw [HG.out]; exact decide_eq_false fun h => by omega)).symm, rfl⟩
        · have HB := hide (show okB (s.get! k) = true from by rw [HG.out]; exact decide_eq_true ⟨by omega, by omega⟩)
          go_wp2
          go_round
          case rel => exact ⟨k + 1, by omega, by go_num, fun i h => by
            by_cases e : i = k
            · rw [e]; exact HB.out
            · exact HK.out i (by omega)⟩
          case measure => simp [intOf]; omega
    · have hf : okName s = true := decide_eq_true ⟨by omega, by omega, fun i h => HK.out i (by omega)⟩
      go_wp2
      go_ret
      exact ⟨rfl, rfl⟩
set_option maxRecDepth 20000 in
theorem goodName_any (s : ByteArray) (w : World) (hs : s.size ≤ 9223372036854775807) :
    Calls Try.prog 80 #[.string s] w fun e w' => e = .returned (.bool (okName s)) ∧ Below w.heap.size w w' := by
  by_cases h1 : s.size < 1
  · have hf : okName s = false := decide_eq_false fun h => by omega
    rw [hf]
    go_enter Try.func80, Try.ntmps80
    go_wp2
    go_ret
    exact ⟨rfl, Below.refl _ _⟩
  by_cases h2 : 80 < s.size
  · have hf : okName s = false := decide_eq_false fun h => by omega
    rw [hf]
    go_enter Try.func80, Try.ntmps80
    go_wp2
    go_ret
    exact ⟨rfl, Below.refl _ _⟩
  have hcv := run_bytes_of_string (P := Try.prog) w 9 28 5 s (by kernel_rfl) (by kernel_rfl) (by kernel_rfl)
  generalize hcap : grownCap w s.size 0 5 = cap at hcv
  have hrow : ∀ j (h : j < s.size), (w.drew.alloc (.cells (bytesRow s cap) 5 ((bytesRow s cap).size, (bytesRow s cap).size + 1))).cell? ⟨w.heap.size, j, none⟩ = some (.int .u8 (s[j].toNat : Int)) := fun j h => by
    have e := World.cell?_alloc_mark w.drew (bytesRow s cap) 5 ((bytesRow s cap).size, (bytesRow s cap).size + 1) j
    rw [bytesRow_at s cap j h] at e
    exact e
  have hnx : Below w.heap.size w (w.drew.alloc (.cells (bytesRow s cap) 5 ((bytesRow s cap).size, (bytesRow s cap).size + 1))) := (Below.refl _ _).drew.alloc (Nat.le_refl _) _
  generalize (w.drew.alloc (.cells (bytesRow s cap) 5 ((bytesRow s cap).size, (bytesRow s cap).size + 1))) = w1 at hcv hrow hnx
  have HN := hide hnx
  have HRW := hide hrow
  clear hnx hrow hcap
  go_enter Try.func80, Try.ntmps80
  go_wp2
  clear hcv
  go_loop [16] (fun i => ∃ k : Nat, k ≤ s.size ∧ i = .int .i64 k ∧ ∀ i, i < k → okB (s.get! i) = true) (fun i => s.size - (intOf i).toNat)
  case atStart => exact ⟨0, Nat.zero_le _, rfl, fun i h => by omega⟩
  case round =>
    obtain ⟨k, hk, rfl, hok⟩ := hrel
    have HK := hide hok
    clear hok
    by_cases hlt : k < s.size
    · have HG := hide (get_bang s k hlt)
      have hc := HRW.out k hlt
      by_cases lo : s[k].toNat < 33
      · go_wp2
        go_ret
        exact ⟨ret_bool (okName_no hlt (by rw [HG.out]; exact decide_eq_false fun h => by omega)).symm, HN.out⟩
      · by_cases hi : 126 < s[k].toNat
        · go_wp2
          go_ret
          exact ⟨ret_bool (okName_no hlt (by rw [HG.out]; exact decide_eq_false fun h => by omega)).symm, HN.out⟩
        · have HB := hide (show okB (s.get! k) = true from by rw [HG.out]; exact decide_eq_true ⟨by omega, by omega⟩)
          go_wp2
          go_round
          case rel => exact ⟨k + 1, by omega, by go_num, fun i h => by
            by_cases e : i = k
            · rw [e]; exact HB.out
            · exact HK.out i (by omega)⟩
          case measure => simp [intOf]; omega
    · have hf : okName s = true := decide_eq_true ⟨by omega, by omega, fun i h => HK.out i (by omega)⟩
      go_wp2
      go_ret
      exact ⟨rfl, HN.out⟩
end Go.Proofs.Ytledlicandlekab
