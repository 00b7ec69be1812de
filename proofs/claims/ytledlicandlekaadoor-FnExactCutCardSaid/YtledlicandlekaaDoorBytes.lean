import Derived.Test.YtledlicandlekaaDoorLists
namespace Go.Proofs.YtledlicandlekaaDoor
open Go.RowKit
/-- What a copy has written behind k rounds. -/
def half (l : List Nat) (k : Nat) : List Nat := l.take k ++ List.replicate (l.length - k) 0
theorem half_zero (l : List Nat) : half l 0 = List.replicate l.length 0 := by simp [half]
theorem half_len (l : List Nat) : half l l.length = l := by simp [half]
theorem half_length (l : List Nat) (k : Nat) (h : k ≤ l.length) : (half l k).length = l.length := by simp [half]; omega
theorem half_set (l : List Nat) (k : Nat) (h : k < l.length) : (half l k).set k l[k] = half l (k + 1) := by
  unfold half
  rw [List.set_append_right _ _ (by simp; omega)]
  have e : k - (l.take k).length = 0 := by simp; omega
  rw [e, show l.length - k = (l.length - (k + 1)) + 1 from by omega, List.replicate_succ, List.set_cons_zero, List.take_succ_eq_append_getElem h]
  simp only [List.append_assoc, List.cons_append, List.nil_append]
theorem toByteS_any (a : Option Addr) (cap : Nat) (l : List Nat) (w : World) (hl : l.length ≤ 1048576) (hr : RowAt w a l) :
    Calls Tryd.prog 7 #[.slice a l.length cap] w fun e w' => e = .returned (.slice (some ⟨w.heap.size, 0, none⟩) l.length l.length) ∧ OwnB w' w.heap.size (.slice (some ⟨w.heap.size, 0, none⟩) l.length l.length) l ∧ Below w.heap.size w w' := by
  go_enter Tryd.func7, Tryd.ntmps7
  go_wp2_with (at_make; refine wpList_make_bytes _ rfl _ _ rfl l.length rfl rfl (by omega) ?_; intro w1 hown hbel)
  have hown' : OwnB w1 w.heap.size (.slice (some ⟨w.heap.size, 0, none⟩) l.length l.length) (half l 0) := by rw [half_zero]; exact hown
  clear hown
  go_loopw [4] (fun i wr => ∃ k : Nat, k ≤ l.length ∧ i = .int .i64 k ∧ OwnB wr w.heap.size (.slice (some ⟨w.heap.size, 0, none⟩) l.length l.length) (half l k) ∧ Below w.heap.size w wr) (fun i _ => l.length - (intOf i).toNat)
  case atStart => exact ⟨0, Nat.zero_le _, rfl, hown', hbel⟩
  case round =>
    obtain ⟨k, hk, rfl, hown, hnx⟩ := hrel
    clear hown' hbel
    by_cases hlt : k < l.length
    · obtain ⟨b, off, rfl, hc⟩ := (hr.below hnx) (by omega)
      have hck := hc k hlt
      have hcell := hown.cellAt k (by rw [half_length l k hk]; exact hlt)
      have hfz := hown.frozenAt k
      have hst := (hown.store k l[k]).1
      rw [half_set l k hlt] at hst
      have HX : Hid (OwnB (wr.setCell ⟨w.heap.size, k, none⟩ (bv l[k])) w.heap.size (.slice (some ⟨w.heap.size, 0, none⟩) l.length l.length) (half l (k + 1)) ∧ Below w.heap.size w (wr.setCell ⟨w.heap.size, k, none⟩ (bv l[k]))) := ⟨hst, hnx.setCell (Nat.le_refl _) _⟩
      generalize (half l k)[k]'(by rw [half_length l k hk]; exact hlt) = y at hcell
      clear hst hown hnx hc hr
      go_wp2
      go_roundw
      case rel => exact ⟨k + 1, by omega, by go_num, HX.out.1, HX.out.2⟩
      case measure => simp [intOf]; omega
    · obtain rfl : k = l.length := by omega
      rw [half_len] at hown
      go_wp2
      go_ret
      exact ⟨rfl, hown, hnx⟩
theorem eqByteS_any (a a' : Option Addr) (cap cap' : Nat) (l m : List Nat) (w : World) (hl : l.length ≤ 9223372036854775807) (hr : RowAt w a l) (hr' : RowAt w a' m) :
    Calls Tryd.prog 10 #[.slice a l.length cap, .slice a' m.length cap'] w fun e w' => e = .returned (.bool (decide (l = m))) ∧ ∃ n, w' = w.drewN n := by
  by_cases hlen : l.length = m.length
  · have hne : ((l.length : Int) != (m.length : Int)) = false := by simp; omega
    have HL : Hid (l.length = m.length) := hlen
    clear hlen
    go_enter Tryd.func10, Tryd.ntmps10
    go_wp2
    go_loopw [5] (fun i wr => ∃ k : Nat, k ≤ l.length ∧ i = .int .i64 k ∧ l.take k = m.take k ∧ ∃ n, wr = w.drewN n) (fun i _ => l.length - (intOf i).toNat)
    case atStart => exact ⟨0, Nat.zero_le _, rfl, rfl, 0, rfl⟩
    case round =>
      obtain ⟨k, hk, rfl, htk, n, rfl⟩ := hrel
      by_cases hlt : k < l.length
      · obtain ⟨b, off, rfl, hc⟩ := hr (by omega)
        obtain ⟨b', off', rfl, hc'⟩ := hr' (by have := HL.out; omega)
        have hlt' : k < m.length := by have := HL.out; omega
        have hck := hc k hlt
        have hck' := hc' k hlt'
        have HT : Hid (l.take k = m.take k) := htk
        clear hc hc' htk hr hr'
        by_cases hx : l[k] = m[k]
        · have hxe : (((l[k] : Nat) : Int) != ((m[k] : Nat) : Int)) = false := by simp [hx]
          have HX : Hid (l[k] = m[k]) := hx
          clear hx
          go_wp2
          go_quiet (fail)
          go_wp2
          go_roundw
          case rel => exact ⟨k + 1, by omega, by go_num, take_eq_succ hlt hlt' HT.out HX.out, _, rfl⟩
          case measure => simp [intOf]; omega
        · have hxe : (((l[k] : Nat) : Int) != ((m[k] : Nat) : Int)) = true := by simp; omega
          have HX : Hid (¬ l[k] = m[k]) := hx
          clear hx
          go_wp2
          go_quiet (fail)
          go_wp2
          go_ret
          exact ⟨ret_bool (decide_eq_false (ne_of_at hlt hlt' HX.out)).symm, _, World.drewN_drewN _ _ _⟩
      · go_wp2
        go_ret
        have he : l = m := by
          have h1 : l.take k = l := List.take_of_length_le (by omega)
          have h2 : m.take k = m := List.take_of_length_le (by have := HL.out; omega)
          rw [← h1, ← h2, htk]
        exact ⟨ret_bool (decide_eq_true he).symm, n, rfl⟩
  · have hne : ((l.length : Int) != (m.length : Int)) = true := by simp; omega
    go_enter Tryd.func10, Tryd.ntmps10
    go_wp2
    go_ret
    exact ⟨ret_bool (decide_eq_false (fun h => hlen (by rw [h]))).symm, 0, rfl⟩
end Go.Proofs.YtledlicandlekaaDoor
