import Derived.Test.YtknnpgffdbkfnaaSpecPiece
namespace Go.Proofs.Ytknnpgffdbkfnaa
open Go.RowKit
theorem head_beq {l : List Nat} (hl : ∀ x ∈ l, x < 256) : ((strB (l.take 10)).toList == [70, 114, 111, 109, 32, 109, 97, 105, 108, 10]) = decide (l.take 10 = headW) := by
  have h := strB_beq (l := l.take 10) (m := headW) (fun x hx => hl x (List.mem_of_mem_take hx)) (by decide)
  rw [strB_list headW] at h
  exact h
theorem head_conv {W : World} {g c : Nat} {l : List Nat} (hT : TextAt W g 0 l) (h10 : 10 ≤ l.length) : (convert 24 9 (.slice (some ⟨g, 0, none⟩) 10 c)).run Try.prog W = .ok (.string (strB (l.take 10))) W := by
  have h := run_string_of W (some ⟨g, 0, none⟩) c (l.take 10) (rowAt_of_text (by have := text_slice hT 0 10; simpa using this))
  rw [List.length_take, Nat.min_eq_left h10] at h
  exact h
theorem last_cell {W : World} {g : Nat} {l : List Nat} (hT : TextAt W g 0 l) (m : Nat) (hm : l.length = m + 1) : ∃ x : Nat, W.cell? ⟨g, m, none⟩ = some (.int .u8 (x : Int)) ∧ (x = 10 ↔ l.drop (l.length - 1) = [10]) := by
  have h := hT m (by omega)
  refine ⟨l[m]'(by omega), by simpa using h, ?_⟩
  rw [show l.length - 1 = m from by omega, List.drop_eq_getElem_cons (by omega), List.drop_of_length_le (by omega)]
  simp
theorem sbare_n (b off cap n : Nat) (d : List Nat) (w : World) (hn : d.length = n) (hd : n ≤ 1048576) (hT : TextAt w b off d) :
    Calls Try.prog 46 #[.slice (some ⟨b, off, none⟩) n cap] w fun e w' => e = .returned (.bool (bareB d)) ∧ w' = w := by
  subst hn; exact specBare_any b off cap d w hd hT
theorem inner_text {W : World} {g : Nat} {l : List Nat} (hT : TextAt W g 0 l) : TextAt W g 10 (innerOf l) := by
  have h := text_slice (hT.drop 10) 0 (l.length - 11)
  unfold innerOf
  simpa using h
theorem inner_len {l : List Nat} (h : 10 < l.length) : (innerOf l).length = l.length - 1 - 10 := by
  unfold innerOf; rw [List.length_take, List.length_drop]; omega
set_option maxRecDepth 20000 in
theorem l3Piece_bad (B1 g c en : Nat) (l : List Nat) (W : World) (hl9 : l.length ≤ 1048576) (hc : l.length ≤ c) (hT : TextAt W g 0 l) (hl : ∀ x ∈ l, x < 256) (hok : okEntry l = false) :
    Calls Try.prog 36 #[.pointer (some ⟨B1, 0, none⟩), .slice (some ⟨g, 0, none⟩) l.length c, .int .i64 (en : Int)] W fun e w' => e = .returned (.bool false) ∧ w' = W := by
  by_cases h10 : l.length ≤ 10
  · have hi : (l.length : Int) ≤ 10 := by omega
    go_enter Try.func36, Try.ntmps36
    go_wp2
    go_ret
    exact ⟨rfl, rfl⟩
  · have hi : ¬ (l.length : Int) ≤ 10 := by omega
    obtain ⟨m, hm⟩ : ∃ m, l.length = m + 1 := ⟨l.length - 1, by omega⟩
    have hcv := head_conv (c := c) hT (by omega)
    have hq := head_beq hl
    have hci : (10 : Int) ≤ (c : Int) := by omega
    obtain ⟨x, hx, hxi⟩ := last_cell hT m hm
    by_cases hh : l.take 10 = headW
    · rw [decide_eq_true hh] at hq
      generalize strB (l.take 10) = S at hcv hq
      by_cases hx10 : x = 10
      · have hin := inner_text hT
        have hil := inner_len (l := l) (by omega)
        have hbare : bareB (innerOf l) = true := by
          unfold okEntry at hok
          rw [decide_eq_true (⟨by omega, hh, hxi.1 hx10⟩ : 10 < l.length ∧ l.take 10 = headW ∧ l.drop (l.length - 1) = [10])] at hok
          simpa using hok
        have SB := sbare_n g 10 (c - 10) (l.length - 1 - 10) (innerOf l) W hil (by omega) hin
        rw [hbare] at SB
        have hxb : ((x : Int) != 10) = false := by rw [hx10]; rfl
        rw [hm] at SB ⊢
        rw [hm] at hi hl9
        have hne : ¬ c = 10 := by omega
        have hi3 : (10 : Int) ≤ (m : Int) := by omega
        have hi4 : (m : Int) ≤ (c : Int) := by omega
        have hms : m + 1 - 1 = m := by omega
        rw [hms] at SB
        clear hin hil hbare hxi hok hl hT hm hh
        go_enter Try.func36, Try.ntmps36
        go_wp2_with fail
        refine SB.mono ?_
        rintro e w' ⟨rfl, rfl⟩
        go_wp2
        go_ret
        exact ⟨rfl, rfl⟩
      · have hxb : ((x : Int) != 10) = true := by simp; omega
        rw [hm]
        rw [hm] at hi hl9
        clear hxi hok hl hT hh
        go_enter Try.func36, Try.ntmps36
        go_wp2
        go_ret
        exact ⟨rfl, rfl⟩
    · rw [decide_eq_false hh] at hq
      generalize strB (l.take 10) = S at hcv hq
      clear hxi hok hl hT hx
      go_enter Try.func36, Try.ntmps36
      go_wp2
      go_ret
      exact ⟨rfl, rfl⟩
end Go.Proofs.Ytknnpgffdbkfnaa
