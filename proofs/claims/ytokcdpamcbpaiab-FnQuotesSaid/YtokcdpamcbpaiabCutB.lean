import Derived.Test.YtokcdpamcbpaiabBare
import Derived.Test.YtokcdpamcbpaiabHasPref
import Derived.Lib.SlBytesConst
namespace Go.Proofs.Ytokcdpamcbpaiab
open Go.RowKit
/-- What lies between an entry's head and its last line's end. -/
def innerOf (e : List Nat) : List Nat := (e.drop 10).take (e.length - 11)
def okEntry (e : List Nat) : Bool := decide (10 < e.length ∧ e.take 10 = headW ∧ e.drop (e.length - 1) = [10]) && !bareB (innerOf e)
theorem hasSuffix_nl (b off cap n : Nat) (a' : Option Addr) (cap' : Nat) (l : List Nat) (w : World) (hn : l.length = n) (hcap : n ≤ cap) (hcm : n ≤ 1048576) (hT : TextAt w b off l) (hr' : RowAt w a' [10]) (hl : ∀ x ∈ l, x < 256) :
    Calls Try.prog 53 #[.slice (some ⟨b, off, none⟩) n cap, .slice a' 1 cap'] w fun e w' => e = .returned (.bool (decide (l.drop (l.length - 1) = [10] ∧ 0 < l.length))) ∧ w' = w := by
  subst hn
  by_cases h0 : 0 < l.length
  · obtain ⟨m, hm⟩ : ∃ m, l.length = m + 1 := ⟨l.length - 1, by omega⟩
    have hd1 : (l.drop m).length = 1 := by rw [List.length_drop]; omega
    have HE := hide (equal_any (some ⟨b, off + m, none⟩) a' (cap - m) cap' (l.drop m) [10] w (rowAt_of_text (hT.drop m)) hr' (fun x hx => hl x (List.mem_of_mem_drop hx)) (by decide))
    rw [hd1] at HE
    have hfin : Hid (decide (l.drop m = [10]) = decide (l.drop (l.length - 1) = [10] ∧ 0 < l.length)) := by
      show _ = _
      rw [hm, show m + 1 - 1 = m from by omega]
      simp
    have hi1 : (1 : Int) ≤ (m : Int) + 1 := by omega
    have hi2 : (m : Int) + 1 - 1 = (m : Int) := by omega
    have hne : ¬ cap = m := by omega
    have hs1 : m + 1 - m = 1 := by omega
    rw [hm]
    rw [hm] at hcap hcm
    clear hT hr' hl
    go_enter Try.func53, Try.ntmps53
    go_wp2_with fail
    refine (HE.out).mono ?_
    rintro e w' ⟨rfl, rfl⟩
    go_wp2
    go_ret
    exact ⟨ret_bool (by have h := hfin.out; rw [hm] at h; exact h), rfl⟩
  · have hz : l = [] := List.eq_nil_of_length_eq_zero (by omega)
    subst hz
    clear hT hr' hl
    go_enter Try.func53, Try.ntmps53
    go_wp2
    go_ret
    exact ⟨rfl, rfl⟩
theorem nlRow (w : World) : RowAt (w.alloc (.cells #[.int .u8 10] 5 (1, 2))) (some ⟨w.heap.size, 0, none⟩) [10] := fun _ => by
  refine ⟨w.heap.size, 0, rfl, fun i hi => ?_⟩
  simp at hi
  subst hi
  rw [cell_of_row _ _ _ _ 5 (1, 2) (heap_alloc_new w _)]
  rfl
theorem bare_n (b off cap n : Nat) (d : List Nat) (w : World) (hn : d.length = n) (hd : n ≤ 1048576) (hT : TextAt w b off d) :
    Calls Try.prog 30 #[.slice (some ⟨b, off, none⟩) n cap] w fun e w' => e = .returned (.bool (bareB d)) ∧ w' = w := by
  subst hn; exact implBare_any b off cap d w hd hT
theorem cutPrefix_yes (b off cap n : Nat) (a' : Option Addr) (l : List Nat) (w : World) (hn : l.length = n) (hcap : n ≤ cap) (hT : TextAt w b off l) (hr' : RowAt w a' headW) (hl : ∀ x ∈ l, x < 256) (h : l.take 10 = headW) :
    Calls Try.prog 44 #[.slice (some ⟨b, off, none⟩) n cap, .slice a' 10 10] w fun e w' => e = .returned (.tuple #[.slice (if cap = 10 then some ⟨b, off, none⟩ else some ⟨b, off + 10, none⟩) (n - 10) (cap - 10), .bool true]) ∧ w' = w := by
  have HP := hide (hasPrefix_n (some ⟨b, off, none⟩) a' cap 10 n 10 l headW w hn rfl hcap (rowAt_of_text hT) hr' hl (by decide))
  have hd : decide (l.take headW.length = headW) = true := decide_eq_true h
  rw [hd] at HP
  have h10 : 10 ≤ n := by have := congrArg List.length h; simp [headW] at this; omega
  have hi : (10 : Int) ≤ (n : Int) := by omega
  clear hT hr' hl h hd
  go_enter Try.func44, Try.ntmps44
  go_wp2_with fail
  refine (HP.out).mono ?_
  rintro e w' ⟨rfl, rfl⟩
  by_cases hc : cap = 10
  · have hi2 : (cap : Int) = 10 := by omega
    go_wp2
    all_goals (go_ret2; exact ⟨by simp, rfl⟩)
  · have hi2 : ¬ (cap : Int) = 10 := by omega
    go_wp2
    all_goals (go_ret2; exact ⟨by simp, rfl⟩)
theorem cutPrefix_no (b off cap n : Nat) (a' : Option Addr) (l : List Nat) (w : World) (hn : l.length = n) (hcap : n ≤ cap) (hT : TextAt w b off l) (hr' : RowAt w a' headW) (hl : ∀ x ∈ l, x < 256) (h : ¬ l.take 10 = headW) :
    Calls Try.prog 44 #[.slice (some ⟨b, off, none⟩) n cap, .slice a' 10 10] w fun e w' => e = .returned (.tuple #[.slice (some ⟨b, off, none⟩) n cap, .bool false]) ∧ w' = w := by
  have HP := hide (hasPrefix_n (some ⟨b, off, none⟩) a' cap 10 n 10 l headW w hn rfl hcap (rowAt_of_text hT) hr' hl (by decide))
  have hd : decide (l.take headW.length = headW) = false := decide_eq_false h
  rw [hd] at HP
  clear hT hr' hl h hd
  go_enter Try.func44, Try.ntmps44
  go_wp2_with fail
  refine (HP.out).mono ?_
  rintro e w' ⟨rfl, rfl⟩
  go_wp2
  go_ret2
  exact ⟨rfl, rfl⟩
theorem cutSuffix_yes (b off cap n : Nat) (a' : Option Addr) (l : List Nat) (w : World) (hn : l.length = n) (hcap : n ≤ cap) (hcm : n ≤ 1048576) (hT : TextAt w b off l) (hr' : RowAt w a' [10]) (hl : ∀ x ∈ l, x < 256) (h0 : 0 < n) (h : l.drop (n - 1) = [10]) :
    Calls Try.prog 45 #[.slice (some ⟨b, off, none⟩) n cap, .slice a' 1 1] w fun e w' => e = .returned (.tuple #[.slice (some ⟨b, off, none⟩) (n - 1) cap, .bool true]) ∧ w' = w := by
  have HP := hide (hasSuffix_nl b off cap n a' 1 l w hn hcap hcm hT hr' hl)
  have hd : decide (l.drop (l.length - 1) = [10] ∧ 0 < l.length) = true := decide_eq_true ⟨by rw [hn]; exact h, by omega⟩
  rw [hd] at HP
  obtain ⟨m, rfl⟩ : ∃ m, n = m + 1 := ⟨n - 1, by omega⟩
  have hi : (0 : Int) ≤ (m : Int) := by omega
  have hi2 : (m : Int) + 1 - 1 = (m : Int) := by omega
  have hi3 : (m : Int) ≤ (cap : Int) := by omega
  clear hT hr' hl h hd h0
  go_enter Try.func45, Try.ntmps45
  go_wp2_with fail
  refine (HP.out).mono ?_
  rintro e w' ⟨rfl, rfl⟩
  go_wp2
  go_ret2
  exact ⟨rfl, rfl⟩
theorem cutSuffix_no (b off cap n : Nat) (a' : Option Addr) (l : List Nat) (w : World) (hn : l.length = n) (hcap : n ≤ cap) (hcm : n ≤ 1048576) (hT : TextAt w b off l) (hr' : RowAt w a' [10]) (hl : ∀ x ∈ l, x < 256) (h : ¬ (l.drop (l.length - 1) = [10] ∧ 0 < l.length)) :
    Calls Try.prog 45 #[.slice (some ⟨b, off, none⟩) n cap, .slice a' 1 1] w fun e w' => e = .returned (.tuple #[.slice (some ⟨b, off, none⟩) n cap, .bool false]) ∧ w' = w := by
  have HP := hide (hasSuffix_nl b off cap n a' 1 l w hn hcap hcm hT hr' hl)
  rw [decide_eq_false h] at HP
  clear hT hr' hl h
  go_enter Try.func45, Try.ntmps45
  go_wp2_with fail
  refine (HP.out).mono ?_
  rintro e w' ⟨rfl, rfl⟩
  go_wp2
  go_ret2
  exact ⟨rfl, rfl⟩
end Go.Proofs.Ytokcdpamcbpaiab
