import Derived.Test.YtokcdpamcbpaiaaPairRow
namespace Go.Proofs.Ytokcdpamcbpaiaa
open Go.RowKit
/-- A pair's end, 0 read as max. -/
def endOf (x mx : Int) : Int := if x = 0 then mx else x
def liesIn (n mx : Int) (p : Int × Int) : Bool := decide ((endOf p.1 mx ≤ n ∧ n ≤ endOf p.2 mx) ∨ (endOf p.2 mx ≤ n ∧ n ≤ endOf p.1 mx))
/-- What both answer. -/
def inSetOf (ps : List (Int × Int)) (n mx : Int) : Bool := decide (n ≠ 0) && ps.any (liesIn n mx)
theorem cmp6 (n A B : Int) : n = 0 ∨ (n ≠ 0 ∧ A ≤ n ∧ n ≤ B) ∨ (n ≠ 0 ∧ A ≤ n ∧ ¬ n ≤ B ∧ B ≤ n ∧ n ≤ A) ∨ (n ≠ 0 ∧ A ≤ n ∧ ¬ n ≤ B ∧ B ≤ n ∧ ¬ n ≤ A) ∨ (n ≠ 0 ∧ ¬ A ≤ n ∧ ¬ B ≤ n) ∨ (n ≠ 0 ∧ ¬ A ≤ n ∧ B ≤ n ∧ n ≤ A) := by omega
theorem inSet_true {ps : List (Int × Int)} {n mx : Int} {k : Nat} (hk : k < ps.length) : n ≠ 0 → (endOf ps[k].1 mx ≤ n ∧ n ≤ endOf ps[k].2 mx) ∨ (endOf ps[k].2 mx ≤ n ∧ n ≤ endOf ps[k].1 mx) → inSetOf ps n mx = true := fun h0 h => by
  unfold inSetOf
  simp only [ne_eq, h0, not_false_eq_true, decide_true, Bool.true_and, List.any_eq_true]
  exact ⟨ps[k], List.getElem_mem hk, decide_eq_true h⟩
theorem inSet_next {ps : List (Int × Int)} {n mx : Int} {k : Nat} (hk : k < ps.length) (h : n = 0 ∨ ∀ p ∈ ps.take k, liesIn n mx p = false) : (n = 0 ∨ ¬ ((endOf ps[k].1 mx ≤ n ∧ n ≤ endOf ps[k].2 mx) ∨ (endOf ps[k].2 mx ≤ n ∧ n ≤ endOf ps[k].1 mx))) → (n = 0 ∨ ∀ p ∈ ps.take (k + 1), liesIn n mx p = false) := fun h2 => by
  by_cases h0 : n = 0
  · exact .inl h0
  · right
    rw [List.take_succ_eq_append_getElem hk]
    intro p hp
    rcases List.mem_append.1 hp with hp | hp
    · exact (h.resolve_left h0) p hp
    · rw [List.mem_singleton.1 hp]
      exact decide_eq_false (h2.resolve_left h0)
theorem inSet_false {ps : List (Int × Int)} {n mx : Int} (h : n = 0 ∨ ∀ p ∈ ps, liesIn n mx p = false) : inSetOf ps n mx = false := by
  unfold inSetOf
  rcases h with h | h
  · simp [h]
  · rw [Bool.and_eq_false_iff]
    right
    rw [List.any_eq_false]
    intro p hp
    rw [h p hp]
    decide
set_option maxHeartbeats 1000000 in
theorem specInSet_any (a : Option Addr) (cap : Nat) (ps : List (Int × Int)) (n mx : Int) (w : World) (hl : ps.length ≤ 1048576) (hr : PrAt w a ps) :
    Calls Try.prog 18 #[.slice a ps.length cap, .int .u32 n, .int .u32 mx] w fun e w' => e = .returned (.bool (inSetOf ps n mx)) ∧ Below w.heap.size w w' := by
  go_enter Try.func18, Try.ntmps18
  go_wp2
  go_loopw [8, 9, 10, 13] (fun _ _ _ i wr => ∃ k : Nat, k ≤ ps.length ∧ i = .int .i64 (k : Int) ∧ (n = 0 ∨ ∀ p ∈ ps.take k, liesIn n mx p = false) ∧ Below w.heap.size w wr) (fun _ _ _ i _ => ps.length - (intOf i).toNat)
  case atStart => exact ⟨0, Nat.zero_le _, rfl, .inr (by intro p h; rw [List.take_zero] at h; cases h), Below.refl _ _⟩
  case round =>
    obtain ⟨k, hk, rfl, hno, hnx⟩ := hrel
    by_cases hlt : k < ps.length
    · obtain ⟨b, off, rfl, hc⟩ := (hr.below hnx) (by omega)
      obtain ⟨hc0, hc1⟩ := hc k hlt
      have HT := hide (inSet_true (n := n) (mx := mx) hlt)
      have HF := hide (inSet_next hlt hno)
      generalize ps[k].1 = x at hc0 HT HF
      generalize ps[k].2 = y at hc1 HT HF
      have HB := hide ((hnx.alloc hnx.size (.cells #[.int .u32 x, .int .u32 y] 67)))
      clear hc hr hnx hno
      by_cases hx : x = 0
      · have e1 : endOf x mx = mx := if_pos hx
        rw [e1] at HT HF
        clear e1
        subst hx
        by_cases hy : y = 0
        · have e2 : endOf y mx = mx := if_pos hy
          rw [e2] at HT HF
          clear e2
          subst hy
          rcases cmp6 n mx mx with h0 | ⟨h0, h1, h2⟩ | ⟨h0, h1, h2, h3, h4⟩ | ⟨h0, h1, h2, h3, h4⟩ | ⟨h0, h1, h3⟩ | ⟨h0, h1, h3, h4⟩
          · subst h0
            clear HT HF
            go_wp2
            go_roundw
            case rel => exact ⟨k + 1, by omega, by go_num, .inl trivial, HB.out⟩
            case measure => simp [intOf]; omega
          · have HT2 := hide (HT.out h0 (.inl ⟨h1, h2⟩))
            clear HT HF
            go_wp2
            go_ret
            exact ⟨by rw [HT2.out]; rfl, HB.out⟩
          · omega
          · have HF2 := hide (HF.out (.inr (by omega)))
            clear HT HF
            go_wp2
            go_roundw
            case rel => exact ⟨k + 1, by omega, by go_num, HF2.out, HB.out⟩
            case measure => simp [intOf]; omega
          · have HF2 := hide (HF.out (.inr (by omega)))
            clear HT HF
            go_wp2
            go_roundw
            case rel => exact ⟨k + 1, by omega, by go_num, HF2.out, HB.out⟩
            case measure => simp [intOf]; omega
          · omega
        · have e2 : endOf y mx = y := if_neg hy
          rw [e2] at HT HF
          clear e2
          rcases cmp6 n mx y with h0 | ⟨h0, h1, h2⟩ | ⟨h0, h1, h2, h3, h4⟩ | ⟨h0, h1, h2, h3, h4⟩ | ⟨h0, h1, h3⟩ | ⟨h0, h1, h3, h4⟩
          · subst h0
            clear HT HF
            go_wp2
            go_roundw
            case rel => exact ⟨k + 1, by omega, by go_num, .inl trivial, HB.out⟩
            case measure => simp [intOf]; omega
          · have HT2 := hide (HT.out h0 (.inl ⟨h1, h2⟩))
            clear HT HF
            go_wp2
            go_ret
            exact ⟨by rw [HT2.out]; rfl, HB.out⟩
          · have HT2 := hide (HT.out h0 (.inr ⟨h3, h4⟩))
            clear HT HF
            go_wp2
            go_ret
            exact ⟨by rw [HT2.out]; rfl, HB.out⟩
          · have HF2 := hide (HF.out (.inr (by omega)))
            clear HT HF
            go_wp2
            go_roundw
            case rel => exact ⟨k + 1, by omega, by go_num, HF2.out, HB.out⟩
            case measure => simp [intOf]; omega
          · have HF2 := hide (HF.out (.inr (by omega)))
            clear HT HF
            go_wp2
            go_roundw
            case rel => exact ⟨k + 1, by omega, by go_num, HF2.out, HB.out⟩
            case measure => simp [intOf]; omega
          · have HT2 := hide (HT.out h0 (.inr ⟨h3, h4⟩))
            clear HT HF
            go_wp2
            go_ret
            exact ⟨by rw [HT2.out]; rfl, HB.out⟩
      · have e1 : endOf x mx = x := if_neg hx
        rw [e1] at HT HF
        clear e1
        by_cases hy : y = 0
        · have e2 : endOf y mx = mx := if_pos hy
          rw [e2] at HT HF
          clear e2
          subst hy
          rcases cmp6 n x mx with h0 | ⟨h0, h1, h2⟩ | ⟨h0, h1, h2, h3, h4⟩ | ⟨h0, h1, h2, h3, h4⟩ | ⟨h0, h1, h3⟩ | ⟨h0, h1, h3, h4⟩
          · subst h0
            clear HT HF
            go_wp2
            go_roundw
            case rel => exact ⟨k + 1, by omega, by go_num, .inl trivial, HB.out⟩
            case measure => simp [intOf]; omega
          · have HT2 := hide (HT.out h0 (.inl ⟨h1, h2⟩))
            clear HT HF
            go_wp2
            go_ret
            exact ⟨by rw [HT2.out]; rfl, HB.out⟩
          · have HT2 := hide (HT.out h0 (.inr ⟨h3, h4⟩))
            clear HT HF
            go_wp2
            go_ret
            exact ⟨by rw [HT2.out]; rfl, HB.out⟩
          · have HF2 := hide (HF.out (.inr (by omega)))
            clear HT HF
            go_wp2
            go_roundw
            case rel => exact ⟨k + 1, by omega, by go_num, HF2.out, HB.out⟩
            case measure => simp [intOf]; omega
          · have HF2 := hide (HF.out (.inr (by omega)))
            clear HT HF
            go_wp2
            go_roundw
            case rel => exact ⟨k + 1, by omega, by go_num, HF2.out, HB.out⟩
            case measure => simp [intOf]; omega
          · have HT2 := hide (HT.out h0 (.inr ⟨h3, h4⟩))
            clear HT HF
            go_wp2
            go_ret
            exact ⟨by rw [HT2.out]; rfl, HB.out⟩
        · have e2 : endOf y mx = y := if_neg hy
          rw [e2] at HT HF
          clear e2
          rcases cmp6 n x y with h0 | ⟨h0, h1, h2⟩ | ⟨h0, h1, h2, h3, h4⟩ | ⟨h0, h1, h2, h3, h4⟩ | ⟨h0, h1, h3⟩ | ⟨h0, h1, h3, h4⟩
          · subst h0
            clear HT HF
            go_wp2
            go_roundw
            case rel => exact ⟨k + 1, by omega, by go_num, .inl trivial, HB.out⟩
            case measure => simp [intOf]; omega
          · have HT2 := hide (HT.out h0 (.inl ⟨h1, h2⟩))
            clear HT HF
            go_wp2
            go_ret
            exact ⟨by rw [HT2.out]; rfl, HB.out⟩
          · have HT2 := hide (HT.out h0 (.inr ⟨h3, h4⟩))
            clear HT HF
            go_wp2
            go_ret
            exact ⟨by rw [HT2.out]; rfl, HB.out⟩
          · have HF2 := hide (HF.out (.inr (by omega)))
            clear HT HF
            go_wp2
            go_roundw
            case rel => exact ⟨k + 1, by omega, by go_num, HF2.out, HB.out⟩
            case measure => simp [intOf]; omega
          · have HF2 := hide (HF.out (.inr (by omega)))
            clear HT HF
            go_wp2
            go_roundw
            case rel => exact ⟨k + 1, by omega, by go_num, HF2.out, HB.out⟩
            case measure => simp [intOf]; omega
          · have HT2 := hide (HT.out h0 (.inr ⟨h3, h4⟩))
            clear HT HF
            go_wp2
            go_ret
            exact ⟨by rw [HT2.out]; rfl, HB.out⟩
    · have he : ps.take k = ps := List.take_of_length_le (by omega)
      rw [he] at hno
      have HN := hide (inSet_false hno)
      clear hno he
      go_wp2
      go_ret
      exact ⟨by rw [HN.out]; rfl, hnx⟩
end Go.Proofs.Ytokcdpamcbpaiaa
