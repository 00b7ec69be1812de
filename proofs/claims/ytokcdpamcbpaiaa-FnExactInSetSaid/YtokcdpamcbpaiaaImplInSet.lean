import Derived.Test.YtokcdpamcbpaiaaSpecInSet
namespace Go.Proofs.Ytokcdpamcbpaiaa
open Go.RowKit
set_option maxHeartbeats 1000000 in
theorem implInSet_any (a : Option Addr) (cap : Nat) (ps : List (Int × Int)) (n mx : Int) (w : World) (hl : ps.length ≤ 1048576) (hr : PrAt w a ps) :
    Calls Try.prog 20 #[.slice a ps.length cap, .int .u32 n, .int .u32 mx] w fun e w' => e = .returned (.bool (inSetOf ps n mx)) ∧ Below w.heap.size w w' := by
  by_cases hn0 : n = 0
  · have HN := hide (inSet_false (ps := ps) (mx := mx) (.inl hn0))
    subst hn0
    go_enter Try.func20, Try.ntmps20
    go_wp2
    go_ret
    exact ⟨by rw [HN.out]; rfl, Below.refl _ _⟩
  · go_enter Try.func20, Try.ntmps20
    go_wp2
    go_loopw [8, 9, 10, 15] (fun _ _ _ i wr => ∃ k : Nat, k ≤ ps.length ∧ i = .int .i64 (k : Int) ∧ (n = 0 ∨ ∀ p ∈ ps.take k, liesIn n mx p = false) ∧ Below w.heap.size w wr) (fun _ _ _ i _ => ps.length - (intOf i).toNat)
    case atStart => exact ⟨0, Nat.zero_le _, rfl, .inr (by intro p h; rw [List.take_zero] at h; cases h), Below.refl _ _⟩
    case round =>
      obtain ⟨k, hk, rfl, hno, hnx⟩ := hrel
      by_cases hlt : k < ps.length
      · obtain ⟨b, off, rfl, hc⟩ := (hr.below hnx) (by omega)
        obtain ⟨hc0, hc1⟩ := hc k hlt
        have HT := hide (inSet_true (n := n) (mx := mx) hlt)
        have HF := hide (inSet_next hlt hno)
        generalize ps[k].1 = x at hc0 HT HF
        generalize ps[k].2 = y at hc1 HT HF
        have HB := hide ((hnx.alloc hnx.size (.cells #[.int .u32 x, .int .u32 y] 67)))
        clear hc hr hnx hno
        go_wp2
        go_quiet (fail)
        by_cases hx : x = 0
        · have e1 : endOf x mx = mx := if_pos hx
          rw [e1] at HT HF
          clear e1
          subst hx
          by_cases hy : y = 0
          · have e2 : endOf y mx = mx := if_pos hy
            rw [e2] at HT HF
            clear e2
            subst hy
            rcases cmp6 n mx mx with h0 | ⟨h0, h1, h2⟩ | ⟨h0, h1, h2, h3, h4⟩ | ⟨h0, h1, h2, h3, h4⟩ | ⟨h0, h1, h3⟩ | ⟨h0, h1, h3, h4⟩
            · exact absurd h0 hn0
            · have HT2 := hide (HT.out h0 (.inl ⟨h1, h2⟩))
              clear HT HF
              go_wp2
              go_ret
              exact ⟨by rw [HT2.out]; rfl, below_drewN HB.out _⟩
            · omega
            · have HF2 := hide (HF.out (.inr (by omega)))
              clear HT HF
              go_wp2
              go_roundw
              case rel => exact ⟨k + 1, by omega, by go_num, HF2.out, below_drewN HB.out _⟩
              case measure => simp [intOf]; omega
            · have HF2 := hide (HF.out (.inr (by omega)))
              clear HT HF
              go_wp2
              go_roundw
              case rel => exact ⟨k + 1, by omega, by go_num, HF2.out, below_drewN HB.out _⟩
              case measure => simp [intOf]; omega
            · omega
          · have e2 : endOf y mx = y := if_neg hy
            rw [e2] at HT HF
            clear e2
            rcases cmp6 n mx y with h0 | ⟨h0, h1, h2⟩ | ⟨h0, h1, h2, h3, h4⟩ | ⟨h0, h1, h2, h3, h4⟩ | ⟨h0, h1, h3⟩ | ⟨h0, h1, h3, h4⟩
            · exact absurd h0 hn0
            · have HT2 := hide (HT.out h0 (.inl ⟨h1, h2⟩))
              clear HT HF
              go_wp2
              go_ret
              exact ⟨by rw [HT2.out]; rfl, below_drewN HB.out _⟩
            · have HT2 := hide (HT.out h0 (.inr ⟨h3, h4⟩))
              clear HT HF
              go_wp2
              go_ret
              exact ⟨by rw [HT2.out]; rfl, below_drewN HB.out _⟩
            · have HF2 := hide (HF.out (.inr (by omega)))
              clear HT HF
              go_wp2
              go_roundw
              case rel => exact ⟨k + 1, by omega, by go_num, HF2.out, below_drewN HB.out _⟩
              case measure => simp [intOf]; omega
            · have HF2 := hide (HF.out (.inr (by omega)))
              clear HT HF
              go_wp2
              go_roundw
              case rel => exact ⟨k + 1, by omega, by go_num, HF2.out, below_drewN HB.out _⟩
              case measure => simp [intOf]; omega
            · have HT2 := hide (HT.out h0 (.inr ⟨h3, h4⟩))
              clear HT HF
              go_wp2
              go_ret
              exact ⟨by rw [HT2.out]; rfl, below_drewN HB.out _⟩
        · have e1 : endOf x mx = x := if_neg hx
          rw [e1] at HT HF
          clear e1
          by_cases hy : y = 0
          · have e2 : endOf y mx = mx := if_pos hy
            rw [e2] at HT HF
            clear e2
            subst hy
            rcases cmp6 n x mx with h0 | ⟨h0, h1, h2⟩ | ⟨h0, h1, h2, h3, h4⟩ | ⟨h0, h1, h2, h3, h4⟩ | ⟨h0, h1, h3⟩ | ⟨h0, h1, h3, h4⟩
            · exact absurd h0 hn0
            · have HT2 := hide (HT.out h0 (.inl ⟨h1, h2⟩))
              clear HT HF
              go_wp2
              go_ret
              exact ⟨by rw [HT2.out]; rfl, below_drewN HB.out _⟩
            · have HT2 := hide (HT.out h0 (.inr ⟨h3, h4⟩))
              clear HT HF
              go_wp2
              go_ret
              exact ⟨by rw [HT2.out]; rfl, below_drewN HB.out _⟩
            · have HF2 := hide (HF.out (.inr (by omega)))
              clear HT HF
              go_wp2
              go_roundw
              case rel => exact ⟨k + 1, by omega, by go_num, HF2.out, below_drewN HB.out _⟩
              case measure => simp [intOf]; omega
            · have HF2 := hide (HF.out (.inr (by omega)))
              clear HT HF
              go_wp2
              go_roundw
              case rel => exact ⟨k + 1, by omega, by go_num, HF2.out, below_drewN HB.out _⟩
              case measure => simp [intOf]; omega
            · have HT2 := hide (HT.out h0 (.inr ⟨h3, h4⟩))
              clear HT HF
              go_wp2
              go_ret
              exact ⟨by rw [HT2.out]; rfl, below_drewN HB.out _⟩
          · have e2 : endOf y mx = y := if_neg hy
            rw [e2] at HT HF
            clear e2
            rcases cmp6 n x y with h0 | ⟨h0, h1, h2⟩ | ⟨h0, h1, h2, h3, h4⟩ | ⟨h0, h1, h2, h3, h4⟩ | ⟨h0, h1, h3⟩ | ⟨h0, h1, h3, h4⟩
            · exact absurd h0 hn0
            · have HT2 := hide (HT.out h0 (.inl ⟨h1, h2⟩))
              clear HT HF
              go_wp2
              go_ret
              exact ⟨by rw [HT2.out]; rfl, below_drewN HB.out _⟩
            · have HT2 := hide (HT.out h0 (.inr ⟨h3, h4⟩))
              clear HT HF
              go_wp2
              go_ret
              exact ⟨by rw [HT2.out]; rfl, below_drewN HB.out _⟩
            · have HF2 := hide (HF.out (.inr (by omega)))
              clear HT HF
              go_wp2
              go_roundw
              case rel => exact ⟨k + 1, by omega, by go_num, HF2.out, below_drewN HB.out _⟩
              case measure => simp [intOf]; omega
            · have HF2 := hide (HF.out (.inr (by omega)))
              clear HT HF
              go_wp2
              go_roundw
              case rel => exact ⟨k + 1, by omega, by go_num, HF2.out, below_drewN HB.out _⟩
              case measure => simp [intOf]; omega
            · have HT2 := hide (HT.out h0 (.inr ⟨h3, h4⟩))
              clear HT HF
              go_wp2
              go_ret
              exact ⟨by rw [HT2.out]; rfl, below_drewN HB.out _⟩
      · have he : ps.take k = ps := List.take_of_length_le (by omega)
        rw [he] at hno
        have HN := hide (inSet_false hno)
        clear hno he
        go_wp2
        go_ret
        exact ⟨by rw [HN.out]; rfl, hnx⟩
end Go.Proofs.Ytokcdpamcbpaiaa
