import Derived.Test.YtokcdpamcbpaiabEntryMath
import Derived.Lib.SlBytesConst
namespace Go.Proofs.Ytokcdpamcbpaiab
open Go.RowKit
set_option maxRecDepth 20000 in
set_option maxHeartbeats 1000000 in
theorem implEntry_any (b off cap : Nat) (d : List Nat) (w : World) (hd : d.length ≤ 1048576) (hcap : d.length ≤ cap) (hcm : cap ≤ 9223372036854775807) (hT : TextAt w b off d) (hbw : b < w.heap.size) (hb : ∀ x ∈ d, x < 256) :
    Calls Try.prog 16 #[.slice (some ⟨b, off, none⟩) d.length cap] w fun e w' => ∃ v, e = .returned v ∧ OwnB w' w.heap.size v (entryOf d) ∧ Below w.heap.size w w' := by
  by_cases h8 : 8000 < d.length
  · have he : entryOf d = [] := by unfold entryOf; rw [if_pos h8]
    have HE := hide he
    clear he hT
    have hi : (8000 : Int) < (d.length : Int) := by omega
    go_enter Try.func16, Try.ntmps16
    go_wp2
    go_ret
    exact ⟨_, rfl, by rw [HE.out]; exact OwnB.nil _ _, Below.refl _ _⟩
  have hE : Hid (entryOf d = headW ++ quoteOf d ++ (if bareB d then [10] else []) ++ [10]) := by show _ = _; unfold entryOf; rw [if_neg h8]
  have hql := quote_len d
  have hi8 : ¬ (8000 : Int) < (d.length : Int) := by omega
  have hkc := fun (w : World) (C : Array Value) (n c : Nat) => Lib.run_convert_bytes_const (P := Try.prog) w 22 5 C n c Try.underlying22 Try.underlying5
  go_enter Try.func16, Try.ntmps16
  go_wp2_with fail
  have hrow := headRow w
  have hbA := (Below.refl w.heap.size w).alloc (Nat.le_refl _) (.cells #[.int .u8 70, .int .u8 114, .int .u8 111, .int .u8 109, .int .u8 32, .int .u8 109, .int .u8 97, .int .u8 105, .int .u8 108, .int .u8 10] 5 (10, 11))
  have hzA : (w.alloc (.cells #[.int .u8 70, .int .u8 114, .int .u8 111, .int .u8 109, .int .u8 32, .int .u8 109, .int .u8 97, .int .u8 105, .int .u8 108, .int .u8 10] 5 (10, 11))).heap.size = w.heap.size + 1 := by simp
  generalize hgA : w.alloc (.cells #[.int .u8 70, .int .u8 114, .int .u8 111, .int .u8 109, .int .u8 32, .int .u8 109, .int .u8 97, .int .u8 105, .int .u8 108, .int .u8 10] 5 (10, 11)) = wA at hrow hbA hzA ⊢
  clear hgA hkc
  have hTA := hT.below hbA hbw
  refine (implQuote_any b off cap d wA hd hcap hcm hTA (by omega) hb).mono ?_
  rintro e w1 ⟨v1, rfl, ho1, hb1⟩
  obtain ⟨a1, c1, rfl⟩ := ho1.slice
  have hrow1 := hrow.below (hb1.mono (Nat.le_refl _))
  have hw1 := hbA.trans (hb1.mono (by omega))
  have hT1 := hTA.below hb1 (by omega)
  have hz1 := hb1.size
  clear hrow hT hTA hbA
  by_cases h0 : 0 < d.length
  · have hqp := quote_pos d h0
    obtain ⟨g1, rfl⟩ : ∃ g1, a1 = some ⟨g1, 0, none⟩ := by
      rcases ho1.2 with ⟨_, hn⟩ | ⟨g, cap', cur, h', _⟩
      · omega
      · simp only [Value.slice.injEq] at h'; exact ⟨g, h'.1⟩
    have hr1 := ho1.row
    clear ho1
    generalize hqe : quoteOf d = R at hE hql hqp hr1
    generalize hRl : R.length = rl at hql hqp
    go_wp2_with (at_builtin; refine wpList_append_full _ rfl (.tmp 8) (.tmp 10) rfl ⟨w.heap.size, 0, none⟩ ⟨g1, 0, none⟩ headW R 10 rl c1 rfl hRl rfl rfl hrow1 hr1 (by omega) hqp (by omega) ?_; intro v2 w2 ho2 hb2)
    have hT2 := hT1.below hb2 (by omega)
    have hw2 := hw1.trans (hb2.mono (by omega))
    have hz2 := hb2.size
    have hl2 : (headW ++ R).length = 10 + rl := by rw [List.length_append, hRl]; rfl
    refine (implBare_any b off cap d w2 hd hT2).mono ?_
    rintro e w3 ⟨rfl, rfl⟩
    have hlt2 := World.ownsRow.lt ho2
    have hrow3 := row_one w3 10
    have ho3 := ho2.alloc1 (.cells #[.int .u8 10] 5)
    have hw3 := hw2.alloc (by omega) (.cells #[.int .u8 10] 5)
    clear hT2 hT1 hrow1 hr1 hb2
    by_cases hbr : bareB d = true
    · rw [hbr]
      go_wp2_with (first
        | (at_builtin; refine wpList_append_at _ rfl (.tmp 14) (.tmp 15) rfl w1.heap.size v2 _ [10] 1 rfl rfl ho3 ⟨w3.heap.size, 0, none⟩ 1 rfl hrow3 (by rw [hl2]; simp; omega) (by simp; omega) ?_; intro v5 w5 ho5 hg5; have hs5 := hg5.size; have hw5 := hw3.grown hg5 (by simp; omega) (fun g h => by have := (hlt2 g h).1; omega); have hrow5 := row_one w5 10; have ho5' := ho5.alloc1 (.cells #[.int .u8 10] 5); have hlt5 := World.ownsRow.lt ho5; have hw5' := hw5.alloc (by simp at hs5; omega) (.cells #[.int .u8 10] 5))
        | (at_builtin; refine wpList_append_at _ rfl (.tmp 17) (.tmp 18) rfl w1.heap.size v5 _ [10] 1 rfl rfl ho5' ⟨w5.heap.size, 0, none⟩ 1 rfl hrow5 (by rw [List.length_append, hl2]; simp; omega) (by simp at hs5 ⊢; omega) ?_; intro v6 w6 ho6 hg6))
      have hw6 := hw5'.grown hg6 (by simp at hs5 ⊢; omega) (fun g h => by have := (hlt5 g h).1; omega)
      go_ret
      refine ⟨_, rfl, ?_, hw6⟩
      rw [hE.out, hbr]
      exact ho6.mono (by omega)
    · simp only [Bool.not_eq_true] at hbr
      rw [hbr]
      go_wp2_with (at_builtin; refine wpList_append_at _ rfl (.tmp 17) (.tmp 18) rfl w1.heap.size v2 _ [10] 1 rfl rfl ho3 ⟨w3.heap.size, 0, none⟩ 1 rfl hrow3 (by rw [hl2]; simp; omega) (by simp; omega) ?_; intro v6 w6 ho6 hg6)
      have hw6 := hw3.grown hg6 (by simp; omega) (fun g h => by have := (hlt2 g h).1; omega)
      go_ret
      refine ⟨_, rfl, ?_, hw6⟩
      rw [hE.out, hbr]
      simp only [Bool.false_eq_true, if_false, List.append_nil]
      exact ho6.mono (by omega)
  · have hz : d = [] := List.eq_nil_of_length_eq_zero (by omega)
    subst hz
    rw [quote_nil] at hE ⊢
    have hbr : bareB [] = false := rfl
    rw [hbr] at hE
    simp only [List.length_nil]
    have hB := hide (implBare_any b off cap [] w1 (by simp) (fun i h => by simp at h))
    simp only [List.length_nil] at hB
    clear ho1
    go_wp2_with (at_builtin; refine wpList_append_none _ rfl (.tmp 8) (.tmp 10) rfl ⟨w.heap.size, 0, none⟩ a1 10 c1 rfl rfl ?_)
    refine (hB.out).mono ?_
    rintro e w3 ⟨rfl, rfl⟩
    rw [hbr]
    have hrow3 := row_one w3 10
    have hal := (Below.refl w3.heap.size w3).alloc (Nat.le_refl _) (.cells #[.int .u8 10] 5)
    have hrow4 := hrow1.below hal
    have hw3 := hw1.alloc (by omega) (.cells #[.int .u8 10] 5)
    go_wp2_with (at_builtin; refine wpList_append_full _ rfl (.tmp 17) (.tmp 18) rfl ⟨w.heap.size, 0, none⟩ ⟨w3.heap.size, 0, none⟩ headW [10] 10 1 1 rfl rfl rfl rfl hrow4 hrow3 (by omega) (by omega) (by omega) ?_; intro v2 w2 ho2 hb2)
    go_ret
    refine ⟨_, rfl, ?_, hw3.trans (hb2.mono (by simp; omega))⟩
    rw [hE.out]
    exact ho2.mono (by simp; omega)
end Go.Proofs.Ytokcdpamcbpaiab
