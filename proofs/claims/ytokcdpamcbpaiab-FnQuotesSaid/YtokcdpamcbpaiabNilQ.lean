import Derived.Test.YtokcdpamcbpaiabImplEntry
import Derived.Test.YtokcdpamcbpaiabImplUnquote
namespace Go.Proofs.Ytokcdpamcbpaiab
open Go.RowKit
theorem row_nil (w : World) : RowAt w none [] := fun h => by simp at h
theorem froms_nil : fromsOf [] = [] := rfl
theorem fromLines_nil (w : World) : Calls Try.prog 26 #[.slice none 0 0] w fun e w' => ∃ a c, e = .returned (.slice a 0 c) ∧ Below w.heap.size w w' := by
  have h := fromLines_any none 0 [] w (by simp) (by simp) (by omega) (row_nil w) (fun x hx => by cases hx)
  refine h.mono ?_
  rintro e w' ⟨v, rfl, ho, hb⟩
  obtain ⟨a, c, rfl⟩ := ho.slice
  exact ⟨a, c, rfl, hb⟩
theorem implQuote_nil (w : World) : Calls Try.prog 15 #[.slice none 0 0] w fun e w' => e = .returned (.slice none 0 0) ∧ Below w.heap.size w w' := by
  go_enter Try.func15, Try.ntmps15
  go_wp2_with fail
  refine (fromLines_nil w).mono ?_
  rintro e w1 ⟨a1, c1, rfl, hb1⟩
  go_wp2
  go_loopw [3, 4, 6, 10] (fun v t _ i wr => v = .slice none 0 0 ∧ i = .int .i64 0 ∧ t = .int .i64 0 ∧ wr = w1) (fun _ _ _ _ _ => 0)
  case atStart => exact ⟨rfl, rfl, rfl, rfl⟩
  case round =>
    obtain ⟨rfl, rfl, rfl, rfl⟩ := hrel
    go_wp2
    go_ret
    exact ⟨rfl, hb1⟩
theorem implUnquote_nil (w : World) : Calls Try.prog 9 #[.slice none 0 0] w fun e w' => e = .returned (.slice none 0 0) ∧ Below w.heap.size w w' := by
  go_enter Try.func9, Try.ntmps9
  go_wp2_with fail
  refine (fromLines_nil w).mono ?_
  rintro e w1 ⟨a1, c1, rfl, hb1⟩
  go_wp2
  go_loopw [3, 4, 6, 10] (fun v t _ i wr => v = .slice none 0 0 ∧ i = .int .i64 0 ∧ t = .int .i64 0 ∧ wr = w1) (fun _ _ _ _ _ => 0)
  case atStart => exact ⟨rfl, rfl, rfl, rfl⟩
  case round =>
    obtain ⟨rfl, rfl, rfl, rfl⟩ := hrel
    go_wp2
    go_ret
    exact ⟨rfl, hb1⟩
theorem implBare_nil (w : World) : Calls Try.prog 30 #[.slice none 0 0] w fun e w' => e = .returned (.bool false) ∧ w' = w := by
  go_enter Try.func30, Try.ntmps30
  go_wp2
  go_ret
  exact ⟨rfl, rfl⟩
set_option maxRecDepth 20000 in
theorem implEntry_nil (w : World) : Calls Try.prog 16 #[.slice none 0 0] w fun e w' => ∃ v, e = .returned v ∧ OwnB w' w.heap.size v (entryOf []) ∧ Below w.heap.size w w' := by
  have hE : Hid (entryOf [] = headW ++ [10]) := rfl
  have hkc := fun (w : World) (C : Array Value) (n c : Nat) => Lib.run_convert_bytes_const (P := Try.prog) w 22 5 C n c Try.underlying22 Try.underlying5
  go_enter Try.func16, Try.ntmps16
  go_wp2_with fail
  have hrow := headRow w
  have hbA := (Below.refl w.heap.size w).alloc (Nat.le_refl _) (.cells #[.int .u8 70, .int .u8 114, .int .u8 111, .int .u8 109, .int .u8 32, .int .u8 109, .int .u8 97, .int .u8 105, .int .u8 108, .int .u8 10] 5 (10, 11))
  have hzA : (w.alloc (.cells #[.int .u8 70, .int .u8 114, .int .u8 111, .int .u8 109, .int .u8 32, .int .u8 109, .int .u8 97, .int .u8 105, .int .u8 108, .int .u8 10] 5 (10, 11))).heap.size = w.heap.size + 1 := by simp
  generalize hgA : w.alloc (.cells #[.int .u8 70, .int .u8 114, .int .u8 111, .int .u8 109, .int .u8 32, .int .u8 109, .int .u8 97, .int .u8 105, .int .u8 108, .int .u8 10] 5 (10, 11)) = wA at hrow hbA hzA ⊢
  clear hgA hkc
  refine (implQuote_nil wA).mono ?_
  rintro e w1 ⟨rfl, hb1⟩
  have hrow1 := hrow.below (hb1.mono (Nat.le_refl _))
  have hw1 := hbA.trans (hb1.mono (by omega))
  have hz1 := hb1.size
  clear hrow hbA
  go_wp2_with (at_builtin; refine wpList_append_none _ rfl (.tmp 8) (.tmp 10) rfl ⟨w.heap.size, 0, none⟩ none 10 0 rfl rfl ?_)
  refine (implBare_nil w1).mono ?_
  rintro e w3 ⟨rfl, rfl⟩
  have hrow3 := row_one w3 10
  have hal := (Below.refl w3.heap.size w3).alloc (Nat.le_refl _) (.cells #[.int .u8 10] 5)
  have hrow4 := hrow1.below hal
  have hw3 := hw1.alloc (by omega) (.cells #[.int .u8 10] 5)
  go_wp2_with (at_builtin; refine wpList_append_full _ rfl (.tmp 17) (.tmp 18) rfl ⟨w.heap.size, 0, none⟩ ⟨w3.heap.size, 0, none⟩ headW [10] 10 1 1 rfl rfl rfl rfl hrow4 hrow3 (by omega) (by omega) (by omega) ?_; intro v2 w2 ho2 hb2)
  go_ret
  refine ⟨_, rfl, ?_, hw3.trans (hb2.mono (by simp; omega))⟩
  rw [hE.out]
  exact ho2.mono (by simp; omega)
/-- What the program does with a body of the call's own, nil or not. -/
theorem quote_own {w : World} {base : Nat} {v : Value} {l : List Nat} (ho : OwnB w base v l) (hl : l.length ≤ 1048576) (hb : ∀ x ∈ l, x < 256) : Calls Try.prog 15 #[v] w fun e w' => ∃ v', e = .returned v' ∧ OwnB w' w.heap.size v' (quoteOf l) ∧ Below w.heap.size w w' := by
  rcases ho.2 with ⟨rfl, hn⟩ | ⟨g, cap, cur, rfl, _, hg, hc, hcm, _⟩
  · obtain rfl : l = [] := List.eq_nil_of_length_eq_zero hn
    refine (implQuote_nil w).mono ?_
    rintro e w' ⟨rfl, hb'⟩
    exact ⟨_, rfl, OwnB.nil _ _, hb'⟩
  · exact implQuote_any g 0 cap l w hl hc (by unfold maxLen at hcm; omega) (fun i hi => by rw [Nat.zero_add]; exact ho.cellAt i hi) (lt_of_block hg) hb
theorem unquote_own {w : World} {base : Nat} {v : Value} {l : List Nat} (ho : OwnB w base v l) (hl : l.length ≤ 1048576) (hb : ∀ x ∈ l, x < 256) : Calls Try.prog 9 #[v] w fun e w' => ∃ v', e = .returned v' ∧ OwnB w' w.heap.size v' (unquoteOf l) ∧ Below w.heap.size w w' := by
  rcases ho.2 with ⟨rfl, hn⟩ | ⟨g, cap, cur, rfl, _, hg, hc, hcm, _⟩
  · obtain rfl : l = [] := List.eq_nil_of_length_eq_zero hn
    refine (implUnquote_nil w).mono ?_
    rintro e w' ⟨rfl, hb'⟩
    exact ⟨_, rfl, OwnB.nil _ _, hb'⟩
  · exact implUnquote_any g 0 cap l w hl hc (by unfold maxLen at hcm; omega) (fun i hi => by rw [Nat.zero_add]; exact ho.cellAt i hi) (lt_of_block hg) hb
theorem entry_own {w : World} {base : Nat} {v : Value} {l : List Nat} (ho : OwnB w base v l) (hl : l.length ≤ 1048576) (hb : ∀ x ∈ l, x < 256) : Calls Try.prog 16 #[v] w fun e w' => ∃ v', e = .returned v' ∧ OwnB w' w.heap.size v' (entryOf l) ∧ Below w.heap.size w w' := by
  rcases ho.2 with ⟨rfl, hn⟩ | ⟨g, cap, cur, rfl, _, hg, hc, hcm, _⟩
  · obtain rfl : l = [] := List.eq_nil_of_length_eq_zero hn
    exact implEntry_nil w
  · exact implEntry_any g 0 cap l w hl hc (by unfold maxLen at hcm; omega) (fun i hi => by rw [Nat.zero_add]; exact ho.cellAt i hi) (lt_of_block hg) hb
end Go.Proofs.Ytokcdpamcbpaiab
