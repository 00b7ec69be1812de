import Derived.Test.YtledlicandlekabMarkD
namespace Go.Proofs.Ytledlicandlekab
open Go.RowKit
theorem str_one (W : World) (z : Int) (x : Nat) (h : z = (x : Int)) : (convert 28 9 (.slice (some ⟨W.heap.size, 0, none⟩) 1 1)).run Try.prog (W.alloc (.cells #[.int .u8 z] 5)) = .ok (.string (strB [x])) (W.alloc (.cells #[.int .u8 z] 5)) := by
  subst h
  refine run_string_of _ _ 1 [x] fun _ => ⟨W.heap.size, 0, rfl, fun i hi => ?_⟩
  have hi0 : i = 0 := by simpa using hi
  subst hi0
  rw [cell_of_row _ _ _ _ _ _ (heap_alloc_new W _)]
  rfl
set_option maxRecDepth 20000 in
theorem markText_any (k : Nat) (w : World) (hk : k ≤ 4503599627370496) :
    Calls Try.prog 69 #[.int .i64 (k : Int)] w fun e w' => (∃ s, e = .returned (.string s)) ∧ Below w.heap.size w w' := by
  by_cases h0 : k = 0
  · subst h0
    go_enter Try.func69, Try.ntmps69
    go_wp2
    go_ret
    exact ⟨⟨_, rfl⟩, Below.refl _ _⟩
  · have hpos : ¬ (k : Int) ≤ 0 := by omega
    go_enter Try.func69, Try.ntmps69
    go_wp2
    go_loopw [0, 3] (fun kv ov wr => ∃ (j : Nat) (s : ByteArray), kv = .int .i64 (j : Int) ∧ ov = .string s ∧ s.size + j ≤ k ∧ Below w.heap.size w wr) (fun kv _ _ => (intOf kv).toNat)
    case atStart => exact ⟨k, _, rfl, rfl, by simp [ByteArray.size], Below.refl _ _⟩
    case round =>
      obtain ⟨j, s, rfl, rfl, hs, hb⟩ := hrel
      by_cases hj : 0 < j
      · have hji : (0 : Int) < (j : Int) := by omega
        have hs1 := str_one wr ((48 : Int) + (j : Int) % 10) (48 + j % 10) (by omega)
        have htz : (strB [48 + j % 10]).size = 1 := by simp [strB, ByteArray.size]
        generalize strB [48 + j % 10] = t at hs1 htz
        have HB := hide (hb.alloc hb.size (.cells #[.int .u8 ((48 : Int) + (j : Int) % 10)] 5))
        clear hb
        have HZ := hide (show (t ++ s).size + j / 10 ≤ k by rw [ByteArray.size_append]; omega)
        go_wp2
        go_roundw
        case rel => exact ⟨j / 10, t ++ s, by go_num, rfl, HZ.out, HB.out⟩
        case measure => simp [intOf]; omega
      · obtain rfl : j = 0 := by omega
        go_wp2
        go_ret
        exact ⟨⟨_, rfl⟩, hb⟩
set_option maxRecDepth 20000 in
set_option maxHeartbeats 1000000 in
theorem markE_raw (lo hi g n cap m k : Nat) (w : World) (hn : n ≤ 1048576) (hk : k ≤ 1125899906842624) (hr : Raw w g 58 m) (hm : n * 2 ≤ m) (h1 : lo ≤ g) (h2 : g < hi) :
    Calls Try.prog 37 #[.slice (some ⟨g, 0, none⟩) n cap, .int .i64 (k : Int)] w fun e w' => e = .returned (.int .i64 ((k + 2 * n : Nat) : Int)) ∧ (∀ g' t n', Raw w g' t n' → Raw w' g' t n') ∧ Out lo hi w w' := by
  go_enter Try.func37, Try.ntmps37
  go_wp2
  go_loopw [1, 5] (fun s i wr => ∃ j : Nat, j ≤ n ∧ i = .int .i64 j ∧ s = .int .i64 ((k + 2 * j : Nat) : Int) ∧ (∀ g' t n', Raw w g' t n' → Raw wr g' t n') ∧ Out lo hi w wr) (fun _ i _ => n - (intOf i).toNat)
  case atStart => exact ⟨0, Nat.zero_le _, rfl, rfl, fun _ _ _ h => h, Out.refl _ _ _⟩
  case round =>
    obtain ⟨j, hj, rfl, rfl, hrk, ho⟩ := hrel
    by_cases hlt : j < n
    · obtain ⟨s', hs'⟩ : ∃ s', s' = k + 2 * j := ⟨_, rfl⟩
      rw [← hs']
      have hb' : s' ≤ 4503599627370000 := by omega
      have HRK := hide hrk
      have HO := hide ho
      have HJ := hide hs'
      clear hrk ho hs'
      go_wp2_with fail
      refine (markText_any s' wr (by omega)).mono ?_
      rintro e w2 ⟨⟨t, rfl⟩, hb2⟩
      have hraw2 := ((HRK.out g _ m hr).of_eq (hb2.block g (HRK.out g _ m hr).lt))
      have HRK2 := hide (fun g' t' n' (h : Raw w g' t' n') => ((HRK.out g' t' n' h).of_eq (hb2.block g' (HRK.out g' t' n' h).lt)))
      have HO2 := hide (HO.out.andThen hb2 HO.out.size)
      obtain ⟨z0, hz0⟩ := hraw2.cell (j * 2) (by omega)
      obtain ⟨z1, hz1⟩ := hraw2.cell (j * 2 + 1) (by omega)
      have hf0 := hraw2.frozen (j * 2)
      have hf1 := hraw2.frozen (j * 2 + 1)
      have HX := hide (show ∀ u v : Value, (∀ g' t' n', Raw w g' t' n' → Raw ((w2.setCell ⟨g, j * 2, none⟩ u).setCell ⟨g, j * 2 + 1, none⟩ v) g' t' n') ∧ Out lo hi w ((w2.setCell ⟨g, j * 2, none⟩ u).setCell ⟨g, j * 2 + 1, none⟩ v) from fun u v =>
        ⟨fun _ _ _ h => ((HRK2.out _ _ _ h).set _ _ _).set _ _ _, (HO2.out.set h1 h2).set h1 h2⟩)
      clear hraw2 hb2 HRK HO HRK2 HO2
      go_wp2
      go_roundw
      case rel => exact ⟨j + 1, by omega, by go_num, by rw [show k + 2 * (j + 1) = s' + 1 + 1 from by have := HJ.out; omega]; go_num, (HX.out _ _).1, (HX.out _ _).2⟩
      case measure => simp [intOf]; omega
    · obtain rfl : j = n := by omega
      have HO := hide ho
      have HRK := hide hrk
      clear ho hrk
      go_wp2
      go_ret
      exact ⟨rfl, HRK.out, HO.out⟩
end Go.Proofs.Ytledlicandlekab
