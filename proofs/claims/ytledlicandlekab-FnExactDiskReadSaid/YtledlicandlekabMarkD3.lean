import Derived.Test.YtledlicandlekabMarkD2
namespace Go.Proofs.Ytledlicandlekab
open Go.RowKit
set_option maxRecDepth 20000 in
set_option maxHeartbeats 1000000 in
theorem markO_raw (lo hi g n cap m k : Nat) (w : World) (hn : n ≤ 1048576) (hk : k ≤ 1125899906842624) (hr : Raw w g 74 m) (hm : n * 4 ≤ m) (h1 : lo ≤ g) (h2 : g < hi) :
    Calls Try.prog 38 #[.slice (some ⟨g, 0, none⟩) n cap, .int .i64 (k : Int)] w fun e w' => e = .returned (.int .i64 ((k + 4 * n : Nat) : Int)) ∧ (∀ g' t n', Raw w g' t n' → Raw w' g' t n') ∧ Out lo hi w w' := by
  go_enter Try.func38, Try.ntmps38
  go_wp2
  go_loopw [1, 5] (fun s i wr => ∃ j : Nat, j ≤ n ∧ i = .int .i64 j ∧ s = .int .i64 ((k + 4 * j : Nat) : Int) ∧ (∀ g' t n', Raw w g' t n' → Raw wr g' t n') ∧ Out lo hi w wr) (fun _ i _ => n - (intOf i).toNat)
  case atStart => exact ⟨0, Nat.zero_le _, rfl, rfl, fun _ _ _ h => h, Out.refl _ _ _⟩
  case round =>
    obtain ⟨j, hj, rfl, rfl, hrk, ho⟩ := hrel
    by_cases hlt : j < n
    · obtain ⟨s', hs'⟩ : ∃ s', s' = k + 4 * j := ⟨_, rfl⟩
      rw [← hs']
      have hb' : s' ≤ 4503599627370000 := by omega
      have HJ := hide hs'
      have hraw := hrk g _ m hr
      obtain ⟨z0, hz0⟩ := hraw.cell (j * 4) (by omega)
      have hf0 := hraw.frozen (j * 4)
      have HRK := hide (show ∀ u : Value, ∀ g' t' n', Raw w g' t' n' → Raw (wr.setCell ⟨g, j * 4, none⟩ u) g' t' n' from fun u _ _ _ h => (hrk _ _ _ h).set _ _ _)
      have HO := hide (show ∀ u : Value, Out lo hi w (wr.setCell ⟨g, j * 4, none⟩ u) from fun u => ho.set h1 h2)
      clear hrk ho hs' hraw
      go_wp2_with fail
      replace HRK := hide (HRK.out (.int .i64 (s' : Int)))
      replace HO := hide (HO.out (.int .i64 (s' : Int)))
      generalize wr.setCell ⟨g, j * 4, none⟩ (.int .i64 (s' : Int)) = w1 at HRK HO ⊢
      have e1 : ((s' : Int) + 1) = ((s' + 1 : Nat) : Int) := by omega
      rw [e1]
      clear e1
      obtain ⟨s1, hs1⟩ : ∃ s1, s1 = s' + 1 := ⟨_, rfl⟩
      rw [← hs1]
      have hb1 : s1 ≤ 4503599627370001 := by omega
      have HJ1 := hide hs1
      clear hs1
      refine (markText_any s1 w1 (by omega)).mono ?_
      rintro e w2 ⟨⟨t, rfl⟩, hb2⟩
      have hraw2 := ((HRK.out g _ m hr).of_eq (hb2.block g (HRK.out g _ m hr).lt))
      have HRK2 := hide (fun (u : Value) g' t' n' (h : Raw w g' t' n') => ((HRK.out g' t' n' h).of_eq (hb2.block g' (HRK.out g' t' n' h).lt)).set g (j * 4 + 1) u)
      have HO2 := hide (fun (u : Value) => (HO.out.andThen hb2 HO.out.size).set (j := j * 4 + 1) (u := u) h1 h2)
      obtain ⟨z1, hz1⟩ := hraw2.cell (j * 4 + 1) (by omega)
      have hf1 := hraw2.frozen (j * 4 + 1)
      clear hraw2 hb2 HRK HO hz0 hf0
      go_wp2_with fail
      replace HRK2 := hide (HRK2.out (.string t))
      replace HO2 := hide (HO2.out (.string t))
      generalize w2.setCell ⟨g, j * 4 + 1, none⟩ (.string t) = w3 at HRK2 HO2 ⊢
      have e2 : ((s1 : Int) + 1) = ((s1 + 1 : Nat) : Int) := by omega
      rw [e2]
      clear e2
      obtain ⟨s2, hs2⟩ : ∃ s2, s2 = s1 + 1 := ⟨_, rfl⟩
      rw [← hs2]
      have hb3 : s2 ≤ 4503599627370002 := by omega
      have HJ2 := hide hs2
      clear hs2 hz1 hf1
      refine (markText_any s2 w3 (by omega)).mono ?_
      rintro e w4 ⟨⟨t4, rfl⟩, hb4⟩
      have hraw4 := ((HRK2.out g _ m hr).of_eq (hb4.block g (HRK2.out g _ m hr).lt))
      have HX := hide (show ∀ u v : Value, (∀ g' t' n', Raw w g' t' n' → Raw ((w4.setCell ⟨g, j * 4 + 2, none⟩ u).setCell ⟨g, j * 4 + 3, none⟩ v) g' t' n') ∧ Out lo hi w ((w4.setCell ⟨g, j * 4 + 2, none⟩ u).setCell ⟨g, j * 4 + 3, none⟩ v) from fun u v =>
        ⟨fun g' t' n' h => (((HRK2.out g' t' n' h).of_eq (hb4.block g' (HRK2.out g' t' n' h).lt)).set _ _ _).set _ _ _, ((HO2.out.andThen hb4 HO2.out.size).set h1 h2).set h1 h2⟩)
      obtain ⟨z2, hz2⟩ := hraw4.cell (j * 4 + 2) (by omega)
      obtain ⟨z3, hz3⟩ := hraw4.cell (j * 4 + 3) (by omega)
      have hf2 := hraw4.frozen (j * 4 + 2)
      have hf3 := hraw4.frozen (j * 4 + 3)
      clear hraw4 hb4 HRK2 HO2
      go_wp2
      go_roundw
      case rel => exact ⟨j + 1, by omega, by go_num, by rw [show k + 4 * (j + 1) = s2 + 1 + 1 from by have := HJ.out; have := HJ1.out; have := HJ2.out; omega]; go_num, (HX.out _ _).1, (HX.out _ _).2⟩
      case measure => simp [intOf]; omega
    · obtain rfl : j = n := by omega
      have HO := hide ho
      have HRK := hide hrk
      clear ho hrk
      go_wp2
      go_ret
      exact ⟨rfl, HRK.out, HO.out⟩
theorem markN_nil (k : Nat) (w : World) : Calls Try.prog 36 #[.slice none 0 0, .int .i64 (k : Int)] w fun e w' => e = .returned (.int .i64 (k : Int)) ∧ w' = w := by
  go_enter Try.func36, Try.ntmps36
  go_wp2
  go_loopw [1, 5] (fun s i wr => i = .int .i64 0 ∧ s = .int .i64 (k : Int) ∧ wr = w) (fun _ _ _ => 0)
  case atStart => exact ⟨rfl, rfl, rfl⟩
  case round =>
    obtain ⟨rfl, rfl, rfl⟩ := hrel
    go_wp2
    go_ret
    exact ⟨rfl, rfl⟩
theorem markE_nil (k : Nat) (w : World) : Calls Try.prog 37 #[.slice none 0 0, .int .i64 (k : Int)] w fun e w' => e = .returned (.int .i64 (k : Int)) ∧ w' = w := by
  go_enter Try.func37, Try.ntmps37
  go_wp2
  go_loopw [1, 5] (fun s i wr => i = .int .i64 0 ∧ s = .int .i64 (k : Int) ∧ wr = w) (fun _ _ _ => 0)
  case atStart => exact ⟨rfl, rfl, rfl⟩
  case round =>
    obtain ⟨rfl, rfl, rfl⟩ := hrel
    go_wp2
    go_ret
    exact ⟨rfl, rfl⟩
theorem markO_nil (k : Nat) (w : World) : Calls Try.prog 38 #[.slice none 0 0, .int .i64 (k : Int)] w fun e w' => e = .returned (.int .i64 (k : Int)) ∧ w' = w := by
  go_enter Try.func38, Try.ntmps38
  go_wp2
  go_loopw [1, 5] (fun s i wr => i = .int .i64 0 ∧ s = .int .i64 (k : Int) ∧ wr = w) (fun _ _ _ => 0)
  case atStart => exact ⟨rfl, rfl, rfl⟩
  case round =>
    obtain ⟨rfl, rfl, rfl⟩ := hrel
    go_wp2
    go_ret
    exact ⟨rfl, rfl⟩
end Go.Proofs.Ytledlicandlekab
