import Derived.Test.YtledlicandlekaaDoorPka
import Derived.Test.YtledlicandlekaaDoorPkb
import Derived.Test.YtledlicandlekaaDoorShelf
import Derived.Test.YtledlicandlekaaDoorPkc
import Derived.Test.YtledlicandlekaaDoorShelfB
import Derived.Test.YtledlicandlekaaDoorPkd
import Derived.Test.YtledlicandlekaaDoorPke
import Derived.Test.YtledlicandlekaaDoorPkf
import Derived.Test.YtledlicandlekaaDoorPkg
import Derived.Test.YtledlicandlekaaDoorPkh
import Derived.Lib.ItoaLen
import Derived.Laws.BytesArg
import Derived.Deep.RegionLaw
namespace Go.Proofs.YtledlicandlekaaDoor
open Go.RowKit
theorem numTab (W : World) (m : Nat) (hm : m < 6) : ∃ s : ByteArray, (W.alloc (.cells #[.string ⟨#[48]⟩, .string ⟨#[48, 49]⟩, .string ⟨#[52, 50, 57, 52, 57, 54, 55, 50, 57, 53]⟩, .string ⟨#[52, 50, 57, 52, 57, 54, 55, 50, 57, 54]⟩, .string ⟨#[]⟩, .string ⟨#[120]⟩] 9)).cell? ⟨W.heap.size, m, none⟩ = some (.string s) ∧ s.size ≤ 10 := by
  have h := heap_alloc_new W (.cells #[.string ⟨#[48]⟩, .string ⟨#[48, 49]⟩, .string ⟨#[52, 50, 57, 52, 57, 54, 55, 50, 57, 53]⟩, .string ⟨#[52, 50, 57, 52, 57, 54, 55, 50, 57, 54]⟩, .string ⟨#[]⟩, .string ⟨#[120]⟩] 9)
  rw [cell_of_row _ _ _ _ _ _ h]
  match m, hm with
  | 0, _ => exact ⟨_, rfl, by decide⟩
  | 1, _ => exact ⟨_, rfl, by decide⟩
  | 2, _ => exact ⟨_, rfl, by decide⟩
  | 3, _ => exact ⟨_, rfl, by decide⟩
  | 4, _ => exact ⟨_, rfl, by decide⟩
  | 5, _ => exact ⟨_, rfl, by decide⟩
theorem popTab (W : World) (m : Nat) (hm : m < 12) : ∃ s : ByteArray, (W.alloc (.cells #[.string ⟨#[78, 79, 79, 80]⟩, .string ⟨#[81, 85, 73, 84]⟩, .string ⟨#[83, 84, 65, 84]⟩, .string ⟨#[76, 73, 83, 84]⟩, .string ⟨#[85, 73, 68, 76]⟩, .string ⟨#[82, 69, 84, 82]⟩, .string ⟨#[68, 69, 76, 69]⟩, .string ⟨#[82, 83, 69, 84]⟩, .string ⟨#[82, 69, 84, 82]⟩, .string ⟨#[68, 69, 76, 69]⟩, .string ⟨#[76, 73, 83, 84]⟩, .string ⟨#[72, 69, 76, 79]⟩] 9)).cell? ⟨W.heap.size, m, none⟩ = some (.string s) ∧ s.size ≤ 4 := by
  have h := heap_alloc_new W (.cells #[.string ⟨#[78, 79, 79, 80]⟩, .string ⟨#[81, 85, 73, 84]⟩, .string ⟨#[83, 84, 65, 84]⟩, .string ⟨#[76, 73, 83, 84]⟩, .string ⟨#[85, 73, 68, 76]⟩, .string ⟨#[82, 69, 84, 82]⟩, .string ⟨#[68, 69, 76, 69]⟩, .string ⟨#[82, 83, 69, 84]⟩, .string ⟨#[82, 69, 84, 82]⟩, .string ⟨#[68, 69, 76, 69]⟩, .string ⟨#[76, 73, 83, 84]⟩, .string ⟨#[72, 69, 76, 79]⟩] 9)
  rw [cell_of_row _ _ _ _ _ _ h]
  match m, hm with
  | 0, _ => exact ⟨_, rfl, by decide⟩
  | 1, _ => exact ⟨_, rfl, by decide⟩
  | 2, _ => exact ⟨_, rfl, by decide⟩
  | 3, _ => exact ⟨_, rfl, by decide⟩
  | 4, _ => exact ⟨_, rfl, by decide⟩
  | 5, _ => exact ⟨_, rfl, by decide⟩
  | 6, _ => exact ⟨_, rfl, by decide⟩
  | 7, _ => exact ⟨_, rfl, by decide⟩
  | 8, _ => exact ⟨_, rfl, by decide⟩
  | 9, _ => exact ⟨_, rfl, by decide⟩
  | 10, _ => exact ⟨_, rfl, by decide⟩
  | 11, _ => exact ⟨_, rfl, by decide⟩
theorem decS_le (n : Nat) (h : n < 18446744073709551616) : (decS n).size ≤ 20 := by
  unfold decS
  show ((Lib.decDigits n).toArray).size ≤ 20
  rw [List.size_toArray, Lib.decDigits_length]
  exact Lib.nDigits_le20 n h
set_option maxRecDepth 20000 in
set_option maxHeartbeats 1000000 in
theorem l6Num_in {wk w0 w : World} {p : Nat} {a : Option Addr} {cap : Nat} {code : List Nat} {i : Nat} (hc : CodeIn w0 a code) (h : RdIn wk w0 w p a cap code i) :
    Calls Tryd.prog 70 #[.pointer (some ⟨p, 0, none⟩)] w (DStr wk w0 p a cap code 20) := by
  have hx := nx_lt hc.byte i
  have NX := hide (next_in hc h)
  clear hc h
  go_enter Tryd.func70, Tryd.ntmps70
  go_wp2_with fail
  refine NX.out.mono ?_
  rintro e w1 ⟨rfl, hrd1⟩
  have H1 := hide hrd1
  clear hrd1 NX
  generalize nx code i = c at hx ⊢
  by_cases h0 : c % 10 = 0
  · have hk : (c : Int) % 10 = 0 := by omega
    go_wp2
    go_ret
    exact dstr_mk H1.out _ (by decide)
  by_cases h1 : c % 10 = 1
  · have hk : (c : Int) % 10 = 1 := by omega
    obtain ⟨s, hs, hz⟩ := numTab w1 (c / 10 % 6) (by omega)
    have hm : (c : Int) / 10 % 6 = ((c / 10 % 6 : Nat) : Int) := by omega
    have hlt : c / 10 % 6 < 6 := by omega
    generalize c / 10 % 6 = m at hs hm hlt
    have H2 := hide (H1.out.below ((Below.refl w1.heap.size w1).alloc (Nat.le_refl _) (.cells #[.string ⟨#[48]⟩, .string ⟨#[48, 49]⟩, .string ⟨#[52, 50, 57, 52, 57, 54, 55, 50, 57, 53]⟩, .string ⟨#[52, 50, 57, 52, 57, 54, 55, 50, 57, 54]⟩, .string ⟨#[]⟩, .string ⟨#[120]⟩] 9)))
    have HZ := hide hz
    clear hz
    go_wp2
    go_ret
    exact dstr_mk H2.out _ (Nat.le_trans HZ.out (by decide))
  · have hk0 : ¬ (c : Int) % 10 = 0 := by omega
    have hk1 : ¬ (c : Int) % 10 = 1 := by omega
    have DC := hide (l1Dec_any (c % 9 + 1) w1 (by omega))
    rw [show ((c % 9 + 1 : Nat) : Int) = (c : Int) % 9 + 1 from by omega] at DC
    have HD := hide (decS_le (c % 9 + 1) (by omega))
    generalize decS (c % 9 + 1) = t at DC HD
    go_wp2_with fail
    refine DC.out.mono ?_
    rintro e w2 ⟨rfl, hb2⟩
    have H2 := hide (H1.out.below hb2)
    clear hb2
    go_wp2
    go_ret
    exact dstr_mk H2.out _ (by have := HD.out; omega)
set_option maxRecDepth 20000 in
set_option maxHeartbeats 1000000 in
theorem l6PopLine_in {wk w0 w : World} {p : Nat} {a : Option Addr} {cap : Nat} {code : List Nat} {i : Nat} (hc : CodeIn w0 a code) (h : RdIn wk w0 w p a cap code i) :
    Calls Tryd.prog 39 #[.pointer (some ⟨p, 0, none⟩)] w (DStr wk w0 p a cap code 30) := by
  have hx := nx_lt hc.byte i
  have NX := hide (next_in hc h)
  have HC := hide hc
  clear hc h
  go_enter Tryd.func39, Tryd.ntmps39
  go_wp2_with fail
  refine NX.out.mono ?_
  rintro e w1 ⟨rfl, hrd1⟩
  generalize nx code i = c at hx ⊢
  obtain ⟨s, hs, hz⟩ := popTab w1 (c % 12) (by omega)
  have hm : (c : Int) % 12 = ((c % 12 : Nat) : Int) := by omega
  have hlt : c % 12 < 12 := by omega
  generalize c % 12 = m at hs hm hlt
  have WD := hide (l6Word_in s (by omega) HC.out (hrd1.below ((Below.refl w1.heap.size w1).alloc (Nat.le_refl _) (.cells #[.string ⟨#[78, 79, 79, 80]⟩, .string ⟨#[81, 85, 73, 84]⟩, .string ⟨#[83, 84, 65, 84]⟩, .string ⟨#[76, 73, 83, 84]⟩, .string ⟨#[85, 73, 68, 76]⟩, .string ⟨#[82, 69, 84, 82]⟩, .string ⟨#[68, 69, 76, 69]⟩, .string ⟨#[82, 83, 69, 84]⟩, .string ⟨#[82, 69, 84, 82]⟩, .string ⟨#[68, 69, 76, 69]⟩, .string ⟨#[76, 73, 83, 84]⟩, .string ⟨#[72, 69, 76, 79]⟩] 9))))
  clear hrd1 NX
  go_wp2_with fail
  refine WD.out.mono ?_
  rintro e w2 ⟨t, j2, rfl, ht, hrd2⟩
  have H2 := hide hrd2
  have hts : t.size ≤ 4 := by omega
  clear WD hrd2 hs hz ht
  have e32 : (⟨#[32]⟩ : ByteArray).size = 1 := rfl
  by_cases hA : (4 : Int) < (m : Int)
  · by_cases hB : m = 7
    · have hb7 : ((m : Int) != 7) = false := by simp; omega
      have hB' := hide hB
      clear hB
      by_cases hC : (128 : Int) ≤ (c : Int)
      · skip
        have NX2 := hide (next_in HC.out H2.out)
        have hx2 := nx_lt HC.out.byte j2
        go_wp2_with fail
        refine NX2.out.mono ?_
        rintro e w3 ⟨rfl, hrd3⟩
        have H3 := hide hrd3
        clear hrd3 NX2
        generalize nx code j2 = d at hx2 ⊢
        have DC := hide (l1Dec_any (d % 7) w3 (by omega))
        rw [show ((d % 7 : Nat) : Int) = (d : Int) % 7 from by omega] at DC
        have HD := hide (decS_le (d % 7) (by omega))
        generalize decS (d % 7) = u at DC HD
        go_wp2_with fail
        refine DC.out.mono ?_
        rintro e w4 ⟨rfl, hb4⟩
        have H4 := hide (H3.out.below hb4)
        clear hb4 DC
        have hu := HD.out
        by_cases h5 : (c : Int) = 255
        · first | (exfalso; omega) | (go_wp2; go_ret; exact dstr_mk H4.out _ (by simp only [app_size, e32]; omega))
        · go_wp2
          go_ret
          exact dstr_mk H4.out _ (by simp only [app_size, e32]; omega)
      · skip
        by_cases h5 : (c : Int) = 255
        · first | (exfalso; omega) | (go_wp2; go_ret; exact dstr_mk H2.out _ (by simp only [app_size, e32]; omega))
        · go_wp2
          go_ret
          exact dstr_mk H2.out _ (by omega)
    · have hb7 : ((m : Int) != 7) = true := by simp; omega
      have NX2 := hide (next_in HC.out H2.out)
      have hx2 := nx_lt HC.out.byte j2
      go_wp2_with fail
      refine NX2.out.mono ?_
      rintro e w3 ⟨rfl, hrd3⟩
      have H3 := hide hrd3
      clear hrd3 NX2
      generalize nx code j2 = d at hx2 ⊢
      have DC := hide (l1Dec_any (d % 7) w3 (by omega))
      rw [show ((d % 7 : Nat) : Int) = (d : Int) % 7 from by omega] at DC
      have HD := hide (decS_le (d % 7) (by omega))
      generalize decS (d % 7) = u at DC HD
      go_wp2_with fail
      refine DC.out.mono ?_
      rintro e w4 ⟨rfl, hb4⟩
      have H4 := hide (H3.out.below hb4)
      clear hb4 DC
      have hu := HD.out
      by_cases h5 : (c : Int) = 255
      · first | (exfalso; omega) | (go_wp2; go_ret; exact dstr_mk H4.out _ (by simp only [app_size, e32]; omega))
      · go_wp2
        go_ret
        exact dstr_mk H4.out _ (by simp only [app_size, e32]; omega)
  · by_cases hC : (128 : Int) ≤ (c : Int)
    · skip
      have NX2 := hide (next_in HC.out H2.out)
      have hx2 := nx_lt HC.out.byte j2
      go_wp2_with fail
      refine NX2.out.mono ?_
      rintro e w3 ⟨rfl, hrd3⟩
      have H3 := hide hrd3
      clear hrd3 NX2
      generalize nx code j2 = d at hx2 ⊢
      have DC := hide (l1Dec_any (d % 7) w3 (by omega))
      rw [show ((d % 7 : Nat) : Int) = (d : Int) % 7 from by omega] at DC
      have HD := hide (decS_le (d % 7) (by omega))
      generalize decS (d % 7) = u at DC HD
      go_wp2_with fail
      refine DC.out.mono ?_
      rintro e w4 ⟨rfl, hb4⟩
      have H4 := hide (H3.out.below hb4)
      clear hb4 DC
      have hu := HD.out
      by_cases h5 : (c : Int) = 255
      · first | (exfalso; omega) | (go_wp2; go_ret; exact dstr_mk H4.out _ (by simp only [app_size, e32]; omega))
      · go_wp2
        go_ret
        exact dstr_mk H4.out _ (by simp only [app_size, e32]; omega)
    · skip
      by_cases h5 : (c : Int) = 255
      · first | (exfalso; omega) | (go_wp2; go_ret; exact dstr_mk H2.out _ (by simp only [app_size, e32]; omega))
      · go_wp2
        go_ret
        exact dstr_mk H2.out _ (by omega)
end Go.Proofs.YtledlicandlekaaDoor
namespace Go.Proofs.YtledlicandlekaaDoor
open Go.RowKit
theorem l4Has_b (f k : Nat) (w : World) (hk : k < 31) :
    Calls Tryd.prog 87 #[.int .u32 (f : Int), .int .i64 (k : Int)] w fun e w' => (∃ b : Bool, e = .returned (.bool b)) ∧ w' = w := by
  go_enter Tryd.func87, Tryd.ntmps87
  go_wp2
  go_ret
  exact ⟨⟨_, rfl⟩, rfl⟩
theorem str_one1 (W : World) (z : Int) (x : Nat) (h : z = (x : Int)) : (convert 22 9 (.slice (some ⟨W.heap.size, 0, none⟩) 1 1)).run Tryd.prog (W.alloc (.cells #[.int .u8 z] 5)) = .ok (.string (strB [x])) (W.alloc (.cells #[.int .u8 z] 5)) := by
  subst h
  refine run_string_of _ _ 1 [x] fun _ => ⟨W.heap.size, 0, rfl, fun i hi => ?_⟩
  have hi0 : i = 0 := by simpa using hi
  subst hi0
  rw [cell_of_row _ _ _ _ _ _ (heap_alloc_new W _)]
  rfl
set_option maxRecDepth 20000 in
theorem flagName_b (k : Nat) (w : World) (hk : k < 31) :
    Calls Tryd.prog 88 #[.int .i64 (k : Int)] w fun e w' => (∃ s : ByteArray, e = .returned (.string s) ∧ s.size ≤ 9) ∧ Below w.heap.size w w' := by
  by_cases h5 : k < 5
  · match k, h5 with
    | 0, _ => go_enter Tryd.func88, Tryd.ntmps88; go_wp2; go_ret; exact ⟨⟨_, rfl, by decide⟩, Below.refl _ _⟩
    | 1, _ => go_enter Tryd.func88, Tryd.ntmps88; go_wp2; go_ret; exact ⟨⟨_, rfl, by decide⟩, Below.refl _ _⟩
    | 2, _ => go_enter Tryd.func88, Tryd.ntmps88; go_wp2; go_ret; exact ⟨⟨_, rfl, by decide⟩, Below.refl _ _⟩
    | 3, _ => go_enter Tryd.func88, Tryd.ntmps88; go_wp2; go_ret; exact ⟨⟨_, rfl, by decide⟩, Below.refl _ _⟩
    | 4, _ => go_enter Tryd.func88, Tryd.ntmps88; go_wp2; go_ret; exact ⟨⟨_, rfl, by decide⟩, Below.refl _ _⟩
  · have n0 : ¬ (k : Int) = 0 := by omega
    have n1 : ¬ (k : Int) = 1 := by omega
    have n2 : ¬ (k : Int) = 2 := by omega
    have n3 : ¬ (k : Int) = 3 := by omega
    have n4 : ¬ (k : Int) = 4 := by omega
    have hs1 := str_one1 w ((97 : Int) + (k : Int) - 5) (97 + k - 5) (by omega)
    have hz : (strB [97 + k - 5]).size = 1 := by simp [strB, ByteArray.size]
    have HB := hide ((Below.refl w.heap.size w).alloc (Nat.le_refl _) (.cells #[.int .u8 ((97 : Int) + (k : Int) - 5)] 5))
    generalize strB [97 + k - 5] = t at hs1 hz
    have HZ := hide hz
    clear hz
    go_enter Tryd.func88, Tryd.ntmps88
    go_wp2
    go_ret
    exact ⟨⟨_, rfl, by have := HZ.out; omega⟩, HB.out⟩
set_option maxRecDepth 20000 in
set_option maxHeartbeats 1000000 in
theorem flagList_b (f : Nat) (w : World) :
    Calls Tryd.prog 71 #[.int .u32 (f : Int)] w fun e w' => (∃ s : ByteArray, e = .returned (.string s) ∧ 2 ≤ s.size ∧ s.size ≤ 400) ∧ Below w.heap.size w w' := by
  go_enter Tryd.func71, Tryd.ntmps71
  go_wp2
  go_loopw [3, 4] (fun s i wr => ∃ (k : Nat) (S : ByteArray), k ≤ 31 ∧ i = .int .i64 (k : Int) ∧ s = .string S ∧ S.size ≤ 10 * k ∧ Below w.heap.size w wr) (fun _ i _ => 31 - (intOf i).toNat)
  case atStart => exact ⟨0, _, Nat.zero_le _, rfl, rfl, by decide, Below.refl _ _⟩
  case round =>
    obtain ⟨k, S, hk, rfl, rfl, hS, hb⟩ := hrel
    have e32 : (⟨#[32]⟩ : ByteArray).size = 1 := rfl
    have HB := hide hb
    clear hb
    by_cases hlt : k < 31
    · have hki : (k : Int) < 31 := by omega
      go_wp2_with fail
      refine (l4Has_b f k wr hlt).mono ?_
      rintro e w2 ⟨⟨bb, rfl⟩, rfl⟩
      cases bb with
      | false =>
        go_wp2
        go_roundw
        case rel => exact ⟨k + 1, S, by omega, by go_num, rfl, by omega, HB.out⟩
        case measure => simp [intOf]; omega
      | true =>
        by_cases h0 : S.toList.isEmpty = true
        · go_wp2_with fail
          refine (flagName_b k w2 hlt).mono ?_
          rintro e w3 ⟨⟨t, rfl, ht⟩, hb3⟩
          have HB3 := hide (HB.out.trans (hb3.mono HB.out.size))
          clear hb3
          go_wp2
          go_roundw
          case rel => exact ⟨k + 1, S ++ t, by omega, by go_num, rfl, by rw [app_size]; omega, HB3.out⟩
          case measure => simp [intOf]; omega
        · have h0' : S.toList.isEmpty = false := by simpa using h0
          have hz3 : (S ++ ⟨#[32]⟩ : ByteArray).size ≤ 1000 := by rw [app_size]; omega
          clear h0
          go_wp2_with fail
          refine (flagName_b k w2 hlt).mono ?_
          rintro e w3 ⟨⟨t, rfl, ht⟩, hb3⟩
          have HB3 := hide (HB.out.trans (hb3.mono HB.out.size))
          clear hb3
          go_wp2
          go_roundw
          case rel => exact ⟨k + 1, S ++ ⟨#[32]⟩ ++ t, by omega, by go_num, rfl, by rw [app_size, app_size]; omega, HB3.out⟩
          case measure => simp [intOf]; omega
    · have hki : ¬ (k : Int) < 31 := by omega
      have e40 : (⟨#[40]⟩ : ByteArray).size = 1 := rfl
      have e41 : (⟨#[41]⟩ : ByteArray).size = 1 := rfl
      go_wp2
      go_ret
      exact ⟨⟨_, rfl, by simp only [app_size, e40, e41]; omega, by simp only [app_size, e40, e41]; omega⟩, HB.out⟩
end Go.Proofs.YtledlicandlekaaDoor
namespace Go.Proofs.YtledlicandlekaaDoor
open Go.RowKit
set_option maxRecDepth 200000 in
set_option maxHeartbeats 1000000 in
theorem l6Flags_in {wk w0 w : World} {p : Nat} {a : Option Addr} {cap : Nat} {code : List Nat} {i : Nat} (hc : CodeIn w0 a code) (h : RdIn wk w0 w p a cap code i) :
    Calls Tryd.prog 57 #[.pointer (some ⟨p, 0, none⟩)] w (DStr wk w0 p a cap code 400) := by
  have F0 := hide (l4Flags_in hc h)
  have HC := hide hc
  clear hc h
  go_enter Tryd.func57, Tryd.ntmps57
  go_wp2_with fail
  refine F0.out.mono ?_
  rintro e w1 ⟨f, j1, rfl, hf0, hf1, h1⟩
  obtain ⟨f, rfl⟩ := Int.eq_ofNat_of_zero_le hf0
  have H1 := hide h1
  clear h1 F0
  go_wp2_with fail
  refine (flagList_b f w1).mono ?_
  rintro e w2 ⟨⟨s, rfl, hs1, hs2⟩, hb2⟩
  have H2 := hide (H1.out.below hb2)
  have NX := hide (next_in HC.out H2.out)
  clear hb2 H1 H2
  go_wp2_with fail
  refine NX.out.mono ?_
  rintro e w3 ⟨rfl, hrd3⟩
  have H3 := hide hrd3
  clear hrd3 NX
  generalize nx code j1 = c
  have hmm : (c : Int) % 12 = ((c % 12 : Nat) : Int) := by omega
  generalize c % 12 = m at hmm
  by_cases h0 : (m : Int) = 0
  · have LW := hide (lower_str s w3 (by omega))
    go_wp2_with fail
    refine LW.out.mono ?_
    rintro e w4 ⟨t, rfl, ht, hb4⟩
    have H4 := hide (H3.out.below hb4)
    have HT := hide ht
    clear hb4 ht
    go_wp2
    go_ret
    exact dstr_mk H4.out _ (by have := HT.out; omega)
  by_cases h1 : (m : Int) = 1
  · have h1s : (1 : Int) ≤ (s.size : Int) := by omega
    go_wp2
    go_ret
    exact dstr_mk H3.out _ (by rw [ByteArray.size_extract]; omega)
  by_cases h2 : (m : Int) = 2
  · go_wp2
    go_ret
    exact dstr_mk H3.out _ (by decide)
  by_cases h3 : (m : Int) = 3
  · go_wp2
    go_ret
    exact dstr_mk H3.out _ (by decide)
  · have HS2 := hide hs2
    have k0 : ((m : Int) == 0) = false := by simp; omega
    have k1 : ((m : Int) == 1) = false := by simp; omega
    have k2 : ((m : Int) == 2) = false := by simp; omega
    have k3 : ((m : Int) == 3) = false := by simp; omega
    clear hs1 hs2 h0 h1 h2 h3
    go_wp2
    go_ret
    exact dstr_mk H3.out _ HS2.out
set_option maxRecDepth 20000 in
set_option maxHeartbeats 1000000 in
theorem l6SetText_in {wk w0 w : World} {p : Nat} {a : Option Addr} {cap : Nat} {code : List Nat} {i : Nat} (hc : CodeIn w0 a code) (h : RdIn wk w0 w p a cap code i) :
    Calls Tryd.prog 55 #[.pointer (some ⟨p, 0, none⟩)] w (DStr wk w0 p a cap code 150) := by
  have NX := hide (next_in hc h)
  have HC := hide hc
  have e44 : (⟨#[44]⟩ : ByteArray).size = 1 := rfl
  have e58 : (⟨#[58]⟩ : ByteArray).size = 1 := rfl
  clear hc h
  go_enter Tryd.func55, Tryd.ntmps55
  go_wp2_with fail
  refine NX.out.mono ?_
  rintro e w1 ⟨rfl, hrd1⟩
  have H1 := hide hrd1
  clear hrd1 NX
  generalize nx code i = c
  go_wp2
  go_loopw [3, 4] (fun s n wr => ∃ (k j : Nat) (S : ByteArray), k ≤ 3 ∧ n = .int .i64 (k : Int) ∧ s = .string S ∧ S.size ≤ 50 * (3 - k) ∧ RdIn wk w0 wr p a cap code j) (fun _ n _ => (intOf n).toNat)
  case atStart => exact ⟨1 + c % 3, i + 1, _, by omega, val_int (by omega), rfl, by simp [ByteArray.size], H1.out⟩
  case round =>
    obtain ⟨k, j, S, hk, rfl, rfl, hS, hrd⟩ := hrel
    clear H1
    by_cases hlt : 0 < k
    · have hki : (0 : Int) < (k : Int) := by omega
      have N1 := hide (l6Num_in HC.out hrd)
      clear hrd
      by_cases h0 : S.toList.isEmpty = true
      · go_wp2_with fail
        refine N1.out.mono ?_
        rintro e w3 ⟨t, j3, rfl, ht, h3⟩
        have N2 := hide (next_in HC.out h3)
        clear h3 N1
        go_wp2_with fail
        refine N2.out.mono ?_
        rintro e w4 ⟨rfl, h4⟩
        have H4 := hide h4
        clear h4 N2
        generalize nx code j3 = d
        by_cases hd : (d : Int) % 2 = 0
        · have N3 := hide (l6Num_in HC.out H4.out)
          go_wp2_with fail
          refine N3.out.mono ?_
          rintro e w5 ⟨u, j5, rfl, hu, h5⟩
          have H5 := hide h5
          clear h5 N3
          go_wp2
          go_roundw
          case rel => exact ⟨k - 1, j5, S ++ t ++ (⟨#[58]⟩ ++ u), by omega, val_int (by omega), rfl, by rw [app_size, app_size, app_size]; omega, H5.out⟩
          case measure => simp [intOf]; omega
        · go_wp2
          go_roundw
          case rel => exact ⟨k - 1, j3 + 1, S ++ t, by omega, val_int (by omega), rfl, by rw [app_size]; omega, H4.out⟩
          case measure => simp [intOf]; omega
      · have h0' : S.toList.isEmpty = false := by simpa using h0
        have hz3 : (S ++ ⟨#[44]⟩ : ByteArray).size ≤ 1000 := by rw [app_size]; omega
        clear h0
        go_wp2_with fail
        refine N1.out.mono ?_
        rintro e w3 ⟨t, j3, rfl, ht, h3⟩
        have N2 := hide (next_in HC.out h3)
        clear h3 N1
        go_wp2_with fail
        refine N2.out.mono ?_
        rintro e w4 ⟨rfl, h4⟩
        have H4 := hide h4
        clear h4 N2
        generalize nx code j3 = d
        by_cases hd : (d : Int) % 2 = 0
        · have N3 := hide (l6Num_in HC.out H4.out)
          go_wp2_with fail
          refine N3.out.mono ?_
          rintro e w5 ⟨u, j5, rfl, hu, h5⟩
          have H5 := hide h5
          clear h5 N3
          go_wp2
          go_roundw
          case rel => exact ⟨k - 1, j5, S ++ ⟨#[44]⟩ ++ t ++ (⟨#[58]⟩ ++ u), by omega, val_int (by omega), rfl, by rw [app_size, app_size, app_size, app_size]; omega, H5.out⟩
          case measure => simp [intOf]; omega
        · go_wp2
          go_roundw
          case rel => exact ⟨k - 1, j3 + 1, S ++ ⟨#[44]⟩ ++ t, by omega, val_int (by omega), rfl, by rw [app_size, app_size]; omega, H4.out⟩
          case measure => simp [intOf]; omega
    · have hki : ¬ (0 : Int) < (k : Int) := by omega
      have H9 := hide hrd
      clear hrd
      go_wp2
      go_ret
      exact dstr_mk H9.out _ (by omega)
end Go.Proofs.YtledlicandlekaaDoor
namespace Go.Proofs.YtledlicandlekaaDoor
open Go.RowKit
def itemA : Array Value := #[.string ⟨#[85, 73, 68]⟩, .string ⟨#[70, 76, 65, 71, 83]⟩, .string ⟨#[82, 70, 67, 56, 50, 50, 46, 83, 73, 90, 69]⟩, .string ⟨#[66, 79, 68, 89, 91, 93]⟩, .string ⟨#[69, 78, 86, 69, 76, 79, 80, 69]⟩]
theorem item_at (m : Nat) (hm : m < 5) : ∃ s : ByteArray, itemA[m]? = some (.string s) ∧ s.size ≤ 11 := by
  match m, hm with
  | 0, _ => exact ⟨_, rfl, by decide⟩
  | 1, _ => exact ⟨_, rfl, by decide⟩
  | 2, _ => exact ⟨_, rfl, by decide⟩
  | 3, _ => exact ⟨_, rfl, by decide⟩
  | 4, _ => exact ⟨_, rfl, by decide⟩
set_option maxRecDepth 20000 in
set_option maxHeartbeats 1000000 in
theorem l6Items_in {wk w0 w : World} {p : Nat} {a : Option Addr} {cap : Nat} {code : List Nat} {i : Nat} (hc : CodeIn w0 a code) (h : RdIn wk w0 w p a cap code i) :
    Calls Tryd.prog 56 #[.pointer (some ⟨p, 0, none⟩)] w (DStr wk w0 p a cap code 60) := by
  have hx := nx_lt hc.byte i
  have NX := hide (next_in hc h)
  have HC := hide hc
  have e32 : (⟨#[32]⟩ : ByteArray).size = 1 := rfl
  have e40 : (⟨#[40]⟩ : ByteArray).size = 1 := rfl
  have e41 : (⟨#[41]⟩ : ByteArray).size = 1 := rfl
  clear hc h
  go_enter Tryd.func56, Tryd.ntmps56
  go_wp2_with fail
  refine NX.out.mono ?_
  rintro e w1 ⟨rfl, hrd1⟩
  generalize nx code i = c at hx ⊢
  have hal := (Below.refl w1.heap.size w1).alloc (Nat.le_refl _) (.cells itemA 9)
  have T1 : (w1.alloc (.cells itemA 9)).heap[w1.heap.size]? = some (.cells itemA 9 (0, 0)) := heap_alloc_new w1 _
  have hpl := hrd1.rd.lt
  have H2 := hide (hrd1.below hal)
  clear NX hrd1 hal
  by_cases h0 : c % 3 = 0
  · have hk : (c : Int) % 3 = 0 := by omega
    obtain ⟨s, hs, hz⟩ := item_at (c / 3 % 5) (by omega)
    have hm : (c : Int) / 3 % 5 = ((c / 3 % 5 : Nat) : Int) := by omega
    have hlt : c / 3 % 5 < 5 := by omega
    have hcell : (w1.alloc (.cells itemA 9)).cell? ⟨w1.heap.size, c / 3 % 5, none⟩ = some (.string s) := by rw [cell_of_row _ _ _ _ _ _ T1]; exact hs
    generalize c / 3 % 5 = m at hs hm hlt hcell
    have WD := hide (l6Word_in s (by omega) HC.out H2.out)
    have HZ := hide hz
    unfold itemA at hcell WD
    clear T1 hs hz H2
    go_wp2_with fail
    refine WD.out.mono ?_
    rintro e w2 ⟨t, j2, rfl, ht, hrd2⟩
    have H3 := hide hrd2
    have HT := hide ht
    clear WD hrd2 ht hcell
    go_wp2
    go_ret
    exact dstr_mk H3.out _ (by have := HT.out; have := HZ.out; omega)
  · have hk : ¬ (c : Int) % 3 = 0 := by omega
    have T2 := hide T1
    unfold itemA at H2
    unfold itemA at T2
    clear T1
    go_wp2
    generalize w1.alloc (.cells #[.string ⟨#[85, 73, 68]⟩, .string ⟨#[70, 76, 65, 71, 83]⟩, .string ⟨#[82, 70, 67, 56, 50, 50, 46, 83, 73, 90, 69]⟩, .string ⟨#[66, 79, 68, 89, 91, 93]⟩, .string ⟨#[69, 78, 86, 69, 76, 79, 80, 69]⟩] 9) = W2 at H2 T2 ⊢
    have hkb : ((c : Int) % 3 == 0) = false := by simp; omega
    rw [hkb]
    clear hk h0 hkb
    go_loopw [5, 6] (fun s n wr => ∃ (k j : Nat) (S : ByteArray), k ≤ 4 ∧ n = .int .i64 (k : Int) ∧ s = .string S ∧ S.size ≤ 12 * k ∧ RdIn wk w0 wr p a cap code j ∧ wr.heap[w1.heap.size]? = some (.cells itemA 9 (0, 0))) (fun _ n _ => 4 - (intOf n).toNat)
    case atStart => exact ⟨0, i + 1, _, by omega, rfl, rfl, by simp [ByteArray.size], H2.out, T2.out⟩
    case round =>
      obtain ⟨k, j, S, hk4, rfl, rfl, hS, hrd, hT⟩ := hrel
      clear H2 T2
      by_cases hlt : k < 4
      · have hki : (k : Int) < 4 := by omega
        obtain ⟨s, hs, hz⟩ := item_at k (by omega)
        have hcell : wr.cell? ⟨w1.heap.size, k, none⟩ = some (.string s) := by rw [cell_of_row _ _ _ _ _ _ hT]; exact hs
        have HTL := hide (lt_of_block hT)
        have HT0 := hide hT
        have hne : w1.heap.size ≠ p := by omega
        have WD := hide (l6Word_in s (by omega) HC.out hrd.anew)
        have HKR := hide hrd.kp
        have HZ := hide hz
        have H0 := hide hrd
        clear hs hz hT hrd
        by_cases hbit : (bits .and .i64 ((c : Int) / 2 ^ (k + 2)) 1 == 1) = true
        · by_cases h0 : S.toList.isEmpty = true
          · skip
            go_wp2_with fail
            refine WD.out.mono ?_
            rintro e w3 ⟨t, j3, rfl, ht, h3⟩
            have H3 := hide (RdIn.onto HKR.out h3)
            have T3 := hide ((h3.kp.block _ HTL.out hne).trans HT0.out)
            have HTZ := hide (show t.size ≤ 11 from Nat.le_trans ht HZ.out)
            have htz := HTZ.out
            clear h3 ht WD hcell
            go_wp2
            go_roundw
            case rel => exact ⟨k + 1, j3, S ++ t, by omega, by go_num, rfl, by rw [app_size]; omega, H3.out, T3.out⟩
            case measure => simp [intOf]; omega
          · have h0' : S.toList.isEmpty = false := by simpa using h0
            have hz3 : (S ++ ⟨#[32]⟩ : ByteArray).size ≤ 1000 := by rw [app_size]; omega
            clear h0
            go_wp2_with fail
            refine WD.out.mono ?_
            rintro e w3 ⟨t, j3, rfl, ht, h3⟩
            have H3 := hide (RdIn.onto HKR.out h3)
            have T3 := hide ((h3.kp.block _ HTL.out hne).trans HT0.out)
            have HTZ := hide (show t.size ≤ 11 from Nat.le_trans ht HZ.out)
            have htz := HTZ.out
            clear h3 ht WD hcell
            go_wp2
            go_roundw
            case rel => exact ⟨k + 1, j3, S ++ ⟨#[32]⟩ ++ t, by omega, by go_num, rfl, by simp only [app_size, e32]; omega, H3.out, T3.out⟩
            case measure => simp [intOf]; omega
        · have hbit' : (bits .and .i64 ((c : Int) / 2 ^ (k + 2)) 1 == 1) = false := by simpa using hbit
          clear hbit WD hcell
          go_wp2
          go_roundw
          case rel => exact ⟨k + 1, j, S, by omega, by go_num, rfl, by omega, H0.out, HT0.out⟩
          case measure => simp [intOf]; omega
      · have hki : ¬ (k : Int) < 4 := by omega
        have H9 := hide hrd
        clear hrd
        go_wp2
        go_ret
        exact dstr_mk H9.out _ (by simp only [app_size, e40, e41]; omega)
end Go.Proofs.YtledlicandlekaaDoor
namespace Go.Proofs.YtledlicandlekaaDoor
open Go.RowKit
theorem litTab (W : World) (m : Nat) (hm : m < 5) : ∃ s : ByteArray, (W.alloc (.cells #[.string ⟨#[56, 48, 48, 48]⟩, .string ⟨#[56, 48, 48, 49]⟩, .string ⟨#[57, 57, 57, 57, 57, 57, 57, 57, 57]⟩, .string ⟨#[49, 48, 48, 48, 48, 48, 48, 48, 48, 48]⟩, .string ⟨#[48, 55]⟩] 9)).cell? ⟨W.heap.size, m, none⟩ = some (.string s) ∧ s.size ≤ 10 := by
  have h := heap_alloc_new W (.cells #[.string ⟨#[56, 48, 48, 48]⟩, .string ⟨#[56, 48, 48, 49]⟩, .string ⟨#[57, 57, 57, 57, 57, 57, 57, 57, 57]⟩, .string ⟨#[49, 48, 48, 48, 48, 48, 48, 48, 48, 48]⟩, .string ⟨#[48, 55]⟩] 9)
  rw [cell_of_row _ _ _ _ _ _ h]
  match m, hm with
  | 0, _ => exact ⟨_, rfl, by decide⟩
  | 1, _ => exact ⟨_, rfl, by decide⟩
  | 2, _ => exact ⟨_, rfl, by decide⟩
  | 3, _ => exact ⟨_, rfl, by decide⟩
  | 4, _ => exact ⟨_, rfl, by decide⟩
theorem more_in {wk w0 w : World} {p : Nat} {a : Option Addr} {cap : Nat} {code : List Nat} {i : Nat} (hc : CodeIn w0 a code) (h : RdIn wk w0 w p a cap code i) :
    Calls Tryd.prog 38 #[.pointer (some ⟨p, 0, none⟩)] w fun e w' => (∃ b : Bool, e = .returned (.bool b)) ∧ ∃ n, w' = w.drewN n := by
  have c0 := h.rd.c0
  have c1 := h.rd.c1
  have hl := hc.len
  clear hc h
  go_enter Tryd.func38, Tryd.ntmps38
  go_wp2
  go_quiet (fail)
  go_wp2
  go_ret
  exact ⟨⟨_, rfl⟩, _, rfl⟩
theorem row_kp {w w' : World} {p b : Nat} {l : List Nat} (h : RowAt w (some ⟨b, 0, none⟩) l) (hk : Kp p w w') (hb : b < w.heap.size) (hp : b ≠ p) : RowAt w' (some ⟨b, 0, none⟩) l := fun h0 => by
  obtain ⟨b9, o9, e9, hc9⟩ := h h0
  simp only [Option.some.injEq, Addr.mk.injEq, and_true] at e9
  obtain ⟨rfl, rfl⟩ := e9
  exact ⟨b, 0, rfl, fun i hi => (World.cell?_of_block (hk.block b hb hp)).trans (hc9 i hi)⟩
theorem row_take {w : World} {a : Option Addr} {l : List Nat} (h : RowAt w a l) (n : Nat) : RowAt w a (l.take n) := fun hp => by
  rw [List.length_take] at hp
  obtain ⟨b, off, e, hc⟩ := h (by omega)
  refine ⟨b, off, e, fun i hi => ?_⟩
  rw [List.length_take] at hi
  rw [hc i (by omega), List.getElem_take]
/-- What DrawCut hands back. -/
def DrawnC (w : World) (e : Ending) (w' : World) : Prop := ∃ (lits : Bool) (b c : Nat) (l : List Nat), e = .returned (.tuple #[.bool lits, .slice (some ⟨b, 0, none⟩) l.length c]) ∧ l.length ≤ c ∧ l.length ≤ 20000 ∧ (∀ x ∈ l, x < 256) ∧ RowAt w' (some ⟨b, 0, none⟩) l ∧ b < w'.heap.size ∧ Below w.heap.size w w'
set_option maxRecDepth 20000 in
set_option maxHeartbeats 4000000 in
theorem drawCut_any (a : Option Addr) (cap : Nat) (code : List Nat) (w : World) (hc : CodeIn w a code) (IM : ∀ {W : World} {i : Nat}, CodeIn w a code → RdIn w w W w.heap.size a cap code i → Calls Tryd.prog 40 #[.pointer (some ⟨w.heap.size, 0, none⟩)] W (DStr w w w.heap.size a cap code 1000)) :
    Calls Tryd.prog 19 #[.slice a code.length cap] w (DrawnC w) := by
  have hrd0 : RdIn w w (w.alloc (.cells #[.slice a code.length cap, .int .i64 0] 67)) w.heap.size a cap code 0 := by
    have h := heap_alloc_new w (.cells #[.slice a code.length cap, .int .i64 0] 67)
    refine ⟨?_, (Below.refl _ _).alloc (Nat.le_refl _) _, Nat.le_refl _, Kp.of_below ((Below.refl _ _).alloc (Nat.le_refl _) _)⟩
    unfold Rd
    rw [h]
    simp
  have hx := nx_lt hc.byte 0
  have NX := hide (next_in hc hrd0)
  have HC := hide hc
  have e10 : (⟨#[13, 10]⟩ : ByteArray).size = 2 := rfl
  clear hrd0 hc
  go_enter Tryd.func19, Tryd.ntmps19
  go_wp2_with fail
  refine NX.out.mono ?_
  rintro e w1 ⟨rfl, hrd1⟩
  have H1 := hide hrd1
  clear hrd1 NX
  generalize nx code 0 = c at hx ⊢
  go_wp2
  go_loopw [6, 7] (fun s n wr => ∃ (k j : Nat) (S : ByteArray), k ≤ 8 ∧ n = .int .i64 (k : Int) ∧ s = .string S ∧ S.size ≤ 1400 * k ∧ RdIn w w wr w.heap.size a cap code j) (fun _ n _ => 8 - (intOf n).toNat)
  case atStart => exact ⟨0, 0 + 1, _, by omega, rfl, rfl, by simp [ByteArray.size], H1.out⟩
  case round =>
    obtain ⟨k, j, S, hk8, rfl, rfl, hS, hrd⟩ := hrel
    clear H1
    have H0 := hide hrd
    clear hrd
    have hS2 : S.size ≤ 11200 := by omega
    by_cases hlt : k < 8
    · have hki : (k : Int) < 8 := by omega
      by_cases hk0 : k = 0
      · have hk0i : (k : Int) = 0 := by omega
        by_cases h3 : c % 3 = 0
        · have hk3 : (c : Int) % 3 = 0 := by omega
          have FX := hide (l6PopLine_in HC.out H0.out)
          go_wp2_with fail
          refine FX.out.mono ?_
          rintro e w4 ⟨t4, j4, rfl, ht4, h4⟩
          have H4 := hide h4
          have z3 : (t4 ++ ⟨#[13, 10]⟩).size ≤ 32 := by rw [app_size, e10]; omega
          have z4 : (S ++ (t4 ++ ⟨#[13, 10]⟩)).size ≤ 1400 * k + 1000 := by rw [app_size]; omega
          have z4' : (S ++ (t4 ++ ⟨#[13, 10]⟩)).size ≤ 11000 := by omega
          clear h4 FX
          by_cases hs0 : c / 3 % 20 = 0
          · skip
            have hk20 : (c : Int) / 3 % 20 = 0 := by omega
            have NX5 := hide (next_in HC.out H4.out)
            go_wp2_with fail
            refine NX5.out.mono ?_
            rintro e w5 ⟨rfl, hrd5⟩
            have H5 := hide hrd5
            clear NX5 hrd5
            generalize nx code j4 = d
            have hn : (300 : Int) + (d : Int) % 2 = ((300 + d % 2 : Nat) : Int) := by omega
            have hnb : 300 + d % 2 ≤ 301 := by omega
            generalize 300 + d % 2 = n at hn hnb
            go_wp2_with (at_make; refine wpList_make_bytes _ rfl _ _ rfl n rfl rfl (by omega) ?_; intro w6 hown hbel; have hconv := run_string_of w6 (some ⟨w5.heap.size, 0, none⟩) n (List.replicate n 0) hown.row; rw [List.length_replicate] at hconv; have hzz : (strB (List.replicate n 0)).size = n := (by rw [strB_size, List.length_replicate]); have H6 := hide (H5.out.below hbel); generalize strB (List.replicate n 0) = z at hconv hzz; have hz6 : (z ++ ⟨#[13, 10]⟩).size ≤ 303 := (by rw [app_size, e10]; omega); have hz7 : ((S ++ (t4 ++ ⟨#[13, 10]⟩)) ++ (z ++ ⟨#[13, 10]⟩)).size ≤ 1400 * k + 1303 := (by rw [app_size]; omega); clear hown hbel)
            exact ⟨⟨k + 1, _, _, by omega, by go_num, rfl, by omega, H6.out⟩, by simp [intOf]; omega⟩
          · by_cases hs1 : c / 3 % 20 = 1
            · skip
              have hk20 : (c : Int) / 3 % 20 = 1 := by omega
              have hal := (Below.refl w4.heap.size w4).alloc (Nat.le_refl _) (.cells #[.string ⟨#[56, 48, 48, 48]⟩, .string ⟨#[56, 48, 48, 49]⟩, .string ⟨#[57, 57, 57, 57, 57, 57, 57, 57, 57]⟩, .string ⟨#[49, 48, 48, 48, 48, 48, 48, 48, 48, 48]⟩, .string ⟨#[48, 55]⟩] 9)
              have HA4 := hide (H4.out.below hal)
              have NX5 := hide (next_in HC.out HA4.out.anew)
              have TB := hide (litTab w4)
              have hp4 : w4.heap.size ≠ w.heap.size := by have := H4.out.rd.lt; omega
              clear hal
              go_wp2_with fail
              refine NX5.out.mono ?_
              rintro e w5 ⟨rfl, hrd5⟩
              generalize nx code j4 = d at *
              have hm5 : (d : Int) % 5 = ((d % 5 : Nat) : Int) := by omega
              have hmlt : d % 5 < 5 := by omega
              generalize d % 5 = m5 at hm5 hmlt
              obtain ⟨t, ht, htz⟩ := TB.out m5 hmlt
              have hc5 : w5.cell? ⟨w4.heap.size, m5, none⟩ = some (.string t) := (World.cell?_of_block (hrd5.kp.block w4.heap.size (by simp) hp4)).trans ht
              have H5 := hide (RdIn.onto HA4.out.kp hrd5)
              have e3a : (⟨#[97, 32, 123]⟩ : ByteArray).size = 3 := rfl
              have e3b : (⟨#[125, 13, 10]⟩ : ByteArray).size = 3 := rfl
              have hz6 : ((⟨#[97, 32, 123]⟩ : ByteArray) ++ t ++ ⟨#[125, 13, 10]⟩).size ≤ 20 := by rw [app_size, app_size, e3a, e3b]; omega
              have hz7 : ((S ++ (t4 ++ ⟨#[13, 10]⟩)) ++ ((⟨#[97, 32, 123]⟩ : ByteArray) ++ t ++ ⟨#[125, 13, 10]⟩)).size ≤ 1400 * k + 1020 := by rw [app_size]; omega
              clear NX5 hrd5 HA4 TB ht
              go_wp2
              go_roundw
              case rel => exact ⟨k + 1, _, _, by omega, by go_num, rfl, by omega, H5.out⟩
              case measure => simp [intOf]; omega
            · skip
              have hk20a : (((c / 3 % 20 : Nat) : Int) == 0) = false := by simp; omega
              have hk20b : (((c / 3 % 20 : Nat) : Int) == 1) = false := by simp; omega
              have hk20 : (c : Int) / 3 % 20 = ((c / 3 % 20 : Nat) : Int) := by omega
              generalize c / 3 % 20 = c20 at hk20 hk20a hk20b
              clear hs0 hs1
              go_wp2
              go_roundw
              case rel => exact ⟨k + 1, _, _, by omega, by go_num, rfl, by omega, H4.out⟩
              case measure => simp [intOf]; omega
        · have hk3 : ¬ (c : Int) % 3 = 0 := by omega
          have FX := hide (IM HC.out H0.out)
          go_wp2_with fail
          refine FX.out.mono ?_
          rintro e w4 ⟨t4, j4, rfl, ht4, h4⟩
          have H4 := hide h4
          have z4 : (S ++ t4).size ≤ 1400 * k + 1000 := by rw [app_size]; omega
          have z4' : (S ++ t4).size ≤ 11000 := by omega
          clear h4 FX
          by_cases hs0 : c / 3 % 20 = 0
          · skip
            have hk20 : (c : Int) / 3 % 20 = 0 := by omega
            have NX5 := hide (next_in HC.out H4.out)
            go_wp2_with fail
            refine NX5.out.mono ?_
            rintro e w5 ⟨rfl, hrd5⟩
            have H5 := hide hrd5
            clear NX5 hrd5
            generalize nx code j4 = d
            have hn : (300 : Int) + (d : Int) % 2 = ((300 + d % 2 : Nat) : Int) := by omega
            have hnb : 300 + d % 2 ≤ 301 := by omega
            generalize 300 + d % 2 = n at hn hnb
            go_wp2_with (at_make; refine wpList_make_bytes _ rfl _ _ rfl n rfl rfl (by omega) ?_; intro w6 hown hbel; have hconv := run_string_of w6 (some ⟨w5.heap.size, 0, none⟩) n (List.replicate n 0) hown.row; rw [List.length_replicate] at hconv; have hzz : (strB (List.replicate n 0)).size = n := (by rw [strB_size, List.length_replicate]); have H6 := hide (H5.out.below hbel); generalize strB (List.replicate n 0) = z at hconv hzz; have hz6 : (z ++ ⟨#[13, 10]⟩).size ≤ 303 := (by rw [app_size, e10]; omega); have hz7 : ((S ++ t4) ++ (z ++ ⟨#[13, 10]⟩)).size ≤ 1400 * k + 1303 := (by rw [app_size]; omega); clear hown hbel)
            exact ⟨⟨k + 1, _, _, by omega, by go_num, rfl, by omega, H6.out⟩, by simp [intOf]; omega⟩
          · by_cases hs1 : c / 3 % 20 = 1
            · skip
              have hk20 : (c : Int) / 3 % 20 = 1 := by omega
              have hal := (Below.refl w4.heap.size w4).alloc (Nat.le_refl _) (.cells #[.string ⟨#[56, 48, 48, 48]⟩, .string ⟨#[56, 48, 48, 49]⟩, .string ⟨#[57, 57, 57, 57, 57, 57, 57, 57, 57]⟩, .string ⟨#[49, 48, 48, 48, 48, 48, 48, 48, 48, 48]⟩, .string ⟨#[48, 55]⟩] 9)
              have HA4 := hide (H4.out.below hal)
              have NX5 := hide (next_in HC.out HA4.out.anew)
              have TB := hide (litTab w4)
              have hp4 : w4.heap.size ≠ w.heap.size := by have := H4.out.rd.lt; omega
              clear hal
              go_wp2_with fail
              refine NX5.out.mono ?_
              rintro e w5 ⟨rfl, hrd5⟩
              generalize nx code j4 = d at *
              have hm5 : (d : Int) % 5 = ((d % 5 : Nat) : Int) := by omega
              have hmlt : d % 5 < 5 := by omega
              generalize d % 5 = m5 at hm5 hmlt
              obtain ⟨t, ht, htz⟩ := TB.out m5 hmlt
              have hc5 : w5.cell? ⟨w4.heap.size, m5, none⟩ = some (.string t) := (World.cell?_of_block (hrd5.kp.block w4.heap.size (by simp) hp4)).trans ht
              have H5 := hide (RdIn.onto HA4.out.kp hrd5)
              have e3a : (⟨#[97, 32, 123]⟩ : ByteArray).size = 3 := rfl
              have e3b : (⟨#[125, 13, 10]⟩ : ByteArray).size = 3 := rfl
              have hz6 : ((⟨#[97, 32, 123]⟩ : ByteArray) ++ t ++ ⟨#[125, 13, 10]⟩).size ≤ 20 := by rw [app_size, app_size, e3a, e3b]; omega
              have hz7 : ((S ++ t4) ++ ((⟨#[97, 32, 123]⟩ : ByteArray) ++ t ++ ⟨#[125, 13, 10]⟩)).size ≤ 1400 * k + 1020 := by rw [app_size]; omega
              clear NX5 hrd5 HA4 TB ht
              go_wp2
              go_roundw
              case rel => exact ⟨k + 1, _, _, by omega, by go_num, rfl, by omega, H5.out⟩
              case measure => simp [intOf]; omega
            · skip
              have hk20a : (((c / 3 % 20 : Nat) : Int) == 0) = false := by simp; omega
              have hk20b : (((c / 3 % 20 : Nat) : Int) == 1) = false := by simp; omega
              have hk20 : (c : Int) / 3 % 20 = ((c / 3 % 20 : Nat) : Int) := by omega
              generalize c / 3 % 20 = c20 at hk20 hk20a hk20b
              clear hs0 hs1
              go_wp2
              go_roundw
              case rel => exact ⟨k + 1, _, _, by omega, by go_num, rfl, by omega, H4.out⟩
              case measure => simp [intOf]; omega
      · have hk0i : ¬ (k : Int) = 0 := by omega
        have MR := hide (more_in HC.out H0.out)
        go_wp2_with fail
        refine MR.out.mono ?_
        rintro e w2 ⟨⟨bb, rfl⟩, n2, e2⟩
        have hb2 : Below wr.heap.size wr w2 := by rw [e2]; exact below_drewN (Below.refl _ _) n2
        have H2 := hide (H0.out.below hb2)
        clear e2 hb2 MR H0
        cases bb with
        | false =>
          obtain ⟨l, rfl, hl, hb⟩ := str_is S
          have hconv := Lib.run_convert_string_bytes (P := Tryd.prog) w2 9 22 5 (strB l) Tryd.underlying9 Tryd.underlying22 Tryd.underlying5
          rw [strB_size] at hconv
          have hF := rowF_new w2 l hb
          have hB := bytesW_below w2 (strB l)
          have hgc := grownCap_ge w2 l.length 0 5
          have HR := hide hF.row
          have HLT := hide hF.lt
          have H5 := hide (H2.out.below hB)
          have HBB := hide hb
          have hpw : w.heap.size < w2.heap.size := H2.out.rd.lt
          have hl2 : l.length ≤ 11200 := by omega
          generalize Lib.bytesWorld w2 5 (strB l) = w5 at hconv HR HLT H5
          generalize grownCap w2 l.length 0 5 = gc at hconv hgc
          generalize strB l = sl at hconv ⊢
          clear hF hB hb hl hS hS2
          by_cases h4 : (c : Int) % 4 = 0
          · have NX2 := hide (next_in HC.out H5.out.anew)
            go_wp2_with fail
            refine NX2.out.mono ?_
            rintro e w6 ⟨rfl, hrd6⟩
            have HR6 := hide (row_kp HR.out hrd6.kp HLT.out (by omega))
            have HL6 := hide (Nat.lt_of_lt_of_le HLT.out hrd6.kp.size)
            have HLO := hide hrd6.low
            clear NX2 hrd6 hconv
            generalize nx code j = d
            have hne : ¬ (l.length : Int) + 1 = 0 := by omega
            have hmod : (d : Int) % ((l.length : Int) + 1) = ((d % (l.length + 1) : Nat) : Int) := by rw [Int.natCast_emod]; rfl
            have hml : d % (l.length + 1) ≤ l.length := by have := Nat.mod_lt d (show 0 < l.length + 1 by omega); omega
            generalize d % (l.length + 1) = r at hmod hml
            have hsub : (l.length : Int) - (r : Int) = ((l.length - r : Nat) : Int) := by omega
            have hnl : l.length - r ≤ gc := by omega
            have hnl2 : l.length - r ≤ l.length := by omega
            generalize l.length - r = nn at hsub hnl hnl2
            go_wp2
            go_ret2
            exact ⟨_, w2.heap.size, gc, l.take nn, (by rw [List.length_take, Nat.min_eq_left hnl2]; rfl), by rw [List.length_take]; omega, by rw [List.length_take]; omega, fun x hx => HBB.out x (List.mem_of_mem_take hx), row_take HR6.out nn, HL6.out, HLO.out⟩
          · go_wp2
            go_ret2
            exact ⟨_, w2.heap.size, gc, l, rfl, hgc, by omega, HBB.out, HR.out, HLT.out, H5.out.low⟩
        | true =>
          by_cases h3 : c % 3 = 0
          · have hk3 : (c : Int) % 3 = 0 := by omega
            have FX := hide (l6PopLine_in HC.out H2.out)
            go_wp2_with fail
            refine FX.out.mono ?_
            rintro e w4 ⟨t4, j4, rfl, ht4, h4⟩
            have H4 := hide h4
            have z3 : (t4 ++ ⟨#[13, 10]⟩).size ≤ 32 := by rw [app_size, e10]; omega
            have z4 : (S ++ (t4 ++ ⟨#[13, 10]⟩)).size ≤ 1400 * k + 1000 := by rw [app_size]; omega
            have z4' : (S ++ (t4 ++ ⟨#[13, 10]⟩)).size ≤ 11000 := by omega
            clear h4 FX
            by_cases hs0 : c / 3 % 20 = 0
            · skip
              have hk20 : (c : Int) / 3 % 20 = 0 := by omega
              have NX5 := hide (next_in HC.out H4.out)
              go_wp2_with fail
              refine NX5.out.mono ?_
              rintro e w5 ⟨rfl, hrd5⟩
              have H5 := hide hrd5
              clear NX5 hrd5
              generalize nx code j4 = d
              have hn : (300 : Int) + (d : Int) % 2 = ((300 + d % 2 : Nat) : Int) := by omega
              have hnb : 300 + d % 2 ≤ 301 := by omega
              generalize 300 + d % 2 = n at hn hnb
              go_wp2_with (at_make; refine wpList_make_bytes _ rfl _ _ rfl n rfl rfl (by omega) ?_; intro w6 hown hbel; have hconv := run_string_of w6 (some ⟨w5.heap.size, 0, none⟩) n (List.replicate n 0) hown.row; rw [List.length_replicate] at hconv; have hzz : (strB (List.replicate n 0)).size = n := (by rw [strB_size, List.length_replicate]); have H6 := hide (H5.out.below hbel); generalize strB (List.replicate n 0) = z at hconv hzz; have hz6 : (z ++ ⟨#[13, 10]⟩).size ≤ 303 := (by rw [app_size, e10]; omega); have hz7 : ((S ++ (t4 ++ ⟨#[13, 10]⟩)) ++ (z ++ ⟨#[13, 10]⟩)).size ≤ 1400 * k + 1303 := (by rw [app_size]; omega); clear hown hbel)
              exact ⟨⟨k + 1, _, _, by omega, by go_num, rfl, by omega, H6.out⟩, by simp [intOf]; omega⟩
            · by_cases hs1 : c / 3 % 20 = 1
              · skip
                have hk20 : (c : Int) / 3 % 20 = 1 := by omega
                have hal := (Below.refl w4.heap.size w4).alloc (Nat.le_refl _) (.cells #[.string ⟨#[56, 48, 48, 48]⟩, .string ⟨#[56, 48, 48, 49]⟩, .string ⟨#[57, 57, 57, 57, 57, 57, 57, 57, 57]⟩, .string ⟨#[49, 48, 48, 48, 48, 48, 48, 48, 48, 48]⟩, .string ⟨#[48, 55]⟩] 9)
                have HA4 := hide (H4.out.below hal)
                have NX5 := hide (next_in HC.out HA4.out.anew)
                have TB := hide (litTab w4)
                have hp4 : w4.heap.size ≠ w.heap.size := by have := H4.out.rd.lt; omega
                clear hal
                go_wp2_with fail
                refine NX5.out.mono ?_
                rintro e w5 ⟨rfl, hrd5⟩
                generalize nx code j4 = d at *
                have hm5 : (d : Int) % 5 = ((d % 5 : Nat) : Int) := by omega
                have hmlt : d % 5 < 5 := by omega
                generalize d % 5 = m5 at hm5 hmlt
                obtain ⟨t, ht, htz⟩ := TB.out m5 hmlt
                have hc5 : w5.cell? ⟨w4.heap.size, m5, none⟩ = some (.string t) := (World.cell?_of_block (hrd5.kp.block w4.heap.size (by simp) hp4)).trans ht
                have H5 := hide (RdIn.onto HA4.out.kp hrd5)
                have e3a : (⟨#[97, 32, 123]⟩ : ByteArray).size = 3 := rfl
                have e3b : (⟨#[125, 13, 10]⟩ : ByteArray).size = 3 := rfl
                have hz6 : ((⟨#[97, 32, 123]⟩ : ByteArray) ++ t ++ ⟨#[125, 13, 10]⟩).size ≤ 20 := by rw [app_size, app_size, e3a, e3b]; omega
                have hz7 : ((S ++ (t4 ++ ⟨#[13, 10]⟩)) ++ ((⟨#[97, 32, 123]⟩ : ByteArray) ++ t ++ ⟨#[125, 13, 10]⟩)).size ≤ 1400 * k + 1020 := by rw [app_size]; omega
                clear NX5 hrd5 HA4 TB ht
                go_wp2
                go_roundw
                case rel => exact ⟨k + 1, _, _, by omega, by go_num, rfl, by omega, H5.out⟩
                case measure => simp [intOf]; omega
              · skip
                have hk20a : (((c / 3 % 20 : Nat) : Int) == 0) = false := by simp; omega
                have hk20b : (((c / 3 % 20 : Nat) : Int) == 1) = false := by simp; omega
                have hk20 : (c : Int) / 3 % 20 = ((c / 3 % 20 : Nat) : Int) := by omega
                generalize c / 3 % 20 = c20 at hk20 hk20a hk20b
                clear hs0 hs1
                go_wp2
                go_roundw
                case rel => exact ⟨k + 1, _, _, by omega, by go_num, rfl, by omega, H4.out⟩
                case measure => simp [intOf]; omega
          · have hk3 : ¬ (c : Int) % 3 = 0 := by omega
            have FX := hide (IM HC.out H2.out)
            go_wp2_with fail
            refine FX.out.mono ?_
            rintro e w4 ⟨t4, j4, rfl, ht4, h4⟩
            have H4 := hide h4
            have z4 : (S ++ t4).size ≤ 1400 * k + 1000 := by rw [app_size]; omega
            have z4' : (S ++ t4).size ≤ 11000 := by omega
            clear h4 FX
            by_cases hs0 : c / 3 % 20 = 0
            · skip
              have hk20 : (c : Int) / 3 % 20 = 0 := by omega
              have NX5 := hide (next_in HC.out H4.out)
              go_wp2_with fail
              refine NX5.out.mono ?_
              rintro e w5 ⟨rfl, hrd5⟩
              have H5 := hide hrd5
              clear NX5 hrd5
              generalize nx code j4 = d
              have hn : (300 : Int) + (d : Int) % 2 = ((300 + d % 2 : Nat) : Int) := by omega
              have hnb : 300 + d % 2 ≤ 301 := by omega
              generalize 300 + d % 2 = n at hn hnb
              go_wp2_with (at_make; refine wpList_make_bytes _ rfl _ _ rfl n rfl rfl (by omega) ?_; intro w6 hown hbel; have hconv := run_string_of w6 (some ⟨w5.heap.size, 0, none⟩) n (List.replicate n 0) hown.row; rw [List.length_replicate] at hconv; have hzz : (strB (List.replicate n 0)).size = n := (by rw [strB_size, List.length_replicate]); have H6 := hide (H5.out.below hbel); generalize strB (List.replicate n 0) = z at hconv hzz; have hz6 : (z ++ ⟨#[13, 10]⟩).size ≤ 303 := (by rw [app_size, e10]; omega); have hz7 : ((S ++ t4) ++ (z ++ ⟨#[13, 10]⟩)).size ≤ 1400 * k + 1303 := (by rw [app_size]; omega); clear hown hbel)
              exact ⟨⟨k + 1, _, _, by omega, by go_num, rfl, by omega, H6.out⟩, by simp [intOf]; omega⟩
            · by_cases hs1 : c / 3 % 20 = 1
              · skip
                have hk20 : (c : Int) / 3 % 20 = 1 := by omega
                have hal := (Below.refl w4.heap.size w4).alloc (Nat.le_refl _) (.cells #[.string ⟨#[56, 48, 48, 48]⟩, .string ⟨#[56, 48, 48, 49]⟩, .string ⟨#[57, 57, 57, 57, 57, 57, 57, 57, 57]⟩, .string ⟨#[49, 48, 48, 48, 48, 48, 48, 48, 48, 48]⟩, .string ⟨#[48, 55]⟩] 9)
                have HA4 := hide (H4.out.below hal)
                have NX5 := hide (next_in HC.out HA4.out.anew)
                have TB := hide (litTab w4)
                have hp4 : w4.heap.size ≠ w.heap.size := by have := H4.out.rd.lt; omega
                clear hal
                go_wp2_with fail
                refine NX5.out.mono ?_
                rintro e w5 ⟨rfl, hrd5⟩
                generalize nx code j4 = d at *
                have hm5 : (d : Int) % 5 = ((d % 5 : Nat) : Int) := by omega
                have hmlt : d % 5 < 5 := by omega
                generalize d % 5 = m5 at hm5 hmlt
                obtain ⟨t, ht, htz⟩ := TB.out m5 hmlt
                have hc5 : w5.cell? ⟨w4.heap.size, m5, none⟩ = some (.string t) := (World.cell?_of_block (hrd5.kp.block w4.heap.size (by simp) hp4)).trans ht
                have H5 := hide (RdIn.onto HA4.out.kp hrd5)
                have e3a : (⟨#[97, 32, 123]⟩ : ByteArray).size = 3 := rfl
                have e3b : (⟨#[125, 13, 10]⟩ : ByteArray).size = 3 := rfl
                have hz6 : ((⟨#[97, 32, 123]⟩ : ByteArray) ++ t ++ ⟨#[125, 13, 10]⟩).size ≤ 20 := by rw [app_size, app_size, e3a, e3b]; omega
                have hz7 : ((S ++ t4) ++ ((⟨#[97, 32, 123]⟩ : ByteArray) ++ t ++ ⟨#[125, 13, 10]⟩)).size ≤ 1400 * k + 1020 := by rw [app_size]; omega
                clear NX5 hrd5 HA4 TB ht
                go_wp2
                go_roundw
                case rel => exact ⟨k + 1, _, _, by omega, by go_num, rfl, by omega, H5.out⟩
                case measure => simp [intOf]; omega
              · skip
                have hk20a : (((c / 3 % 20 : Nat) : Int) == 0) = false := by simp; omega
                have hk20b : (((c / 3 % 20 : Nat) : Int) == 1) = false := by simp; omega
                have hk20 : (c : Int) / 3 % 20 = ((c / 3 % 20 : Nat) : Int) := by omega
                generalize c / 3 % 20 = c20 at hk20 hk20a hk20b
                clear hs0 hs1
                go_wp2
                go_roundw
                case rel => exact ⟨k + 1, _, _, by omega, by go_num, rfl, by omega, H4.out⟩
                case measure => simp [intOf]; omega
    · have hki : ¬ (k : Int) < 8 := by omega
      obtain ⟨l, rfl, hl, hb⟩ := str_is S
      have hconv := Lib.run_convert_string_bytes (P := Tryd.prog) wr 9 22 5 (strB l) Tryd.underlying9 Tryd.underlying22 Tryd.underlying5
      rw [strB_size] at hconv
      have hF := rowF_new wr l hb
      have hB := bytesW_below wr (strB l)
      have hgc := grownCap_ge wr l.length 0 5
      have HR := hide hF.row
      have HLT := hide hF.lt
      have H5 := hide (H0.out.below hB)
      have HBB := hide hb
      have hpw : w.heap.size < wr.heap.size := H0.out.rd.lt
      have hl2 : l.length ≤ 11200 := by omega
      generalize Lib.bytesWorld wr 5 (strB l) = w5 at hconv HR HLT H5
      generalize grownCap wr l.length 0 5 = gc at hconv hgc
      generalize strB l = sl at hconv ⊢
      clear hF hB hb hl hS hS2
      by_cases h4 : (c : Int) % 4 = 0
      · have NX2 := hide (next_in HC.out H5.out.anew)
        go_wp2_with fail
        refine NX2.out.mono ?_
        rintro e w6 ⟨rfl, hrd6⟩
        have HR6 := hide (row_kp HR.out hrd6.kp HLT.out (by omega))
        have HL6 := hide (Nat.lt_of_lt_of_le HLT.out hrd6.kp.size)
        have HLO := hide hrd6.low
        clear NX2 hrd6 hconv
        generalize nx code j = d
        have hne : ¬ (l.length : Int) + 1 = 0 := by omega
        have hmod : (d : Int) % ((l.length : Int) + 1) = ((d % (l.length + 1) : Nat) : Int) := by rw [Int.natCast_emod]; rfl
        have hml : d % (l.length + 1) ≤ l.length := by have := Nat.mod_lt d (show 0 < l.length + 1 by omega); omega
        generalize d % (l.length + 1) = r at hmod hml
        have hsub : (l.length : Int) - (r : Int) = ((l.length - r : Nat) : Int) := by omega
        have hnl : l.length - r ≤ gc := by omega
        have hnl2 : l.length - r ≤ l.length := by omega
        generalize l.length - r = nn at hsub hnl hnl2
        go_wp2
        go_ret2
        exact ⟨_, wr.heap.size, gc, l.take nn, (by rw [List.length_take, Nat.min_eq_left hnl2]; rfl), by rw [List.length_take]; omega, by rw [List.length_take]; omega, fun x hx => HBB.out x (List.mem_of_mem_take hx), row_take HR6.out nn, HL6.out, HLO.out⟩
      · go_wp2
        go_ret2
        exact ⟨_, wr.heap.size, gc, l, rfl, hgc, by omega, HBB.out, HR.out, HLT.out, H5.out.low⟩
end Go.Proofs.YtledlicandlekaaDoor
namespace Go.Proofs.YtledlicandlekaaDoor
open Go.RowKit
def strN (l : List Nat) : ByteArray := strOfNums (l.map fun (n : Nat) => (n : Int))
theorem conv_str (w : World) (a : Option Addr) (cap : Nat) (l : List Nat) (hr : RowAt w a l) : (convert 22 9 (.slice a l.length cap)).run Tryd.prog w = .ok (.string (strN l)) w := by
  by_cases h : 0 < l.length
  · obtain ⟨b, off, rfl, hc⟩ := hr h
    refine run_convert_bytes_arg w 22 5 Tryd.underlying22 Tryd.underlying5 b off l.length cap (l.map fun (n : Nat) => (n : Int)) (by simp) (fun i hi => ?_) 9 Tryd.underlying9
    rw [hc i hi]
    simp [hi]
  · obtain rfl : l = [] := List.eq_nil_of_length_eq_zero (by omega)
    cases a with
    | none => exact run_convert_bytes_nil w 22 5 Tryd.underlying22 Tryd.underlying5 _ _ 9 Tryd.underlying9
    | some x =>
      rw [run_convert_bytes_string w 22 9 5 _ _ _ Tryd.underlying22 Tryd.underlying5 Tryd.underlying9]
      exact run_bytesToString w x 0 cap [] (run_loadCells_list (P := Tryd.prog) w x [] (fun j v hj => by simp at hj))
theorem sameBytes_any (a a' : Option Addr) (cap cap' : Nat) (l : List Nat) (w : World) (hr : RowAt w a l) (hr' : RowAt w a' l) :
    Calls Tryd.prog 20 #[.slice a l.length cap, .slice a' l.length cap'] w fun e w' => e = .returned (.bool true) ∧ w' = w := by
  have h1 := conv_str w a cap l hr
  have h2 := conv_str w a' cap' l hr'
  generalize strN l = s at h1 h2
  go_enter Tryd.func20, Tryd.ntmps20
  go_wp2
  go_ret
  exact ⟨rfl, rfl⟩
end Go.Proofs.YtledlicandlekaaDoor
namespace Go.Proofs.YtledlicandlekaaDoor
open Go.RowKit
/-- What impl.Cut hands back, in a box of the call's own. -/
theorem impl_cut (lits : Bool) (b off cap n : Nat) (d : List Nat) (hn : d.length = n) (w : World) (hE : Env w) (h256 : ∀ x ∈ d, x < 256) (hd : d.length ≤ 1048576) (hcap : d.length ≤ cap) (hT : Tx w b off d) (hbw : b < w.heap.size) :
    Calls Tryd.prog 8 #[.bool lits, .slice (some ⟨b, off, none⟩) n cap] w fun e w' => ∃ a c p q, e = .returned (.agg #[.slice a (cutAll lits d).1.length c, .slice p (cutAll lits d).2.length q]) ∧ UnAt w' a (cutAll lits d).1 ∧ RowAt w' p (cutAll lits d).2 ∧ Below w.heap.size w w' := by
  subst hn
  refine (implCut_any lits b off cap d w hE h256 hd hcap hT hbw).mono ?_
  rintro e w' ⟨v, vs, rv, rfl, ow, rs, ap, hb⟩
  obtain ⟨a, c, rfl⟩ := ow.slice
  obtain ⟨p, q, rfl⟩ := rs.slice
  exact ⟨a, c, p, q, rfl, ow.unAt, rs.row, hb⟩
theorem spec_cut (lits : Bool) (b off cap n : Nat) (d : List Nat) (hn : d.length = n) (w : World) (hd : d.length ≤ 1048576) (hcap : d.length ≤ cap) (hT : Tx w b off d) (hbw : b < w.heap.size) :
    Calls Tryd.prog 6 #[.bool lits, .slice (some ⟨b, off, none⟩) n cap] w fun e w' => ∃ a c p q, e = .returned (.agg #[.slice a (cutAll lits d).1.length c, .slice p (cutAll lits d).2.length q]) ∧ UnAt w' a (cutAll lits d).1 ∧ RowAt w' p (cutAll lits d).2 ∧ Below w.heap.size w w' := by
  subst hn
  refine (specCut_any lits b off cap d w hd hcap hT hbw).mono ?_
  rintro e w' ⟨v, vs, rv, rfl, ow, rs, ap, hb⟩
  obtain ⟨a, c, rfl⟩ := ow.slice
  obtain ⟨p, q, rfl⟩ := rs.slice
  exact ⟨a, c, p, q, rfl, ow.unAt, rs.row, hb⟩
theorem ans_box {w' : World} {a p : Option Addr} {n m c q : Nat} {us : List UnitM} {r : List Nat} (hu : UnAt w' a us) (hr : RowAt w' p r) : Ans (w'.alloc (.cells #[.slice a n c, .slice p m q] 25)) w'.heap.size a p n m c q us r :=
  have hal := (Below.refl w'.heap.size w').alloc (Nat.le_refl _) (.cells #[.slice a n c, .slice p m q] 25)
  ⟨blk_new w' _ _, hu.below hal, hr.below hal⟩
theorem cut_len (lits : Bool) (d : List Nat) : (cutAll lits d).1.length + (cutAll lits d).2.length ≤ d.length ∧ ∀ u ∈ (cutAll lits d).1, u.1.length ≤ d.length ∧ u.2.1.length ≤ d.length := by
  have h := cut_sum lits d.length d 0
  have h1 := kAt_count 0 (cutAll lits d).1
  have h2 := kAt_each 0 (cutAll lits d).1
  unfold cutAll at h1 h2 ⊢
  refine ⟨by omega, fun u hu => ?_⟩
  have := h2 u hu
  omega
end Go.Proofs.YtledlicandlekaaDoor
