import Derived.Test.YtledlicandlekaaDoorCutSp1
namespace Go.Proofs.YtledlicandlekaaDoor
open Go.RowKit
theorem last_at {d : List Nat} (h : 0 < d.length) : d.getLast? = some (d[d.length - 1]'(by omega)) := by
  rw [List.getLast?_eq_getElem?, List.getElem?_eq_getElem (by omega)]
theorem drop_more {c : Nat} {d : List Nat} {i : Nat} (hi : i < d.length) (hn : c ∉ d.drop (i + 1)) (hne : d[i] ≠ c) : c ∉ d.drop i := by
  rw [List.drop_eq_getElem_cons hi]
  intro hm
  rcases List.mem_cons.1 hm with e | hm
  · exact hne e.symm
  · exact hn hm
set_option maxRecDepth 20000 in
set_option maxHeartbeats 1000000 in
theorem l6Literal_any (b off cap : Nat) (d : List Nat) (w : World) (hd : d.length ≤ 1048576) (hcap : d.length ≤ cap) (hT : Tx w b off d) :
    Calls Tryd.prog 42 #[.slice (some ⟨b, off, none⟩) d.length cap] w fun e w' => e = .returned (litV (litOf d)) ∧ Below w.heap.size w w' := by
  by_cases h3 : d.length < 3
  · have h3i : (d.length : Int) < 3 := by omega
    rw [litOf_short h3]
    clear hT
    go_enter Tryd.func42, Tryd.ntmps42
    go_wp2
    go_ret2
    exact ⟨rfl, Below.refl _ _⟩
  · have h3i : ¬ (d.length : Int) < 3 := by omega
    have hcl := hT (d.length - 1) (by omega)
    have hgl := last_at (d := d) (by omega)
    obtain ⟨m, hm⟩ : ∃ m, d.length = m + 1 := ⟨d.length - 1, by omega⟩
    have hsub : (d.length : Int) - 1 = (m : Int) := by omega
    by_cases h125 : d[d.length - 1]'(by omega) = 125
    · have HGL := hide (show d.getLast? = some 125 by rw [hgl, h125])
      have H125 := hide (show ∀ i (h : i < d.length), d[i] = 123 → i < m from fun i h e => by
        rcases Nat.lt_or_ge i m with h' | h'
        · exact h'
        · have e2 : i = d.length - 1 := by omega
          subst e2
          rw [h125] at e
          cases e)
      rw [h125, hm, Nat.add_sub_cancel] at hcl
      have HT := hide hT
      clear hgl h125 hT
      have hlm : m < d.length := by omega
      have hml : m ≤ 1048576 := by omega
      have hcm : m + 1 ≤ cap := by omega
      have HM := hide hm
      rw [hm]
      rw [hm] at h3i hsub
      clear hm
      go_enter Tryd.func42, Tryd.ntmps42
      go_wp2
      go_loopw [4, 5, 6, 7] (fun i _ _ _ wr => ∃ k : Nat, k ≤ m + 1 ∧ i = .int .i64 ((k : Int) - 1) ∧ 123 ∉ d.drop k ∧ Below w.heap.size w wr) (fun i _ _ _ _ => (intOf i + 1).toNat)
      case atStart => exact ⟨m + 1, Nat.le_refl _, by congr 1; omega, by rw [← HM.out, List.drop_length]; simp, Below.refl _ _⟩
      case round =>
        obtain ⟨k, hk, rfl, hn, hb⟩ := hrel
        have HB := hide hb
        cases k with
        | zero =>
          have HR := hide (litOf_none (l := d) (by simpa using hn))
          have h0 : ¬ (0 : Int) ≤ ((0 : Nat) : Int) - 1 := by omega
          clear hn hb
          go_wp2
          go_ret2
          exact ⟨by rw [HR.out]; rfl, HB.out⟩
        | succ i =>
          have hi : i < d.length := by have := HM.out; omega
          have hci := (HT.out.below hb) i hi
          have he : ((i + 1 : Nat) : Int) - 1 = (i : Int) := by omega
          rw [he]
          have hil : (i : Int) < (m : Int) + 1 := by omega
          have him : i ≤ m := by omega
          by_cases h123 : d[i] = 123
          · have HL := hide (litOf_at HGL.out hi h123 hn)
            rw [h123] at hci
            have hrow := word_row (HT.out.below hb) i
            have hwl := word_len d i
            rw [HM.out, Nat.add_sub_cancel] at hwl
            have him2 := H125.out i hi h123
            have hcv := run_string_of wr _ (cap - (i + 1)) _ hrow
            rw [hwl] at hcv
            have hsz : (strB (wordOf d i)).size = m - (i + 1) := by
              rw [← hwl]
              show ((wordOf d i).map UInt8.ofNat).toArray.size = _
              simp
            have HLN := hide (fun n ok (h : NumIs ((wordOf d i).map UInt8.ofNat) n ok) => litN_spec h)
            have hll : ((wordOf d i).map UInt8.ofNat).length = m - (i + 1) := by rw [List.length_map, hwl]
            have HLL := hide hll
            have hne : ¬ cap = i + 1 := by omega
            have hi1 : (i : Int) + 1 ≤ (m : Int) := by omega
            have hi2 : (m : Int) ≤ (cap : Int) := by omega
            have HNU := hide (fun W => l4Number_any (strB (wordOf d i)) W (by omega))
            have HND := hide (show (strB (wordOf d i)).data.toList = (wordOf d i).map UInt8.ofNat from rfl)
            generalize strB (wordOf d i) = S at hcv hsz HNU HND
            clear hrow hwl hb hn h123 hll
            go_wp2_with fail
            refine (HNU.out wr).mono ?_
            rintro e w2 ⟨n, ok, rfl, hN, hb2⟩
            rw [HND.out] at hN
            obtain ⟨hy, hno⟩ := HLN.out n ok hN
            have HB2 := hide (HB.out.trans (hb2.mono HB.out.size))
            rw [HLL.out] at hy hno
            clear hN hb2 hcv hci
            cases ok with
            | false =>
              have HR := hide (show litOf d = none by rw [HL.out, hno (by simp)]; rfl)
              clear hy hno
              go_wp2
              go_ret2
              exact ⟨by rw [HR.out]; rfl, HB2.out⟩
            | true =>
              by_cases h9 : m - (i + 1) ≤ 9
              · have h9i : ¬ (9 : Int) < (S.size : Int) := by omega
                have HR := hide (show litOf d = some (n, i) by rw [HL.out, hy ⟨rfl, h9⟩]; rfl)
                clear hy hno hsz
                go_wp2
                go_ret2
                exact ⟨by rw [HR.out]; rfl, HB2.out⟩
              · have h9i : (9 : Int) < (S.size : Int) := by omega
                have HR := hide (show litOf d = none by rw [HL.out, hno (fun h => h9 h.2)]; rfl)
                clear hy hno hsz
                go_wp2
                go_ret2
                exact ⟨by rw [HR.out]; rfl, HB2.out⟩
          · have HN := hide (drop_more hi hn h123)
            generalize d[i] = x at hci h123
            have hx : ((x : Int) != 123) = true := by simp; omega
            clear hb hn
            go_wp2
            go_roundw
            case rel => exact ⟨i, by omega, by congr 1, HN.out, HB.out⟩
            case measure => simp [intOf]
    · have HR := hide (litOf_last (l := d) (by rw [hgl]; simpa using h125))
      rw [hm] at h3i hsub ⊢
      have hcl2 : w.cell? ⟨b, off + m, none⟩ = some (.int .u8 ((d[d.length - 1]'(by omega) : Nat) : Int)) := by
        have : d.length - 1 = m := by omega
        simp only [this] at hcl ⊢
        exact hcl
      generalize d[d.length - 1]'(by omega) = x at hcl2 h125
      have hx : ((x : Int) != 125) = true := by simp; omega
      have hml : m ≤ 1048576 := by omega
      clear hcl hgl hT
      go_enter Tryd.func42, Tryd.ntmps42
      go_wp2
      go_ret2
      exact ⟨by rw [HR.out]; rfl, Below.refl _ _⟩
end Go.Proofs.YtledlicandlekaaDoor
