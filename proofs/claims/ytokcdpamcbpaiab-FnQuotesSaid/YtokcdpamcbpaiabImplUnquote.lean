import Derived.Test.YtokcdpamcbpaiabAppAt
namespace Go.Proofs.Ytokcdpamcbpaiab
open Go.RowKit
theorem quoted_any (p q : Nat) (w : World) :
    Calls Try.prog 27 #[.agg #[.int .i64 (p : Int), .int .i64 (q : Int)]] w fun e w' => e = .returned (.bool (decide (0 < q))) ∧ Below w.heap.size w w' := by
  go_enter Try.func27, Try.ntmps27
  go_wp2
  go_ret
  exact ⟨rfl, (Below.refl _ _).alloc (Nat.le_refl _) _⟩
theorem below_trans' {B : Nat} {w w1 w2 : World} (h : Below B w w1) (k : Below w1.heap.size w1 w2) (hB : B ≤ w1.heap.size := by omega) : Below B w w2 := h.trans (k.mono hB)
set_option maxRecDepth 20000 in
set_option maxHeartbeats 1000000 in
theorem implUnquote_any (b off cap : Nat) (d : List Nat) (w : World) (hd : d.length ≤ 1048576) (hcap : d.length ≤ cap) (hcm : cap ≤ 9223372036854775807) (hT : TextAt w b off d) (hbw : b < w.heap.size) (hb : ∀ x ∈ d, x < 256) :
    Calls Try.prog 9 #[.slice (some ⟨b, off, none⟩) d.length cap] w fun e w' => ∃ v, e = .returned v ∧ OwnB w' w.heap.size v (unquoteOf d) ∧ Below w.heap.size w w' := by
  have hql := unquote_len d
  go_enter Try.func9, Try.ntmps9
  go_wp2_with fail
  refine (fromLines_any (some ⟨b, off, none⟩) cap d w hd hcap hcm (rowAt_of_text hT) hb).mono ?_
  rintro e w1 ⟨v1, rfl, ho1, hb1⟩
  have hgo := unquote_go d
  have hup := ups_all d
  have hfl := froms_len d
  generalize hfs : fromsOf d = fs at ho1 hgo hup hfl
  generalize hRd : unquoteOf d = R at hql hgo
  obtain ⟨a1, c1, rfl⟩ := ho1.slice
  rw [List.length_map] at ho1 ⊢
  have hT1 := hT.below hb1 hbw
  have hQ1 := hide ho1
  have HT1 := hide hT1
  clear hT hT1 hfs
  go_wp2
  go_loopw [3, 4, 6, 10] (fun v t _ i wr => ∃ (k tn : Nat) (acc : List Nat), k ≤ fs.length ∧ i = .int .i64 (k : Int) ∧ t = .int .i64 (tn : Int) ∧ tn ≤ d.length ∧ OwnB wr w1.heap.size v acc ∧ acc ++ uGo d tn (fs.drop k) = R ∧ Ups d.length tn (fs.drop k) ∧ Below w1.heap.size w1 wr) (fun _ _ _ i _ => fs.length - (intOf i).toNat)
  case atStart => exact ⟨0, 0, [], Nat.zero_le _, rfl, rfl, Nat.zero_le _, OwnB.nil _ _, by simpa using hgo, by simpa using hup, Below.refl _ _⟩
  case round =>
    obtain ⟨k, tn, acc, hk, rfl, rfl, htn, ho, hacc, hu, hB⟩ := hrel
    clear hgo hup
    have hal : acc.length ≤ 2 * d.length := by rw [← hacc, List.length_append] at hql; omega
    by_cases hlt : k < fs.length
    · rw [List.drop_eq_getElem_cons hlt] at hacc hu
      obtain ⟨hu1, hu2, hu3⟩ := hu
      simp only [uGo] at hacc
      have hown1 : Own2 wr _ _ _ _ := Own2.below hQ1.out hB (Nat.le_refl _)
      obtain ⟨g1, rfl⟩ : ∃ g1, a1 = some ⟨g1, 0, none⟩ := by
        rcases hown1.2 with ⟨_, hn⟩ | ⟨g, cap', cur, h', _⟩
        · rw [List.length_map] at hn; omega
        · simp only [Value.slice.injEq] at h'; exact ⟨g, h'.1⟩
      obtain ⟨hc0, hc1⟩ := Own2.cells hown1 k (by simpa using hlt)
      simp only [List.getElem_map, frV] at hc0 hc1
      have HA := hide hacc
      have HB := hide hB
      have hsz := hB.size
      have HU3 := hide hu3
      clear hu3 hacc
      generalize hs : fs[k].1 = st at hc0 hu1 hu2 HA HU3
      generalize fs[k].2 = mk at hc1 HA
      have hal1 := (Below.refl wr.heap.size wr).alloc (Nat.le_refl _) (.cells #[.int .i64 (st : Int), .int .i64 (mk : Int)] 45)
      have hh1 := heap_alloc_new wr (.cells #[.int .i64 (st : Int), .int .i64 (mk : Int)] 45)
      have hb2 := hB.alloc hsz (.cells #[.int .i64 (st : Int), .int .i64 (mk : Int)] 45)
      have ho1' := ho.alloc1 (.cells #[.int .i64 (st : Int), .int .i64 (mk : Int)] 45)
      have hvb : ∀ g, u3.ownBlock = some g → w1.heap.size ≤ g ∧ g < wr.heap.size := fun g h => World.ownsRow.lt ho g h
      clear ho hB hown1 hal1
      go_wp2_with fail
      generalize hW2 : wr.alloc (.cells #[.int .i64 (st : Int), .int .i64 (mk : Int)] 45) = wr2 at hh1 hb2 ho1' ⊢
      have hz2 : wr2.heap.size = wr.heap.size + 1 := by rw [← hW2]; simp
      clear hW2
      refine (quoted_any st mk wr2).mono ?_
      rintro e w3 ⟨rfl, hb3⟩
      have hh3 := (hb3.block wr.heap.size (by omega)).trans hh1
      have hcs : w3.cell? ⟨wr.heap.size, 0, none⟩ = some (.int .i64 (st : Int)) := by rw [cell_of_row _ _ _ _ _ _ hh3]; rfl
      have hbb3 := below_trans' hb2 hb3
      have ho3 := ho1'.below hb3 (Nat.le_refl _)
      have hz3 := hb3.size
      by_cases hm : 0 < mk
      · have hmd : decide (0 < mk) = true := decide_eq_true hm
        rw [hmd]
        have hA2 := HA.out
        rw [if_pos hm] at hA2
        have HA2 := hide hA2
        clear hA2 HA
        have hT2 := text_slice (HT1.out.below (hbb3.mono (Nat.le_refl _)) (by have := hb1.size; omega)) tn (st - tn)
        have hsl := slice_len d tn (st - tn) (by omega)
        have hr1 := rowAt_of_text hT2
        have hne : ¬ cap = tn := by omega
        have hi1 : (tn : Int) ≤ (st : Int) := by omega
        have hi2 : (st : Int) ≤ (cap : Int) := by omega
        have hi3 : (tn : Int) ≤ (d.length : Int) := by omega
        clear hT2 hh1 hb2 ho1' hb3
        go_wp2_with (at_builtin; refine wpList_append_at _ rfl (.tmp 16) (.tmp 21) rfl w1.heap.size u3 acc _ (st - tn) hsl rfl ho3 ⟨b, off + tn, none⟩ (cap - tn) rfl hr1 (by omega) (by omega) ?_; intro v5 w5 ho5 hg5; have hh5 := (hg5.block wr.heap.size (by omega) (fun e => by have := (hvb _ e.symm).2; omega)).trans hh3; have hcs5 : w5.cell? ⟨wr.heap.size, 0, none⟩ = some (.int .i64 (st : Int)) := (by rw [cell_of_row _ _ _ _ _ _ hh5]; rfl); have hb5 : Below w1.heap.size w1 w5 := (hbb3.grown hg5 (by omega) (fun g h => (hvb g h).1)))
        go_roundw
        case rel =>
          refine ⟨k + 1, st + 1, _, by omega, by go_num, by go_num, by omega, ho5, ?_, HU3.out, hb5⟩
          rw [← HA2.out]
          simp
        case measure => simp [intOf]; omega
      · have hmd : decide (0 < mk) = false := decide_eq_false hm
        rw [hmd]
        have hA2 := HA.out
        rw [if_neg hm] at hA2
        have HA2 := hide hA2
        have HO3 := hide ho3
        have HB3 := hide hbb3
        clear hA2 HA ho3 hbb3 hh1 hb2 ho1' hb3 hcs hh3
        go_wp2
        go_roundw
        case rel => exact ⟨k + 1, tn, acc, by omega, by go_num, rfl, htn, HO3.out, HA2.out, HU3.out.mono (by omega), HB3.out⟩
        case measure => simp [intOf]; omega
    · obtain rfl : k = fs.length := by omega
      rw [List.drop_length] at hacc
      simp only [uGo] at hacc
      have hsz := hB.size
      have hT2 := HT1.out.below (hB.mono (Nat.le_refl _)) (by have := hb1.size; omega)
      have hT3 := text_slice hT2 tn (d.length - tn)
      have hsl := slice_len d tn (d.length - tn) (by omega)
      have hall : (d.drop tn).take (d.length - tn) = d.drop tn := List.take_of_length_le (Nat.le_of_eq (List.length_drop ..))
      rw [hall] at hT3 hsl
      have hi3 : (tn : Int) ≤ (d.length : Int) := by omega
      have HA := hide hacc
      have hw2 := hb1.trans (hB.mono hb1.size)
      have hfin : ∀ v5 w5, OwnB w5 w1.heap.size v5 (acc ++ d.drop tn) → wr.grownBy w5 u3.ownBlock → OwnB w5 w.heap.size v5 R ∧ Below w.heap.size w w5 := fun v5 w5 h5 hg => by
        rw [HA.out] at h5
        exact ⟨h5.mono hb1.size, hw2.grown hg (by have := hb1.size; omega) (fun g h => by have := (World.ownsRow.lt ho g h).1; have := hb1.size; omega)⟩
      by_cases hne : cap = tn
      · obtain rfl : tn = d.length := by omega
        subst hne
        have hr0 : RowAt wr (some ⟨b, off, none⟩) (d.drop d.length) := fun h => by simp at h
        clear hacc hT2 hT3 hall
        go_wp2_with (at_builtin; refine wpList_append_at _ rfl (.tmp 27) (.tmp 30) rfl w1.heap.size u3 acc (d.drop d.length) 0 (by simp) rfl ho ⟨b, off, none⟩ 0 rfl hr0 (by simp; omega) (by omega) ?_; intro v5 w5 ho5 hg5)
        go_ret
        obtain ⟨q1, q2⟩ := hfin _ _ ho5 hg5
        exact ⟨_, rfl, by rw [hRd]; exact q1, q2⟩
      · have hr0 := rowAt_of_text hT3
        clear hacc hT2 hT3 hall
        go_wp2_with (at_builtin; refine wpList_append_at _ rfl (.tmp 27) (.tmp 30) rfl w1.heap.size u3 acc _ (d.length - tn) hsl rfl ho ⟨b, off + tn, none⟩ (cap - tn) rfl hr0 (by omega) (by omega) ?_; intro v5 w5 ho5 hg5)
        go_ret
        obtain ⟨q1, q2⟩ := hfin _ _ ho5 hg5
        exact ⟨_, rfl, by rw [hRd]; exact q1, q2⟩
end Go.Proofs.Ytokcdpamcbpaiab
