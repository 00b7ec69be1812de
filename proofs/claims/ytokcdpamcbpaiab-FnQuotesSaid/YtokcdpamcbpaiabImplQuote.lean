import Derived.Test.YtokcdpamcbpaiabAppAt
namespace Go.Proofs.Ytokcdpamcbpaiab
open Go.RowKit
set_option maxRecDepth 20000 in
set_option maxHeartbeats 1000000 in
theorem implQuote_any (b off cap : Nat) (d : List Nat) (w : World) (hd : d.length ≤ 1048576) (hcap : d.length ≤ cap) (hcm : cap ≤ 9223372036854775807) (hT : TextAt w b off d) (hbw : b < w.heap.size) (hb : ∀ x ∈ d, x < 256) :
    Calls Try.prog 15 #[.slice (some ⟨b, off, none⟩) d.length cap] w fun e w' => ∃ v, e = .returned v ∧ OwnB w' w.heap.size v (quoteOf d) ∧ Below w.heap.size w w' := by
  have hql := quote_len d
  go_enter Try.func15, Try.ntmps15
  go_wp2_with fail
  refine (fromLines_any (some ⟨b, off, none⟩) cap d w hd hcap hcm (rowAt_of_text hT) hb).mono ?_
  rintro e w1 ⟨v1, rfl, ho1, hb1⟩
  have hgo := quote_go d
  have hup := ups_all d
  have hfl := froms_len d
  generalize hfs : fromsOf d = fs at ho1 hgo hup hfl
  generalize hRd : quoteOf d = R at hql hgo
  obtain ⟨a1, c1, rfl⟩ := ho1.slice
  rw [List.length_map] at ho1 ⊢
  have hT1 := hT.below hb1 hbw
  have hQ1 := hide ho1
  have HT1 := hide hT1
  clear hT hT1 hfs
  go_wp2
  go_loopw [3, 4, 6, 10] (fun v t _ i wr => ∃ (k tn : Nat) (acc : List Nat), k ≤ fs.length ∧ i = .int .i64 (k : Int) ∧ t = .int .i64 (tn : Int) ∧ tn ≤ d.length ∧ OwnB wr w1.heap.size v acc ∧ acc ++ qGo d tn (fs.drop k) = R ∧ Ups d.length tn (fs.drop k) ∧ Below w1.heap.size w1 wr) (fun _ _ _ i _ => fs.length - (intOf i).toNat)
  case atStart => exact ⟨0, 0, [], Nat.zero_le _, rfl, rfl, Nat.zero_le _, OwnB.nil _ _, by simpa using hgo, by simpa using hup, Below.refl _ _⟩
  case round =>
    obtain ⟨k, tn, acc, hk, rfl, rfl, htn, ho, hacc, hu, hB⟩ := hrel
    clear hgo hup
    have hal : acc.length ≤ 2 * d.length := by rw [← hacc, List.length_append] at hql; omega
    by_cases hlt : k < fs.length
    · rw [List.drop_eq_getElem_cons hlt] at hacc hu
      obtain ⟨hu1, hu2, hu3⟩ := hu
      simp only [qGo] at hacc
      have hown1 : Own2 wr _ _ _ _ := Own2.below hQ1.out hB (Nat.le_refl _)
      obtain ⟨g1, rfl⟩ : ∃ g1, a1 = some ⟨g1, 0, none⟩ := by
        rcases hown1.2 with ⟨_, hn⟩ | ⟨g, cap', cur, h', _⟩
        · rw [List.length_map] at hn; omega
        · simp only [Value.slice.injEq] at h'; exact ⟨g, h'.1⟩
      obtain ⟨hc0, hc1⟩ := Own2.cells hown1 k (by simpa using hlt)
      simp only [List.getElem_map, frV] at hc0 hc1
      have HU := hide (hu3.mono (Nat.le_succ _))
      have HA := hide hacc
      have HB := hide hB
      have hsz := hB.size
      generalize hs : fs[k].1 = st at hc0 hu1 hu2 HA HU
      generalize fs[k].2 = mk at hc1
      have hT2 := text_slice (HT1.out.below (hB.mono (Nat.le_refl _)) (by have := hb1.size; omega)) tn (st - tn)
      have hsl := slice_len d tn (st - tn) (by omega)
      have hal1 := (Below.refl wr.heap.size wr).alloc (Nat.le_refl _) (.cells #[.int .i64 (st : Int), .int .i64 (mk : Int)] 45)
      have hr1 := (rowAt_of_text hT2).below hal1
      have ho1' := ho.alloc1 (.cells #[.int .i64 (st : Int), .int .i64 (mk : Int)] 45)
      have hcs : (wr.alloc (.cells #[.int .i64 (st : Int), .int .i64 (mk : Int)] 45)).cell? ⟨wr.heap.size, 0, none⟩ = some (.int .i64 (st : Int)) := by rw [cell_of_row _ _ _ _ _ _ (heap_alloc_new wr _)]; rfl
      have hne : ¬ cap = tn := by omega
      have hi1 : (tn : Int) ≤ (st : Int) := by omega
      have hi2 : (st : Int) ≤ (cap : Int) := by omega
      have hi3 : (tn : Int) ≤ (d.length : Int) := by omega
      have hvb : ∀ g, u3.ownBlock = some g → w1.heap.size ≤ g ∧ g < wr.heap.size := fun g h => World.ownsRow.lt ho g h
      clear hacc hu3 hB hown1 hT2 ho
      go_wp2_with (first
        | (at_builtin; refine wpList_append_at _ rfl (.tmp 14) (.tmp 19) rfl w1.heap.size u3 acc _ (st - tn) hsl rfl ho1' ⟨b, off + tn, none⟩ (cap - tn) rfl hr1 (by omega) (by simp; omega) ?_; intro v5 w5 ho5 hg5; have hh5 := (hg5.block wr.heap.size (by simp) (fun e => by have := (hvb _ e.symm).2; omega)).trans (heap_alloc_new wr _); have hrow := row_one w5 62; have ho5' := ho5.alloc1 (.cells #[.int .u8 62] 5); have hs5 := hg5.size)
        | (at_builtin; refine wpList_append_at _ rfl (.tmp 21) (.tmp 22) rfl w1.heap.size v5 _ [62] 1 rfl rfl ho5' ⟨w5.heap.size, 0, none⟩ 1 rfl hrow (by rw [List.length_append]; simp; omega) (by simp at hs5 ⊢; omega) ?_; intro v6 w6 ho6 hg6; have hh6 := (hg6.block wr.heap.size (by simp at hs5 ⊢; omega) (fun e => Lib.ownBlock_ne ho5 hh5 (by decide) e.symm)).trans ((Below.heap_alloc w5 _ wr.heap.size (by simp at hs5; omega)).trans hh5); have hcs6 : w6.cell? ⟨wr.heap.size, 0, none⟩ = some (.int .i64 (st : Int)) := (by rw [cell_of_row _ _ _ _ _ _ hh6]; rfl); have hb5 : Below w1.heap.size w1 w5 := ((HB.out.alloc hsz (.cells #[.int .i64 (st : Int), .int .i64 (mk : Int)] 45)).grown hg5 (by simp; omega) (fun g h => (hvb g h).1)); have hb6 : Below w1.heap.size w1 w6 := ((hb5.alloc (by simp at hs5; omega) (.cells #[.int .u8 62] 5)).grown hg6 (by simp at hs5 ⊢; omega) (fun g h => (World.ownsRow.lt ho5 g h).1))))
      go_roundw
      case rel =>
        refine ⟨k + 1, st, _, by omega, by go_num, rfl, by omega, ho6, ?_, HU.out, hb6⟩
        rw [← HA.out]
        simp
      case measure => simp [intOf]; omega
    · obtain rfl : k = fs.length := by omega
      rw [List.drop_length] at hacc
      simp only [qGo] at hacc
      have hsz := hB.size
      have hT2 := HT1.out.below (hB.mono (Nat.le_refl _)) (by have := hb1.size; omega)
      have hT3 := text_slice hT2 tn (d.length - tn)
      have hsl := slice_len d tn (d.length - tn) (by omega)
      have hall : (d.drop tn).take (d.length - tn) = d.drop tn := List.take_of_length_le (Nat.le_of_eq (List.length_drop ..))
      rw [hall] at hT3 hsl
      have hi3 : (tn : Int) ≤ (d.length : Int) := by omega
      have HA := hide hacc
      have hw2 := hb1.trans (hB.mono hb1.size)
      have hfin : ∀ v5 w5, OwnB w5 w1.heap.size v5 (acc ++ d.drop tn) → wr.grownBy w5 u3.ownBlock → OwnB w5 w.heap.size v5 R ∧ Below w.heap.size w w5 := fun v5 w5 h5 hg => by
        rw [HA.out] at h5
        exact ⟨h5.mono hb1.size, hw2.grown hg (by have := hb1.size; omega) (fun g h => by have := (World.ownsRow.lt ho g h).1; have := hb1.size; omega)⟩
      by_cases hne : cap = tn
      · obtain rfl : tn = d.length := by omega
        subst hne
        have hr0 : RowAt wr (some ⟨b, off, none⟩) (d.drop d.length) := fun h => by simp at h
        clear hacc hT2 hT3 hall
        go_wp2_with (at_builtin; refine wpList_append_at _ rfl (.tmp 27) (.tmp 30) rfl w1.heap.size u3 acc (d.drop d.length) 0 (by simp) rfl ho ⟨b, off, none⟩ 0 rfl hr0 (by simp; omega) (by omega) ?_; intro v5 w5 ho5 hg5)
        go_ret
        obtain ⟨q1, q2⟩ := hfin _ _ ho5 hg5
        exact ⟨_, rfl, by rw [hRd]; exact q1, q2⟩
      · have hr0 := rowAt_of_text hT3
        clear hacc hT2 hT3 hall
        go_wp2_with (at_builtin; refine wpList_append_at _ rfl (.tmp 27) (.tmp 30) rfl w1.heap.size u3 acc _ (d.length - tn) hsl rfl ho ⟨b, off + tn, none⟩ (cap - tn) rfl hr0 (by omega) (by omega) ?_; intro v5 w5 ho5 hg5)
        go_ret
        obtain ⟨q1, q2⟩ := hfin _ _ ho5 hg5
        exact ⟨_, rfl, by rw [hRd]; exact q1, q2⟩
end Go.Proofs.Ytokcdpamcbpaiab
