import Derived.Test.YtokcdpamcbpaiabSpecLn
namespace Go.Proofs.Ytokcdpamcbpaiab
open Go.RowKit
theorem q_prefix (d : List Nat) (xs : List (Nat × Nat)) (k : Nat) : ((xs.take k).flatMap (qLine d)).length ≤ (xs.flatMap (qLine d)).length := by
  conv => rhs; rw [← List.take_append_drop k xs]
  rw [List.flatMap_append, List.length_append]
  omega
set_option maxRecDepth 20000 in
set_option maxHeartbeats 1000000 in
theorem specQuote_any (b off cap : Nat) (d : List Nat) (w : World) (hd : d.length ≤ 1048576) (hcap : d.length ≤ cap) (hT : TextAt w b off d) (hbw : b < w.heap.size) (hb : ∀ x ∈ d, x < 256) :
    Calls Try.prog 33 #[.slice (some ⟨b, off, none⟩) d.length cap] w fun e w' => ∃ v, e = .returned v ∧ OwnB w' w.heap.size v (quoteOf d) ∧ Below w.heap.size w w' := by
  have hql := quote_len d
  go_enter Try.func33, Try.ntmps33
  go_wp2_with fail
  refine (l3Lines_any b off cap d w hd hcap hT hbw).mono ?_
  rintro e w1 ⟨v1, rfl, ho1, hb1⟩
  have hcov := spans_le d (cover_all d)
  have hsl : (spansOf d).length ≤ d.length := spansF_len _ _ _
  have hq : quoteOf d = (spansOf d).flatMap (qLine d) := rfl
  have hpre := fun k => q_prefix d (spansOf d) k
  rw [← hq] at hpre
  generalize spansOf d = xs at ho1 hcov hsl hq hpre
  obtain ⟨a1, c1, rfl⟩ := row_sl ho1
  have HO1 := hide ho1
  have HT1 := hide (hT.below hb1 hbw)
  clear ho1 hT
  go_wp2
  go_loopw [3, 5, 9] (fun v _ i wr => ∃ k : Nat, k ≤ xs.length ∧ i = .int .i64 (k : Int) ∧ OwnB wr w1.heap.size v ((xs.take k).flatMap (qLine d)) ∧ Below w1.heap.size w1 wr) (fun _ _ i _ => xs.length - (intOf i).toNat)
  case atStart => exact ⟨0, Nat.zero_le _, rfl, by simpa using OwnB.nil _ _, Below.refl _ _⟩
  case round =>
    obtain ⟨k, hk, rfl, ho, hB⟩ := hrel
    by_cases hlt : k < xs.length
    · have hrow := own1_below HO1.out hB (Nat.le_refl _)
      obtain ⟨g1, rfl, hc⟩ := cell_row1 (k := k) hrow (List.getElem?_eq_getElem (by simpa using hlt)) (by omega)
      have hx := hcov xs[k] (List.getElem_mem hlt)
      have hTS := hide (List.take_succ_eq_append_getElem hlt)
      have hlen := hide (hpre k)
      rw [List.getElem_map] at hc
      generalize xs[k] = x at hx hTS hc
      simp only [lnV] at hc
      have hsz := hB.size
      have hTr := HT1.out.below (hB.mono (Nat.le_refl _)) (by have := hb1.size; omega)
      have hTx : TextAt wr b (off + x.1) (pieceOf d x) := piece_cells (fun _ => hTr) x hx
      have hpl := piece_len d x hx
      have hbp : ∀ y ∈ pieceOf d x, y < 256 := fun y hy => hb y (mem_piece hy)
      have hge := marksV_ge (pieceOf d x)
      have hM := hide (l3Marks_n b (off + x.1) (cap - x.1) x.2 (pieceOf d x) wr hpl (by omega) (by omega) hTx hbp)
      generalize hmv : marksV (pieceOf d x) = mv at hge hM
      have HO := hide ho
      have HB := hide hB
      clear ho hB hTr hrow hmv
      go_wp2_with fail
      refine (hM.out).mono ?_
      rintro e w2 ⟨rfl, rfl⟩
      by_cases hf : isFrom (pieceOf d x) = true
      · have h0 : (0 : Int) ≤ mv := hge.2 hf
        have hql' : qLine d x = 62 :: pieceOf d x := by unfold qLine; rw [if_pos hf]
        have hrow := row_one w2 62
        have ho2 := HO.out.alloc1 (.cells #[.int .u8 62] 5)
        have hr2 := (rowAt_of_text hTx).below ((Below.refl w2.heap.size w2).alloc (Nat.le_refl _) (.cells #[.int .u8 62] 5))
        have hLB := World.ownsRow.lt HO.out
        clear hTx hge
        go_wp2_with (first
          | (at_builtin; refine wpList_append_at _ rfl (.tmp 16) (.tmp 17) rfl w1.heap.size u3 _ [62] 1 rfl rfl ho2 ⟨w2.heap.size, 0, none⟩ 1 rfl hrow (by have := hlen.out; simp only [List.length_cons, List.length_nil]; omega) (by simp; omega) ?_; intro v5 w5 ho5 hg5; have hs5 := hg5.size; have hb5 := (HB.out.alloc hsz (.cells #[.int .u8 62] 5)).grown hg5 (by simp; omega) (fun g h => (hLB g h).1); have hr5 : RowAt w5 (some ⟨b, off + x.1, none⟩) (pieceOf d x) := (rowAt_of_text (piece_cells (fun _ => HT1.out.below (hb5.mono (Nat.le_refl _)) (by have := hb1.size; omega)) x hx)))
          | (at_builtin; refine wpList_append_at _ rfl (.tmp 19) (.tmp 20) rfl w1.heap.size v5 _ (pieceOf d x) x.2 hpl rfl ho5 ⟨b, off + x.1, none⟩ (cap - x.1) rfl hr5 (by have := hlen.out; rw [List.length_append]; simp only [List.length_cons, List.length_nil]; omega) (by simp at hs5; omega) ?_; intro v6 w6 ho6 hg6))
        have hb6 := hb5.grown hg6 (by simp at hs5; omega) (fun g h => (World.ownsRow.lt ho5 g h).1)
        go_roundw
        case rel =>
          refine ⟨k + 1, by omega, by go_num, ?_, hb6⟩
          rw [hTS.out, List.flatMap_append]
          simp only [List.flatMap_cons, List.flatMap_nil, List.append_nil, hql']
          simpa using ho6
        case measure => simp [intOf]; omega
      · have h0 : ¬ (0 : Int) ≤ mv := fun h => hf (hge.1 h)
        have hql' : qLine d x = pieceOf d x := by unfold qLine; rw [if_neg hf]
        have hr2 := rowAt_of_text hTx
        have ho2 := HO.out
        have hLB := World.ownsRow.lt HO.out
        clear hTx hge
        go_wp2_with (at_builtin; refine wpList_append_at _ rfl (.tmp 19) (.tmp 20) rfl w1.heap.size u3 _ (pieceOf d x) x.2 hpl rfl ho2 ⟨b, off + x.1, none⟩ (cap - x.1) rfl hr2 (by have := hlen.out; omega) (by omega) ?_; intro v6 w6 ho6 hg6)
        have hb6 := HB.out.grown hg6 (by omega) (fun g h => (hLB g h).1)
        go_roundw
        case rel =>
          refine ⟨k + 1, by omega, by go_num, ?_, hb6⟩
          rw [hTS.out, List.flatMap_append]
          simp only [List.flatMap_cons, List.flatMap_nil, List.append_nil, hql']
          exact ho6
        case measure => simp [intOf]; omega
    · obtain rfl : k = xs.length := by omega
      rw [List.take_length, ← hq] at ho
      have HO := hide ho
      clear ho
      go_wp2
      go_ret
      exact ⟨_, rfl, HO.out.mono hb1.size, hb1.trans (hB.mono hb1.size)⟩
end Go.Proofs.Ytokcdpamcbpaiab
