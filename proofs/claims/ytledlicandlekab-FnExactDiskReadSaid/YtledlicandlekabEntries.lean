import Derived.Test.YtledlicandlekabEntMath
namespace Go.Proofs.Ytledlicandlekab
open Go.RowKit Go.Maps
theorem ranges_of_eq {H : Type} {P : Program} {w w' : World} {k : TypeId} {R : Value → Option (DataW H × List MemPlace)} {b r n : Nat} {D : DataW H} {left : Lit → Bool} {cnt : Nat} (h : w.ranges P k R b r n D left cnt) (e1 : w'.heap[b]? = w.heap[b]?) (e2 : w'.heap[r]? = w.heap[r]?) : w'.ranges P k R b r n D left cnt := by
  obtain ⟨es, clock, since, seen, c0, hb, F, hs, hD, hr, rest⟩ := h
  exact ⟨es, clock, since, seen, c0, e1.trans hb, F, hs, hD, e2.trans hr, rest⟩
theorem OwnS.grown {w w' : World} {base r : Nat} {v : Value} {xs : List ByteArray} (h : OwnS w base v xs) (hg : w.grownBy w' (some r)) (hr : r < base) : OwnS w' base v xs := by
  refine ⟨h.1, ?_⟩
  rcases h.2 with h0 | ⟨g, cap, cur, hv, hb, hgg, rest⟩
  · exact .inl h0
  · exact .inr ⟨g, cap, cur, hv, hb, (hg.block g (lt_of_block hgg) (fun e => by simp only [Option.some.injEq] at e; omega)).trans hgg, rest⟩
theorem OwnS.slice {w : World} {base : Nat} {v : Value} {xs : List ByteArray} (h : OwnS w base v xs) : ∃ a cap, v = .slice a xs.length cap := by
  rcases h.2 with ⟨h0, hn⟩ | ⟨g, cap, cur, hv, _⟩
  · exact ⟨none, 0, by rw [hn]; exact h0⟩
  · exact ⟨_, cap, hv⟩
theorem StrAt.below {w w' : World} {a : Option Addr} {xs : List ByteArray} (h : StrAt w a xs) (hb : Below w.heap.size w w') : StrAt w' a xs := fun hp => by
  obtain ⟨b, off, rfl, hc⟩ := h hp
  exact ⟨b, off, rfl, fun i hi => by rw [hb.cell (p := ⟨b, off + i, none⟩) (lt_of_cell0 (hc i hi))]; exact hc i hi⟩
theorem wpList_make_ents0 {ops : Array Oper} {rest : List Oper} {o : Oper} {act : Act} {Q : Exit → Act → World → Prop} (w : World) (hgd : o.guard = none) (s x : Operand)
    (ho : o.op = Op.makeSlice 33 s x) (n : Nat) (hs : act.eval s = .int .i64 0) (hx : act.eval x = .int .i64 (n : Int)) (hlen : n ≤ 1048576)
    (h : ∀ w', OwnE w' w.heap.size (.slice (some ⟨w.heap.size, 0, none⟩) 0 n) [] → Below w.heap.size w w' → wpList Try.prog ops Q rest (act.put o.dst (.slice (some ⟨w.heap.size, 0, none⟩) 0 n)) w') : wpList Try.prog ops Q (o :: rest) act w := by
  obtain ⟨i0, hi, hz0, hz1, hz2⟩ := info_parts Try.infoEntry
  refine wpList_make_own w hgd s x 33 ho w.heap.size 58 i0 (.agg #[.string ByteArray.empty, .int .i64 0]) 2 Try.underlying33 hi hz0 hz1 .i64 .i64 _ n hs hx rfl (by rw [hz2]; omega) (by unfold maxLen; omega) (Nat.le_refl _) ?_
  intro w1 hown hgrow
  exact h w1 hown ((Below.refl _ _).grown hgrow (Nat.le_refl _) (fun k h => by cases h))
set_option maxRecDepth 20000 in
set_option maxHeartbeats 1000000 in
theorem entries_holds : EntriesLaw := by
  intro b1 b2 n es W hn hl hap hso hsz hL
  obtain ⟨D1, D2, hl1, hr⟩ := hL
  have hA := (Below.refl W.heap.size W).alloc (Nat.le_refl _) (.cells #[.map (some b1), .map (some b2)] 80)
  have L0 := Laid.new W #[.map (some b1), .map (some b2)] 80
  have hLA := hl1.below hA hl1.o1.lt hl1.o2.lt
  have hlt1 := hl1.o1.lt
  have hz : (W.alloc (.cells #[.map (some b1), .map (some b2)] 80)).heap.size = W.heap.size + 1 := World.size_alloc ..
  have HLA := hide hLA.o1
  have HA := hide hA
  have HL0 := hide L0
  have HR := hide hr
  have HSO := hide hso
  have HSZ := hide hsz
  clear hA L0 hLA hl1 hr hso hsz hap
  unfold lstV
  go_enter Try.func46, Try.ntmps46
  go_wp2_with (first | (at_range; refine wpList_range_own _ rfl _ 77 rfl 9 3 lawStr Try.underlying77 (plainElem Try.prog 3) b1 n D1 rfl HLA.out ?_; intro w0 hrg0 hg0 hs0) | go_in)
  go_frame
  rw [hz] at hrg0 hs0 ⊢
  have HB0 := hide (HA.out.grown hg0 (by simp) (fun k h => by cases h))
  have HK0 := hide (show Laid w0 W.heap.size #[.map (some b1), .map (some b2)] 80 from (hg0.block W.heap.size (by rw [hz]; omega) (by simp)).trans HL0.out)
  have HRG0 := hide hrg0
  clear hrg0 hg0 HA HL0 HLA
  go_loopw [3, 4] (fun nv _ wr => ∃ (left : Lit → Bool) (cnt : Nat) (xs : List ByteArray) (a : Option Addr) (cap : Nat), wr.ranges Try.prog 9 (plainElem Try.prog 3) b1 (W.heap.size + 1) n D1 left cnt ∧ Come D1 left xs ∧ xs.length + cnt ≤ es.length ∧ nv = .slice a xs.length cap ∧ OwnS wr (W.heap.size + 2) (.slice a xs.length cap) xs ∧ Laid wr W.heap.size #[.map (some b1), .map (some b2)] 80 ∧ Below W.heap.size W wr ∧ W.heap.size + 2 ≤ wr.heap.size) (fun _ _ wr => wr.rangeLeft b1 (W.heap.size + 1))
  case atStart => exact ⟨_, _, [], none, 0, HRG0.out, Come.start D1, by rw [HR.out.sz]; simp, rfl, ⟨rfl, .inl ⟨rfl, rfl⟩⟩, HK0.out, HB0.out, by omega⟩
  case round =>
    obtain ⟨left, cnt, xs, a, cap, hrg, hcome, hcnt, rfl, hown, hlaid, hbel, hbs⟩ := hrel
    clear HRG0 HK0 HB0 hs0
    have HRG := hide hrg
    have HC := hide hcome
    have HO := hide hown
    have HLD := hide hlaid
    have HBL := hide hbel
    clear hrg hcome hown hlaid hbel
    go_wp2_with (first | (at_next; refine wpList_next_ranges_si _ rfl _ rfl 9 3 .i64 lawStr Try.underlying9 Try.underlying3 b1 (W.heap.size + 1) n _ _ _ rfl HRG.out ?_ ?_; intro hc0 hl0; rotate_left; intro x c w1 cnt1 hxs hlx hrg1 hlt hg1 hs1 hen; rotate_right) | (at_make; refine wpList_make_ents0 _ rfl _ _ rfl xs.length rfl rfl (by omega) ?_; intro w3 ho3 hb3) | fail)
    rotate_left
    ·
      have hown1 := HO.out.grown hg1 (by omega)
      have HCM := hide (fun i h1 h2 => HC.out.more (t := x) (i := i) hlx h1 h2)
      have HRG1 := hide hrg1
      have HBL1 := hide (HBL.out.grown hg1 (by omega) (fun k h => by simp only [Option.some.injEq] at h; omega))
      have HLD1 := hide (show Laid w1 W.heap.size #[.map (some b1), .map (some b2)] 80 from (hg1.block W.heap.size (by omega) (by simp)).trans HLD.out)
      refine (insOrd_any insert_holds (W.heap.size + 2) a cap xs x w1 (by omega) (by omega) hown1 HC.out.so).mono ?_
      rintro e w2 ⟨v, i, rfl, hv, hlo, hhi, hb2⟩
      obtain ⟨a2, cap2, rfl⟩ := hv.slice
      have hlen2 : (xs.take i ++ x :: xs.drop i).length = xs.length + 1 := by rw [List.length_append, List.length_cons, List.length_take, List.length_drop]; omega
      have HRG2 := hide (ranges_of_eq HRG1.out (hb2.block b1 (by omega)) (hb2.block (W.heap.size + 1) (by omega)))
      have HLD2 := hide (show Laid w2 W.heap.size #[.map (some b1), .map (some b2)] 80 from (hb2.block W.heap.size (by omega)).trans HLD1.out)
      have HBL2 := hide (HBL1.out.trans (hb2.mono (by omega)))
      have HC2 := hide (HCM.out i hlo hhi)
      have HV := hide hv
      have hbs2 := hb2.size
      clear hv hlo hhi hb2 hown1 hrg1 hg1 hen HCM HO HC HBL1 HLD1 HLD HBL HRG1
      generalize xs.take i ++ x :: xs.drop i = ys at HV HC2 hlen2
      go_wp2
      go_roundw
      case rel => exact ⟨_, cnt1, ys, a2, cap2, HRG2.out, HC2.out, by omega, by rw [hlen2], HV.out, HLD2.out, HBL2.out, by omega⟩
      case measure => rw [HRG2.out.left_eq, HRG.out.left_eq]; omega
    have hxe := HC.out.done hl0 HR.out HSO.out
    have hxl : xs.length = es.length := by rw [hxe, List.length_map]
    have HST := hide HO.out.at
    have HMO := hide HRG.out.owns
    have HALL := hide (fun wv (hb : Below wr.heap.size wr wv) => And.intro (HST.out.below hb) (And.intro (ownsMap_below HMO.out hb HMO.out.lt) (And.intro (HLD.out.below hb (lt_of_block HLD.out)) (HBL.out.trans (hb.mono HBL.out.size)))))
    have HXE := hide hxe
    clear hxe hl0 HO HRG HC HSO hc0 hcnt HST HMO HLD HBL
    rw [hxl] at ho3 ⊢
    have HBS3 := hide hb3.size
    generalize wr.heap.size = B at HALL HBS3 ho3 hb3 hbs ⊢
    go_loopw [5, 7, 23] (fun lv _ i wv => ∃ k : Nat, k ≤ es.length ∧ i = .int .i64 (k : Int) ∧ OwnE wv B lv (es.take k) ∧ B ≤ wv.heap.size ∧ Below B wr wv) (fun _ _ i _ => es.length - (intOf i).toNat)
    case atStart => exact ⟨0, Nat.zero_le _, rfl, by rw [List.take_zero]; exact ho3, HBS3.out, hb3⟩
    case round =>
      obtain ⟨k, hk, rfl, hov, hbz, hbv⟩ := hrel
      clear ho3 hb3
      obtain ⟨hst, hmo, hld, hbw⟩ := HALL.out wr hbv
      by_cases hlt : k < es.length
      · obtain ⟨gb, off, rfl, hc⟩ := hst (by omega)
        have hck := hc k (by omega)
        have hke : xs[k]'(by omega) = es[k].1 := by
          have := HXE.out
          subst this
          simp
        rw [hke] at hck
        have hmem : (es[k].1, es[k].2) ∈ es := List.getElem_mem hlt
        have HAT := hide (HR.out.r1 _ _ hmem).2
        have hsk : es[k].1.size ≤ 1048576 := HSZ.out _ hmem
        have hk2 := keyS es[k].1 (by unfold maxLen; omega)
        have HTK := hide (show es.take (k + 1) = es.take k ++ [(es[k].1, es[k].2)] from List.take_succ_eq_append_getElem hlt)
        have hML := hide hmo
        have qv : wr.cell? ⟨W.heap.size, 0, none⟩ = some (.map (some b1)) := hld.cell 0
        generalize es[k].1 = x0 at hck hk2 HAT hsk HTK hmem
        generalize es[k].2 = x1 at HAT HTK hmem
        have HOV := hide hov
        have HBV := hide hbv
        have HC1 := hide (ent_new wr x0 x1)
        clear hc hke hov hbv hmem hld hst hmo hbw
        go_wp2_with (first
          | (at_lookup; refine wpList_lookup_own_int _ rfl _ _ 77 rfl 9 3 .i64 lawStr Try.underlying77 Try.underlying3 (zeroInt _) b1 n D1 rfl hML.out _ _ rfl hk2 ?_; intro c hat hwc; obtain rfl : x1 = c := by (have h := HAT.out; rw [hat] at h; simp at h; exact h.symm))
          | (at_builtin; refine wpList_append_entry _ rfl (.tmp 27) (.tmp 34) rfl B u5 (es.take k) (x0, x1) wr.heap.size 1 rfl rfl ?_ ?_ ?_ ?_ ?_ ?_; (exact ownE_alloc HOV.out _); (exact HC1.out.1); (exact HC1.out.2); (rw [List.length_take]; omega); (exact Nat.le_trans hbz (by simp)); intro v4 w4 ho4 hg4)
          | go_in)
        exact ⟨⟨k + 1, by omega, by go_num, by rw [HTK.out]; exact ho4, Nat.le_trans hbz (Nat.le_trans (by simp) hg4.size), (HBV.out.alloc hbz _).grown hg4 (Nat.le_trans hbz (by simp)) (fun j hj => (World.ownsRow.lt HOV.out j hj).1)⟩, by simp [intOf]; omega⟩
      · obtain rfl : k = es.length := by omega
        rw [List.take_length] at hov
        have HOV := hide (hov.mono (show W.heap.size ≤ B by omega))
        have HBW := hide hbw
        clear hov hbw hst hmo hld hbv
        go_wp2
        go_ret
        exact ⟨_, rfl, HOV.out, HBW.out⟩
end Go.Proofs.Ytledlicandlekab
