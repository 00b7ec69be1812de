import Derived.Test.YtledlicandlekabOrderMath
namespace Go.Proofs.Ytledlicandlekab
open Go.RowKit Go.Maps
theorem lawInt : Keyed Try.prog 3 := int_keyed Try.underlying3
theorem zeroUnit (w : World) : (zeroValue 113).run Try.prog w = .ok (.agg #[]) w := by kernel_rfl
theorem okList_more {nodes : Int} {es : List (ByteArray × Int)} {k : Nat} (h : ∀ i (h : i < es.length), i < k → okEnt nodes es[i] = true ∧ ∀ k (hk : k < i), apart es[k] es[i] = true) (hk : k < es.length) (he : okEnt nodes es[k] = true)
    (hl : ∀ h : 0 < k, Op.bytesLess es[k - 1].1.toList es[k].1.toList = true) (hs : Maps.has (nodesSet es k) (.int .i64 es[k].2) = false) :
    ∀ i (h : i < es.length), i < k + 1 → okEnt nodes es[i] = true ∧ ∀ k (hk : k < i), apart es[k] es[i] = true := fun i hi hik => by
  by_cases e : i = k
  · subst e
    refine ⟨he, fun j hj => decide_eq_true ⟨?_, has_nodes_false hs j (by omega) hj⟩⟩
    have h1 := hl (by omega)
    by_cases ej : j = i - 1
    · subst ej; exact h1
    · have h2 := (h (i - 1) (by omega) (by omega)).2 j (by omega)
      exact less_trans _ _ _ (of_decide_eq_true h2).1 h1
  · exact h i hi (by omega)
set_option maxHeartbeats 1000000 in
set_option maxRecDepth 20000 in
theorem inOrder_any (a : Option Addr) (cap : Nat) (es : List (ByteArray × Int)) (nodes : Int) (w : World) (hn : es.length ≤ 9223372036854775807) (hnd : nodes ≤ 1048576) (hes : ∀ e ∈ es, e.1.size ≤ 9223372036854775807) (hr : EntAt w a es) :
    Calls Try.prog 61 #[.slice a es.length cap, .int .i64 nodes] w fun e w' => e = .returned (.bool (okList nodes es)) ∧ Below w.heap.size w w' := by
  by_cases h6 : 300 < es.length
  · have hf : okList nodes es = false := decide_eq_false fun h => by omega
    rw [hf]
    go_enter Try.func61, Try.ntmps61
    go_wp2
    go_ret
    exact ⟨rfl, Below.refl _ _⟩
  have hmm := @run_makeMap Try.prog
  go_enter Try.func61, Try.ntmps61
  go_wp2
  clear hmm
  go_loopw [16] (fun i wr => ∃ k : Nat, k ≤ es.length ∧ i = .int .i64 k ∧ (∀ i (h : i < es.length), i < k → okEnt nodes es[i] = true ∧ ∀ k (hk : k < i), apart es[k] es[i] = true) ∧ wr.ownsMap Try.prog 3 unitElem w.heap.size k (nodesSet es k) ∧ Below w.heap.size w wr) (fun i _ => es.length - (intOf i).toNat)
  case atStart => exact ⟨0, Nat.zero_le _, rfl, fun i _ h => by omega, by rw [nodesSet_zero]; exact World.ownsMap_made _ _ _ _, (Below.refl _ _).alloc (Nat.le_refl _) _⟩
  case round =>
    obtain ⟨k, hk, rfl, hok, hown, hnx⟩ := hrel
    have HK := hide hok
    have HR := hide hr
    have HNX := hide hnx
    have HOW := hide hown
    clear hok
    by_cases hlt : k < es.length
    · obtain ⟨b, off, rfl, hc⟩ := (hr.below hnx) (by omega)
      obtain ⟨hc0, hc1⟩ := hc k hlt
      have hkl := hes _ (List.getElem_mem hlt)
      have HN := hide (hnx.alloc hnx.size (.cells #[.string es[k].1, .int .i64 es[k].2] 58))
      have HL := hide (Laid.new wr #[.string es[k].1, .int .i64 es[k].2] 58)
      have HNO := hide (okList_no1 (nodes := nodes) hlt)
      have HOK := hide (show okEnt nodes es[k] = decide (okName es[k].1 = true ∧ 0 ≤ es[k].2 ∧ es[k].2 < nodes) from rfl)
      have HOW2 := hide (hown.alloc (.cells #[.string es[k].1, .int .i64 es[k].2] 58))
      clear hc hr hnx hes hown HOW
      generalize hnm : es[k].1 = nm at hc0 HN HL HOK hkl HOW2
      generalize hnd' : es[k].2 = nd at hc1 HN HL HOK HOW2
      have HNM := hide hnm
      have HND := hide hnd'
      clear hnm hnd'
      by_cases g1 : okName nm = true
      · go_wp2_with fail
        refine (goodName_any nm _ hkl).mono ?_
        rintro e w2 ⟨rfl, hb⟩
        rw [g1]
        have HG1 := hide g1
        have HN2 := hide (HN.out.trans (hb.mono HN.out.size))
        have HL2 := hide (HL.out.below hb HL.out.lt)
        have HOW3 := hide (ownsMap_below HOW2.out hb HOW2.out.lt)
        clear g1 hc0 hc1 hb HN HL HOW2
        have q0 : w2.cell? ⟨wr.heap.size, 0, none⟩ = some (.string nm) := by rw [HL2.out.cell]; rfl
        have q1 : w2.cell? ⟨wr.heap.size, 1, none⟩ = some (.int .i64 nd) := by rw [HL2.out.cell]; rfl
        by_cases g2 : nd < 0
        · go_wp2
          go_ret
          exact ⟨ret_bool (HNO.out (by rw [HOK.out]; exact decide_eq_false fun h => by omega)).symm, HN2.out⟩
        by_cases g3 : nodes ≤ nd
        · go_wp2
          go_ret
          exact ⟨ret_bool (HNO.out (by rw [HOK.out]; exact decide_eq_false fun h => by omega)).symm, HN2.out⟩
        have hwf : (Lit.int .i64 nd).wf = true := WalkArith.wf_i64 (by omega)
        have hkey : keyOf Try.prog 3 (.int .i64 nd) = some (.int .i64 nd) := keyOf_int_mk Try.underlying3 hwf
        have HE := hide (show okEnt nodes es[k] = true from by rw [HOK.out]; exact decide_eq_true ⟨HG1.out, by omega, by omega⟩)
        have hBlt := HL2.out.lt
        generalize wr.heap.size = B at q0 q1 hBlt ⊢
        have q2 : ∀ (n : Nat) (o : Obj), ((w2.drewN n).alloc o).cell? ⟨B, 1, none⟩ = some (.int .i64 nd) := fun n o => by
          rw [((Below.refl (w2.drewN n).heap.size (w2.drewN n)).alloc (Nat.le_refl _) o).cell (p := ⟨B, 1, none⟩) hBlt]; exact q1
        clear HNX HNO HOK HL2 hwf hkl
        have hownd : ∀ n, (w2.drewN n).ownsMap Try.prog 3 (unitElem (H := Unit)) w.heap.size k (nodesSet es k) := fun _ => HOW3.out
        have HST := hide (fun (hl : ∀ h : 0 < k, Op.bytesLess es[k - 1].1.toList es[k].1.toList = true) (hs : Maps.has (nodesSet es k) (.int .i64 es[k].2) = false) => okList_more HK.out hlt HE.out hl hs)
        cases k with
        | zero =>
          have hh : Maps.has (nodesSet es 0) (.int .i64 nd) = false := rfl
          have HH := hide hh
          go_wp2
          go_quiet (fail)
          go_wp2_with (first
            | (at_lookup; refine wpList_lookup_own_unit _ rfl _ _ 78 rfl 3 113 lawInt Try.underlying78 (zeroUnit _) w.heap.size (0) _ rfl (hownd _) _ _ rfl hkey ?_)
            | (at_mapUpdate; refine wpList_mapUpdate_own _ rfl _ _ _ 78 rfl 3 113 lawInt Try.underlying78 (unitElem (H := Unit)) w.heap.size (0) _ rfl ((hownd _).alloc _) (by unfold maxLen; omega) _ _ _ rfl rfl hkey _ [] unitElem_mk ?_; intro w3 hown3 hgrow3)
            | go_in)
          refine ⟨⟨0 + 1, by omega, by go_num, HST.out (fun h => by omega) (by rw [HND.out]; exact HH.out), ?_, ?_⟩, by simp [intOf]; omega⟩
          · rw [nodesSet_succ es (0) hlt, HND.out]; exact hown3
          · exact ((below_drewN HN2.out nq).alloc HN2.out.size _).grown hgrow3 (Nat.le_trans HN2.out.size (by simp)) (fun j hj => by cases hj; exact Nat.le_refl _)
        | succ j =>
          obtain ⟨b', off', hb', hcm⟩ := (HR.out.below HN2.out) (by omega)
          simp only [Option.some.injEq, Addr.mk.injEq, and_true] at hb'
          obtain ⟨rfl, rfl⟩ := hb'
          obtain ⟨hx0, hx1⟩ := hcm j (by omega)
          have HNO2 := hide (fun (i : Nat) (hi : i < j + 1) => okList_no2 (nodes := nodes) hlt hi)
          have HLS := hide (fun (h : Op.bytesLess es[j].1.toList nm.toList = true) => (fun _ => by rw [HNM.out]; exact h : ∀ h : 0 < j + 1, Op.bytesLess es[j + 1 - 1].1.toList es[j + 1].1.toList = true))
          have HAP := hide (fun (h : Op.bytesLess es[j].1.toList nm.toList = false) => HNO2.out j (by omega) (decide_eq_false fun h' => by have h2 := h'.1; rw [HNM.out, h] at h2; simp at h2))
          clear hcm
          generalize es[j].1 = xm at hx0 HLS HAP
          generalize es[j].2 = xd at hx1
          by_cases hb1 : Op.bytesLess xm.toList nm.toList = true
          · have HLS2 := hide (HLS.out hb1)
            clear HLS HAP
            by_cases hh : Maps.has (nodesSet es (j + 1)) (.int .i64 nd) = true
            · have HBAD : Hid (okList nodes es = false) := by
                obtain ⟨i, hi, hik, he⟩ := has_nodes_true hh
                exact HNO2.out i hik (decide_eq_false fun h' => h'.2 (by rw [he, HND.out]))
              clear HNO2
              go_wp2
              go_quiet (fail)
              go_wp2_with (first
                | (at_lookup; refine wpList_lookup_own_unit _ rfl _ _ 78 rfl 3 113 lawInt Try.underlying78 (zeroUnit _) w.heap.size (j + 1) _ rfl (hownd _) _ _ rfl hkey ?_)
                | (at_mapUpdate; refine wpList_mapUpdate_own _ rfl _ _ _ 78 rfl 3 113 lawInt Try.underlying78 (unitElem (H := Unit)) w.heap.size (j + 1) _ rfl ((hownd _).alloc _) (by unfold maxLen; omega) _ _ _ rfl rfl hkey _ [] unitElem_mk ?_; intro w3 hown3 hgrow3)
                | go_in)
              go_ret
              exact ⟨ret_bool HBAD.out.symm, (below_drewN HN2.out _).alloc HN2.out.size _⟩
            · have hh' : Maps.has (nodesSet es (j + 1)) (.int .i64 nd) = false := by simpa using hh
              have HH := hide hh'
              clear hh HNO2
              go_wp2
              go_quiet (fail)
              go_wp2_with (first
                | (at_lookup; refine wpList_lookup_own_unit _ rfl _ _ 78 rfl 3 113 lawInt Try.underlying78 (zeroUnit _) w.heap.size (j + 1) _ rfl (hownd _) _ _ rfl hkey ?_)
                | (at_mapUpdate; refine wpList_mapUpdate_own _ rfl _ _ _ 78 rfl 3 113 lawInt Try.underlying78 (unitElem (H := Unit)) w.heap.size (j + 1) _ rfl ((hownd _).alloc _) (by unfold maxLen; omega) _ _ _ rfl rfl hkey _ [] unitElem_mk ?_; intro w3 hown3 hgrow3)
                | go_in)
              refine ⟨⟨j + 1 + 1, by omega, by go_num, HST.out HLS2.out (by rw [HND.out]; exact HH.out), ?_, ?_⟩, by simp [intOf]; omega⟩
              · rw [nodesSet_succ es (j + 1) hlt, HND.out]; exact hown3
              · exact ((below_drewN HN2.out nq).alloc HN2.out.size _).grown hgrow3 (Nat.le_trans HN2.out.size (by simp)) (fun j hj => by cases hj; exact Nat.le_refl _)
          · have hb2 : Op.bytesLess xm.toList nm.toList = false := by simpa using hb1
            have HBAD := hide (HAP.out hb2)
            clear hb1 HLS HAP HNO2
            go_wp2
            go_quiet (fail)
            go_wp2
            go_ret
            exact ⟨ret_bool HBAD.out.symm, below_drewN HN2.out _⟩
      · have g1' : okName nm = false := by simpa using g1
        go_wp2_with fail
        refine (goodName_any nm _ hkl).mono ?_
        rintro e w2 ⟨rfl, hb⟩
        rw [g1']
        have HN2 := hide (HN.out.trans (hb.mono HN.out.size))
        clear hc0 hc1 hb HN HL HOW2
        go_wp2
        go_ret
        exact ⟨ret_bool (HNO.out (by rw [HOK.out]; exact decide_eq_false fun h => g1 h.1)).symm, HN2.out⟩
    · have hf : okList nodes es = true := decide_eq_true ⟨by omega, fun i h => HK.out i h (by omega)⟩
      have HF := hide hf
      clear hf
      go_wp2
      go_ret
      exact ⟨ret_bool HF.out.symm, HNX.out⟩
end Go.Proofs.Ytledlicandlekab
