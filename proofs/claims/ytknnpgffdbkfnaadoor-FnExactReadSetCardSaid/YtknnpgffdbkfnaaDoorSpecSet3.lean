import Derived.Test.YtknnpgffdbkfnaaDoorSpecSet2
namespace Go.Proofs.YtknnpgffdbkfnaaDoor
open Go.RowKit
set_option maxRecDepth 20000 in
set_option maxHeartbeats 1000000 in
theorem specSet_any (s : ByteArray) (w : World) (hs : s.size ≤ 1048576) :
    Calls Tryd.prog 15 #[.string s] w (SetPost s.data.toList w) := by
  have hsl : s.data.toList.length = s.size := rfl
  have hx0 := blkQ_new w (.bool false) (.slice none 0 0)
  have hb0 := (Below.refl w.heap.size w).alloc (Nat.le_refl _) (.cells #[.bool false, .slice none 0 0] 39)
  by_cases hbig : 1100 < s.size
  · have hi : (1100 : Int) < (s.size : Int) := by omega
    have HN := hide (setOf_long (t := s.data.toList) (by omega))
    have HX := hide hx0
    have HB := hide hb0
    have p0 := hx0.c0
    have p1 := hx0.c1
    have f0 := hx0.fz 0
    have f1 := hx0.fz 1
    clear hx0 hb0
    go_enter Tryd.func15, Tryd.ntmps15
    go_wp2
    exact bodyPost_ret (ret_set w.heap.size _ _ _ rfl rfl HX.out) rfl (set_no HN.out HB.out)
  · have hi : ¬ (1100 : Int) < (s.size : Int) := by omega
    have hx1 := hx0.alloc (.cells #[.bool true, .slice none 0 0] 39)
    have hz1 : (w.alloc (.cells #[.bool false, .slice none 0 0] 39)).heap.size = w.heap.size + 1 := World.size_alloc ..
    have hy1 := blkQ_new (w.alloc (.cells #[.bool false, .slice none 0 0] 39)) (.bool true) (.slice none 0 0)
    have hb1 := hb0.alloc (by omega) (.cells #[.bool true, .slice none 0 0] 39)
    rw [hz1] at hy1
    have hz2 : ((w.alloc (.cells #[.bool false, .slice none 0 0] 39)).alloc (.cells #[.bool true, .slice none 0 0] 39)).heap.size = w.heap.size + 2 := by rw [World.size_alloc, hz1]
    clear hx0 hb0 hz1
    go_enter Tryd.func15, Tryd.ntmps15
    go_wp2_with fail
    generalize (w.alloc (.cells #[.bool false, .slice none 0 0] 39)).alloc (.cells #[.bool true, .slice none 0 0] 39) = W1 at hx1 hy1 hb1 hz2 ⊢
    refine (l6Split_any s 44 W1 (by omega)).mono ?_
    rintro e W2 ⟨v2, ws, rfl, ho2, hws, hb2⟩
    have hne : splitOf 44 s.data.toList ≠ [] := splitOf_ne _ _
    have hwl : ws.length ≤ 1101 := by
      have h1 := congrArg List.length hws
      rw [List.length_map] at h1
      have h2 := splitOf_len 44 s.data.toList
      omega
    have hwsz : ∀ y ∈ ws, y.size ≤ 1100 := fun y hy => by
      have hm : y.data.toList ∈ splitOf 44 s.data.toList := by rw [← hws]; exact List.mem_map.2 ⟨y, hy, rfl⟩
      have h1 := splitOf_mem hm
      have h2 : y.data.toList.length = y.size := rfl
      omega
    rcases ho2.at with ⟨_, h0⟩ | ⟨g3, cap, rfl, hg3, hgb, _, hcells⟩
    · exact absurd (by rw [← hws, h0]; rfl) hne
    · have hS0 : SSL w W2 W2.heap.size g3 ws (.slice none 0 0) [] :=
        ⟨hx1.below hb2 (by omega), hy1.below hb2 (by omega), fun j hj => by have h := hcells j ws[j] (List.getElem?_eq_getElem hj); rw [Nat.zero_add] at h; exact h, by omega, hg3, OwnP.nil _ _, hb1.trans (hb2.mono hb1.size), Nat.le_refl _⟩
      have HS0 := hide hS0
      have HWS := hide hws
      have HWZ := hide hwsz
      clear hS0 hws hwsz hcells hx1 hy1 hb1 hb2 hz2 ho2 hne
      have hlen : (splitOf 44 s.data.toList).length = ws.length := by rw [← HWS.out, List.length_map]
      have HAT := hide (show ∀ k (h : k < ws.length), (splitOf 44 s.data.toList)[k]'(by omega) = ws[k].data.toList from fun k h => by simp only [← HWS.out, List.getElem_map])
      generalize W2.heap.size = lo2 at HS0 ⊢
      go_wp2
      go_loopw [5, 6, 7, 8, 9, 10, 19] (fun _ _ _ _ _ _ i wr => ∃ (k : Nat) (v : Value), k ≤ ws.length ∧ i = .int .i64 (k : Int) ∧ (∀ x ∈ (splitOf 44 s.data.toList).take k, isPr x = true) ∧ SSL w wr lo2 g3 ws v (((splitOf 44 s.data.toList).take k).map fun x => prI (prV x))) (fun _ _ _ _ _ _ i _ => ws.length - (intOf i).toNat)
      case atStart => exact ⟨0, _, Nat.zero_le _, rfl, (fun x h => by simp at h), HS0.out⟩
      case round =>
        obtain ⟨k, v, hk, rfl, hall, hS⟩ := hrel
        clear HS0
        by_cases hlt : k < ws.length
        · have hcell := hS.wd k hlt
          have hysz := HWZ.out _ (List.getElem_mem hlt)
          have HE := hide (HAT.out k hlt)
          have HBAD := hide (fun (h : isPr ws[k].data.toList = false) => setOf_bad (t := s.data.toList) (i := k) (by omega) (by rw [HAT.out k hlt]; exact h))
          have HNEXT := hide (fun (h : isPr ws[k].data.toList = true) => And.intro (allP_next (parts := splitOf 44 s.data.toList) (k := k) (by omega) hall (by rw [HAT.out k hlt]; exact h)) (mapP_next (parts := splitOf 44 s.data.toList) (k := k) (by omega)))
          generalize ws[k] = y at hcell hysz HE HBAD HNEXT
          have HS := hide hS
          clear hS hall
          go_wp2_with fail
          refine (l6Split_any y 58 wr (by omega)).mono ?_
          rintro e w3 ⟨v3, es, rfl, ho3, hes, hb3⟩
          have hesl : 0 < es.length := by
            rcases Nat.eq_zero_or_pos es.length with h | h
            · exact absurd (by rw [← hes, List.length_eq_zero_iff.1 h]; rfl) (splitOf_ne 58 y.data.toList)
            · exact h
          have hesz : ∀ z ∈ es, z.size ≤ 1100 := fun z hz => by
            have hm : z.data.toList ∈ splitOf 58 y.data.toList := by rw [← hes]; exact List.mem_map.2 ⟨z, hz, rfl⟩
            have h1 := splitOf_mem hm
            have h2 : z.data.toList.length = z.size := rfl
            have h3 : y.data.toList.length = y.size := rfl
            omega
          have hem : es.length ≤ 1101 := by
            have h1 := congrArg List.length hes
            rw [List.length_map] at h1
            have h2 := splitOf_len 58 y.data.toList
            have h3 : y.data.toList.length = y.size := rfl
            omega
          have hpr := prOf_ends hes (by simpa using hesl)
          simp only [List.getElem_map, List.length_map] at hpr
          rcases ho3.at with ⟨_, h0⟩ | ⟨g4, cap4, rfl, hg4, _, _, hc4⟩
          · rw [h0] at hesl; simp at hesl
          · have c0 := hc4 0 es[0] (List.getElem?_eq_getElem hesl)
            have cl := hc4 (es.length - 1) (es[es.length - 1]'(by omega)) (List.getElem?_eq_getElem (by omega))
            have z0 := hesz _ (List.getElem_mem hesl)
            have zl := hesz _ (List.getElem_mem (show es.length - 1 < es.length by omega))
            have HS3 := hide (HS.out.below hb3)
            generalize es[0] = e0 at c0 z0 hpr
            generalize es[es.length - 1]'(by omega) = el at cl zl hpr
            rw [Nat.zero_add] at c0 cl
            obtain ⟨m, hm⟩ : ∃ m, es.length = m + 1 := ⟨es.length - 1, by omega⟩
            rw [hm] at cl hpr hem ⊢
            rw [Nat.add_sub_cancel] at cl
            have HPR := hide hpr
            clear hpr hesz hes hc4 ho3 hb3 HS hm hesl
            go_wp2_with fail
            refine (l6Place_any e0 w3 (by omega)).mono ?_
            rintro e w4 ⟨n1, ok1, rfl, h1, hb4⟩
            have cl4 : w4.cell? ⟨g4, m, none⟩ = some (.string el) := (hb4.cell (p := ⟨g4, m, none⟩) (lt_of_cell0 cl)).trans cl
            have HS4 := hide (HS3.out.below hb4)
            have H1 := hide h1
            clear cl c0 hb4 HS3 h1
            go_wp2_with fail
            refine (l6Place_any el w4 (by omega)).mono ?_
            rintro e w5 ⟨n2, ok2, rfl, h2, hb5⟩
            have HS5 := hide (HS4.out.below hb5)
            have H2 := hide h2
            clear cl4 hb5 HS4 h2
            by_cases hgood : ok1 = true ∧ ok2 = true ∧ m < 2
            · obtain ⟨rfl, rfl, hm2⟩ := hgood
              have hpv : prOf y.data.toList = some (n1, n2) := by
                rw [HPR.out, if_pos (by omega)]
                rcases H1.out with ⟨_, e1⟩ | ⟨h, _⟩
                · rcases H2.out with ⟨_, e2⟩ | ⟨h, _⟩
                  · rw [e1, e2]; rfl
                  · cases h
                · cases h
              have HN := hide (HNEXT.out (by unfold isPr; rw [hpv]; rfl))
              have HPV := hide (show prI (prV ((splitOf 44 s.data.toList)[k]'(by omega))) = ((n1 : Int), (n2 : Int)) by rw [HE.out]; unfold prV; rw [hpv]; rfl)
              have hmi : ¬ (2 : Int) < (m : Int) + 1 := by omega
              clear HPR H1 H2 HBAD hpv HNEXT
              generalize hps : List.map (fun x => prI (prV x)) ((splitOf 44 s.data.toList).take k) = ps at HS5 HN
              have hpl : ps.length ≤ 1048576 := by rw [← hps, List.length_map, List.length_take]; omega
              clear hps
              have HS6 := hide (HS5.out.below ((Below.refl w5.heap.size w5).alloc (Nat.le_refl _) (.cells #[.int .u32 (n1 : Int), .int .u32 (n2 : Int)] 86)))
              have hc6 := heap_alloc_new w5 (.cells #[.int .u32 (n1 : Int), .int .u32 (n2 : Int)] 86)
              have HC0 := hide (show (w5.alloc (.cells #[.int .u32 (n1 : Int), .int .u32 (n2 : Int)] 86)).cell? ⟨w5.heap.size, 0, none⟩ = some (.int .u32 (n1 : Int)) by rw [cell_of_row _ _ _ _ _ _ hc6]; rfl)
              have HC1 := hide (show (w5.alloc (.cells #[.int .u32 (n1 : Int), .int .u32 (n2 : Int)] 86)).cell? ⟨w5.heap.size, 1, none⟩ = some (.int .u32 (n2 : Int)) by rw [cell_of_row _ _ _ _ _ _ hc6]; rfl)
              have q1 := HS5.out.b1.c1
              clear hc6
              go_wp2_with (first
                | (at_builtin; refine wpList_append_pair _ rfl (.tmp 55) (.tmp 59) rfl lo2 v ps ((n1 : Int), (n2 : Int)) w5.heap.size 1 rfl rfl ?_ ?_ ?_ hpl ?_ ?_; (exact HS6.out.ow); (exact HC0.out); (exact HC1.out); (exact HS6.out.sz); intro v7 w7 ho7 hg7; obtain ⟨a7, c7, rfl⟩ := ho7.slice; have HP7 := hide (HS6.out.push ho7 hg7); have q7 := (HS6.out.b1.grown hg7 (fun e => by have := (World.ownsRow.lt HS6.out.ow _ e.symm).1; have := HS6.out.g1; have := HS6.out.g2; omega)).c1; have f7 := (HS6.out.b1.grown hg7 (fun e => by have := (World.ownsRow.lt HS6.out.ow _ e.symm).1; have := HS6.out.g1; have := HS6.out.g2; omega)).fz 1; clear ho7 hg7)
                | go_in)
              have HP8 := hide (show SSL w (w7.setCell ⟨w.heap.size + 1, 1, none⟩ (.slice a7 (ps.length + 1) c7)) lo2 g3 ws (.slice a7 (ps.length + 1) c7) (ps ++ [((n1 : Int), (n2 : Int))]) by
                have h := HP7.out
                rw [List.length_append, List.length_singleton] at h
                exact h)
              exact ⟨⟨k + 1, _, by omega, by go_num, HN.out.1, by rw [HN.out.2, HPV.out]; exact HP8.out⟩, by simp [intOf]; omega⟩
            · have hbad : isPr y.data.toList = false := by
                unfold isPr
                have hn : prOf y.data.toList = none := by
                  rw [HPR.out]
                  split
                  · rcases H1.out with ⟨e1, _⟩ | ⟨_, e1⟩
                    · rcases H2.out with ⟨e2, _⟩ | ⟨_, e2⟩
                      · exact absurd ⟨e1, e2, by omega⟩ hgood
                      · rw [e2]; cases plOf e0.data.toList <;> rfl
                    · rw [e1]; rfl
                  · rfl
                rw [hn]; rfl
              have HN := hide (HBAD.out hbad)
              have p0 := HS5.out.b0.c0
              have p1 := HS5.out.b0.c1
              have f0 := HS5.out.b0.fz 0
              have f1 := HS5.out.b0.fz 1
              clear HPR H1 H2 HBAD hbad HNEXT HE
              cases ok1 with
              | false =>
                clear hgood
                go_wp2
                exact bodyPost_ret (ret_set w.heap.size _ _ _ rfl rfl ((HS5.out.b0.set0 _).set1 _)) rfl (set_no HN.out ((HS5.out.bel.setCell (p := ⟨w.heap.size, 0, none⟩) (Nat.le_refl _) _).setCell (p := ⟨w.heap.size, 1, none⟩) (Nat.le_refl _) _))
              | true =>
                cases ok2 with
                | false =>
                  clear hgood
                  go_wp2
                  exact bodyPost_ret (ret_set w.heap.size _ _ _ rfl rfl ((HS5.out.b0.set0 _).set1 _)) rfl (set_no HN.out ((HS5.out.bel.setCell (p := ⟨w.heap.size, 0, none⟩) (Nat.le_refl _) _).setCell (p := ⟨w.heap.size, 1, none⟩) (Nat.le_refl _) _))
                | true =>
                  have hmi : (2 : Int) < (m : Int) + 1 := by
                    have : ¬ m < 2 := fun h => hgood ⟨rfl, rfl, h⟩
                    omega
                  clear hgood
                  go_wp2
                  exact bodyPost_ret (ret_set w.heap.size _ _ _ rfl rfl ((HS5.out.b0.set0 _).set1 _)) rfl (set_no HN.out ((HS5.out.bel.setCell (p := ⟨w.heap.size, 0, none⟩) (Nat.le_refl _) _).setCell (p := ⟨w.heap.size, 1, none⟩) (Nat.le_refl _) _))
        · obtain rfl : k = ws.length := by omega
          have ht : (splitOf 44 s.data.toList).take ws.length = splitOf 44 s.data.toList := List.take_of_length_le (by omega)
          rw [ht] at hall hS
          obtain ⟨va, vc, hve⟩ := hS.ow.slice
          rw [List.length_map, hlen] at hve
          subst hve
          have HS := hide hS
          have p0 := hS.b0.c0
          have p1 := hS.b0.c1
          have f0 := hS.b0.fz 0
          have f1 := hS.b0.fz 1
          have q0 := hS.b1.c0
          have q1 := hS.b1.c1
          have hg1 := hS.g1
          have hg2 := hS.g2
          clear hS ht
          by_cases h50 : 50 < ws.length
          · have h50' : (50 : Int) < (ws.length : Int) := by omega
            have HN := hide (setOf_many (t := s.data.toList) (by omega))
            clear hall
            go_wp2
            exact bodyPost_ret (ret_set w.heap.size _ _ _ rfl rfl ((HS.out.b0.set0 _).set1 _)) rfl (set_no HN.out ((HS.out.bel.setCell (p := ⟨w.heap.size, 0, none⟩) (Nat.le_refl _) _).setCell (p := ⟨w.heap.size, 1, none⟩) (Nat.le_refl _) _))
          · have h50' : ¬ (50 : Int) < (ws.length : Int) := by omega
            have HY := hide (setOf_good (t := s.data.toList) (by omega) hall)
            clear hall
            go_wp2
            exact bodyPost_ret (ret_set w.heap.size _ _ _ rfl rfl ((HS.out.b0.set0 _).set1 _)) rfl (set_yes HY.out (by rw [List.map_map]; exact ((HS.out.ow.other (show w.heap.size < lo2 by omega) _).other (show w.heap.size < lo2 by omega) _).mono (by omega)) ((HS.out.bel.setCell (p := ⟨w.heap.size, 0, none⟩) (Nat.le_refl _) _).setCell (p := ⟨w.heap.size, 1, none⟩) (Nat.le_refl _) _))
end Go.Proofs.YtknnpgffdbkfnaaDoor
