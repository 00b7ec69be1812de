import Derived.Test.YtpedmebigcchnaaGreatDoorPkp
import Derived.Test.YtpedmebigcchnaaGreatDoorPko
import Derived.Test.YtpedmebigcchnaaGreatDoorPkk
import Derived.Test.YtpedmebigcchnaaGreatDoorPkg
import Derived.WideMake
namespace Go.Proofs.YtpedmebigcchnaaGreatDoor
open Go.RowKit
set_option maxRecDepth 20000 in
set_option maxHeartbeats 1000000 in
theorem specSet_any (s : ByteArray) (w : World) (hs : s.size ≤ 1048576) :
    Calls Tryz.prog 35 #[.string s] w (SetPost s.data.toList w) := by
  have hsl : s.data.toList.length = s.size := rfl
  have hx0 := blkQ_new w (.bool false) (.slice none 0 0)
  have hb0 := (Below.refl w.heap.size w).alloc (Nat.le_refl _) (.cells #[.bool false, .slice none 0 0] 65)
  by_cases hbig : 1100 < s.size
  · have hi : (1100 : Int) < (s.size : Int) := by omega
    have HN := hide (setOf_long (t := s.data.toList) (by omega))
    have HX := hide hx0
    have HB := hide hb0
    have p0 := hx0.c0
    have p1 := hx0.c1
    have f0 := hx0.fz 0
    have f1 := hx0.fz 1
    clear hx0 hb0
    go_enter Tryz.func35, Tryz.ntmps35
    go_wp2
    exact bodyPost_ret (ret_set w.heap.size _ _ _ rfl rfl HX.out) rfl (set_no HN.out HB.out)
  · have hi : ¬ (1100 : Int) < (s.size : Int) := by omega
    have hx1 := hx0.alloc (.cells #[.bool true, .slice none 0 0] 65)
    have hz1 : (w.alloc (.cells #[.bool false, .slice none 0 0] 65)).heap.size = w.heap.size + 1 := World.size_alloc ..
    have hy1 := blkQ_new (w.alloc (.cells #[.bool false, .slice none 0 0] 65)) (.bool true) (.slice none 0 0)
    have hb1 := hb0.alloc (by omega) (.cells #[.bool true, .slice none 0 0] 65)
    rw [hz1] at hy1
    have hz2 : ((w.alloc (.cells #[.bool false, .slice none 0 0] 65)).alloc (.cells #[.bool true, .slice none 0 0] 65)).heap.size = w.heap.size + 2 := by rw [World.size_alloc, hz1]
    clear hx0 hb0 hz1
    go_enter Tryz.func35, Tryz.ntmps35
    go_wp2_with fail
    generalize (w.alloc (.cells #[.bool false, .slice none 0 0] 65)).alloc (.cells #[.bool true, .slice none 0 0] 65) = W1 at hx1 hy1 hb1 hz2 ⊢
    refine (l6Split_any s 44 W1 (by omega)).mono ?_
    rintro e W2 ⟨v2, ws, rfl, ho2, hws, hb2⟩
    have hne : splitOf 44 s.data.toList ≠ [] := splitOf_ne _ _
    have hwl : ws.length ≤ 1101 := by
      have h1 := congrArg List.length hws
      rw [List.length_map] at h1
      have h2 := splitOf_len 44 s.data.toList
      omega
    have hwsz : ∀ y ∈ ws, y.size ≤ 1100 := fun y hy => by
      have hm : y.data.toList ∈ splitOf 44 s.data.toList := by rw [← hws]; exact List.mem_map.2 ⟨y, hy, rfl⟩
      have h1 := splitOf_mem hm
      have h2 : y.data.toList.length = y.size := rfl
      omega
    rcases ho2.at with ⟨_, h0⟩ | ⟨g3, cap, rfl, hg3, hgb, _, hcells⟩
    · exact absurd (by rw [← hws, h0]; rfl) hne
    · have hS0 : SSL w W2 W2.heap.size g3 ws (.slice none 0 0) [] :=
        ⟨hx1.below hb2 (by omega), hy1.below hb2 (by omega), fun j hj => by have h := hcells j ws[j] (List.getElem?_eq_getElem hj); rw [Nat.zero_add] at h; exact h, by omega, hg3, OwnP.nil _ _, hb1.trans (hb2.mono hb1.size), Nat.le_refl _⟩
      have HS0 := hide hS0
      have HWS := hide hws
      have HWZ := hide hwsz
      clear hS0 hws hwsz hcells hx1 hy1 hb1 hb2 hz2 ho2 hne
      have hlen : (splitOf 44 s.data.toList).length = ws.length := by rw [← HWS.out, List.length_map]
      have HAT := hide (show ∀ k (h : k < ws.length), (splitOf 44 s.data.toList)[k]'(by omega) = ws[k].data.toList from fun k h => by simp only [← HWS.out, List.getElem_map])
      generalize W2.heap.size = lo2 at HS0 ⊢
      go_wp2
      go_loopw [5, 6, 7, 8, 9, 10, 19] (fun _ _ _ _ _ _ i wr => ∃ (k : Nat) (v : Value), k ≤ ws.length ∧ i = .int .i64 (k : Int) ∧ (∀ x ∈ (splitOf 44 s.data.toList).take k, isPr x = true) ∧ SSL w wr lo2 g3 ws v (((splitOf 44 s.data.toList).take k).map fun x => prI (prV x))) (fun _ _ _ _ _ _ i _ => ws.length - (intOf i).toNat)
      case atStart => exact ⟨0, _, Nat.zero_le _, rfl, (fun x h => by simp at h), HS0.out⟩
      case round =>
        obtain ⟨k, v, hk, rfl, hall, hS⟩ := hrel
        clear HS0
        by_cases hlt : k < ws.length
        · have hcell := hS.wd k hlt
          have hysz := HWZ.out _ (List.getElem_mem hlt)
          have HE := hide (HAT.out k hlt)
          have HBAD := hide (fun (h : isPr ws[k].data.toList = false) => setOf_bad (t := s.data.toList) (i := k) (by omega) (by rw [HAT.out k hlt]; exact h))
          have HNEXT := hide (fun (h : isPr ws[k].data.toList = true) => And.intro (allP_next (parts := splitOf 44 s.data.toList) (k := k) (by omega) hall (by rw [HAT.out k hlt]; exact h)) (mapP_next (parts := splitOf 44 s.data.toList) (k := k) (by omega)))
          generalize ws[k] = y at hcell hysz HE HBAD HNEXT
          have HS := hide hS
          clear hS hall
          go_wp2_with fail
          refine (l6Split_any y 58 wr (by omega)).mono ?_
          rintro e w3 ⟨v3, es, rfl, ho3, hes, hb3⟩
          have hesl : 0 < es.length := by
            rcases Nat.eq_zero_or_pos es.length with h | h
            · exact absurd (by rw [← hes, List.length_eq_zero_iff.1 h]; rfl) (splitOf_ne 58 y.data.toList)
            · exact h
          have hesz : ∀ z ∈ es, z.size ≤ 1100 := fun z hz => by
            have hm : z.data.toList ∈ splitOf 58 y.data.toList := by rw [← hes]; exact List.mem_map.2 ⟨z, hz, rfl⟩
            have h1 := splitOf_mem hm
            have h2 : z.data.toList.length = z.size := rfl
            have h3 : y.data.toList.length = y.size := rfl
            omega
          have hem : es.length ≤ 1101 := by
            have h1 := congrArg List.length hes
            rw [List.length_map] at h1
            have h2 := splitOf_len 58 y.data.toList
            have h3 : y.data.toList.length = y.size := rfl
            omega
          have hpr := prOf_ends hes (by simpa using hesl)
          simp only [List.getElem_map, List.length_map] at hpr
          rcases ho3.at with ⟨_, h0⟩ | ⟨g4, cap4, rfl, hg4, _, _, hc4⟩
          · rw [h0] at hesl; simp at hesl
          · have c0 := hc4 0 es[0] (List.getElem?_eq_getElem hesl)
            have cl := hc4 (es.length - 1) (es[es.length - 1]'(by omega)) (List.getElem?_eq_getElem (by omega))
            have z0 := hesz _ (List.getElem_mem hesl)
            have zl := hesz _ (List.getElem_mem (show es.length - 1 < es.length by omega))
            have HS3 := hide (HS.out.below hb3)
            generalize es[0] = e0 at c0 z0 hpr
            generalize es[es.length - 1]'(by omega) = el at cl zl hpr
            rw [Nat.zero_add] at c0 cl
            obtain ⟨m, hm⟩ : ∃ m, es.length = m + 1 := ⟨es.length - 1, by omega⟩
            rw [hm] at cl hpr hem ⊢
            rw [Nat.add_sub_cancel] at cl
            have HPR := hide hpr
            clear hpr hesz hes hc4 ho3 hb3 HS hm hesl
            go_wp2_with fail
            refine (l6Place_any e0 w3 (by omega)).mono ?_
            rintro e w4 ⟨n1, ok1, rfl, h1, hb4⟩
            have cl4 : w4.cell? ⟨g4, m, none⟩ = some (.string el) := (hb4.cell (p := ⟨g4, m, none⟩) (lt_of_cell0 cl)).trans cl
            have HS4 := hide (HS3.out.below hb4)
            have H1 := hide h1
            clear cl c0 hb4 HS3 h1
            go_wp2_with fail
            refine (l6Place_any el w4 (by omega)).mono ?_
            rintro e w5 ⟨n2, ok2, rfl, h2, hb5⟩
            have HS5 := hide (HS4.out.below hb5)
            have H2 := hide h2
            clear cl4 hb5 HS4 h2
            by_cases hgood : ok1 = true ∧ ok2 = true ∧ m < 2
            · obtain ⟨rfl, rfl, hm2⟩ := hgood
              have hpv : prOf y.data.toList = some (n1, n2) := by
                rw [HPR.out, if_pos (by omega)]
                rcases H1.out with ⟨_, e1⟩ | ⟨h, _⟩
                · rcases H2.out with ⟨_, e2⟩ | ⟨h, _⟩
                  · rw [e1, e2]; rfl
                  · cases h
                · cases h
              have HN := hide (HNEXT.out (by unfold isPr; rw [hpv]; rfl))
              have HPV := hide (show prI (prV ((splitOf 44 s.data.toList)[k]'(by omega))) = ((n1 : Int), (n2 : Int)) by rw [HE.out]; unfold prV; rw [hpv]; rfl)
              have hmi : ¬ (2 : Int) < (m : Int) + 1 := by omega
              clear HPR H1 H2 HBAD hpv HNEXT
              generalize hps : List.map (fun x => prI (prV x)) ((splitOf 44 s.data.toList).take k) = ps at HS5 HN
              have hpl : ps.length ≤ 1048576 := by rw [← hps, List.length_map, List.length_take]; omega
              clear hps
              have HS6 := hide (HS5.out.below ((Below.refl w5.heap.size w5).alloc (Nat.le_refl _) (.cells #[.int .u32 (n1 : Int), .int .u32 (n2 : Int)] 79)))
              have hc6 := heap_alloc_new w5 (.cells #[.int .u32 (n1 : Int), .int .u32 (n2 : Int)] 79)
              have HC0 := hide (show (w5.alloc (.cells #[.int .u32 (n1 : Int), .int .u32 (n2 : Int)] 79)).cell? ⟨w5.heap.size, 0, none⟩ = some (.int .u32 (n1 : Int)) by rw [cell_of_row _ _ _ _ _ _ hc6]; rfl)
              have HC1 := hide (show (w5.alloc (.cells #[.int .u32 (n1 : Int), .int .u32 (n2 : Int)] 79)).cell? ⟨w5.heap.size, 1, none⟩ = some (.int .u32 (n2 : Int)) by rw [cell_of_row _ _ _ _ _ _ hc6]; rfl)
              have q1 := HS5.out.b1.c1
              clear hc6
              go_wp2_with (first
                | (at_builtin; refine wpList_append_pair _ rfl (.tmp 55) (.tmp 59) rfl lo2 v ps ((n1 : Int), (n2 : Int)) w5.heap.size 1 rfl rfl ?_ ?_ ?_ hpl ?_ ?_; (exact HS6.out.ow); (exact HC0.out); (exact HC1.out); (exact HS6.out.sz); intro v7 w7 ho7 hg7; obtain ⟨a7, c7, rfl⟩ := ho7.slice; have HP7 := hide (HS6.out.push ho7 hg7); have q7 := (HS6.out.b1.grown hg7 (fun e => by have := (World.ownsRow.lt HS6.out.ow _ e.symm).1; have := HS6.out.g1; have := HS6.out.g2; omega)).c1; have f7 := (HS6.out.b1.grown hg7 (fun e => by have := (World.ownsRow.lt HS6.out.ow _ e.symm).1; have := HS6.out.g1; have := HS6.out.g2; omega)).fz 1; clear ho7 hg7)
                | go_in)
              have HP8 := hide (show SSL w (w7.setCell ⟨w.heap.size + 1, 1, none⟩ (.slice a7 (ps.length + 1) c7)) lo2 g3 ws (.slice a7 (ps.length + 1) c7) (ps ++ [((n1 : Int), (n2 : Int))]) by
                have h := HP7.out
                rw [List.length_append, List.length_singleton] at h
                exact h)
              exact ⟨⟨k + 1, _, by omega, by go_num, HN.out.1, by rw [HN.out.2, HPV.out]; exact HP8.out⟩, by simp [intOf]; omega⟩
            · have hbad : isPr y.data.toList = false := by
                unfold isPr
                have hn : prOf y.data.toList = none := by
                  rw [HPR.out]
                  split
                  · rcases H1.out with ⟨e1, _⟩ | ⟨_, e1⟩
                    · rcases H2.out with ⟨e2, _⟩ | ⟨_, e2⟩
                      · exact absurd ⟨e1, e2, by omega⟩ hgood
                      · rw [e2]; cases plOf e0.data.toList <;> rfl
                    · rw [e1]; rfl
                  · rfl
                rw [hn]; rfl
              have HN := hide (HBAD.out hbad)
              have p0 := HS5.out.b0.c0
              have p1 := HS5.out.b0.c1
              have f0 := HS5.out.b0.fz 0
              have f1 := HS5.out.b0.fz 1
              clear HPR H1 H2 HBAD hbad HNEXT HE
              cases ok1 with
              | false =>
                clear hgood
                go_wp2
                exact bodyPost_ret (ret_set w.heap.size _ _ _ rfl rfl ((HS5.out.b0.set0 _).set1 _)) rfl (set_no HN.out ((HS5.out.bel.setCell (p := ⟨w.heap.size, 0, none⟩) (Nat.le_refl _) _).setCell (p := ⟨w.heap.size, 1, none⟩) (Nat.le_refl _) _))
              | true =>
                cases ok2 with
                | false =>
                  clear hgood
                  go_wp2
                  exact bodyPost_ret (ret_set w.heap.size _ _ _ rfl rfl ((HS5.out.b0.set0 _).set1 _)) rfl (set_no HN.out ((HS5.out.bel.setCell (p := ⟨w.heap.size, 0, none⟩) (Nat.le_refl _) _).setCell (p := ⟨w.heap.size, 1, none⟩) (Nat.le_refl _) _))
                | true =>
                  have hmi : (2 : Int) < (m : Int) + 1 := by
                    have : ¬ m < 2 := fun h => hgood ⟨rfl, rfl, h⟩
                    omega
                  clear hgood
                  go_wp2
                  exact bodyPost_ret (ret_set w.heap.size _ _ _ rfl rfl ((HS5.out.b0.set0 _).set1 _)) rfl (set_no HN.out ((HS5.out.bel.setCell (p := ⟨w.heap.size, 0, none⟩) (Nat.le_refl _) _).setCell (p := ⟨w.heap.size, 1, none⟩) (Nat.le_refl _) _))
        · obtain rfl : k = ws.length := by omega
          have ht : (splitOf 44 s.data.toList).take ws.length = splitOf 44 s.data.toList := List.take_of_length_le (by omega)
          rw [ht] at hall hS
          obtain ⟨va, vc, hve⟩ := hS.ow.slice
          rw [List.length_map, hlen] at hve
          subst hve
          have HS := hide hS
          have p0 := hS.b0.c0
          have p1 := hS.b0.c1
          have f0 := hS.b0.fz 0
          have f1 := hS.b0.fz 1
          have q0 := hS.b1.c0
          have q1 := hS.b1.c1
          have hg1 := hS.g1
          have hg2 := hS.g2
          clear hS ht
          by_cases h50 : 50 < ws.length
          · have h50' : (50 : Int) < (ws.length : Int) := by omega
            have HN := hide (setOf_many (t := s.data.toList) (by omega))
            clear hall
            go_wp2
            exact bodyPost_ret (ret_set w.heap.size _ _ _ rfl rfl ((HS.out.b0.set0 _).set1 _)) rfl (set_no HN.out ((HS.out.bel.setCell (p := ⟨w.heap.size, 0, none⟩) (Nat.le_refl _) _).setCell (p := ⟨w.heap.size, 1, none⟩) (Nat.le_refl _) _))
          · have h50' : ¬ (50 : Int) < (ws.length : Int) := by omega
            have HY := hide (setOf_good (t := s.data.toList) (by omega) hall)
            clear hall
            go_wp2
            exact bodyPost_ret (ret_set w.heap.size _ _ _ rfl rfl ((HS.out.b0.set0 _).set1 _)) rfl (set_yes HY.out (by rw [List.map_map]; exact ((HS.out.ow.other (show w.heap.size < lo2 by omega) _).other (show w.heap.size < lo2 by omega) _).mono (by omega)) ((HS.out.bel.setCell (p := ⟨w.heap.size, 0, none⟩) (Nat.le_refl _) _).setCell (p := ⟨w.heap.size, 1, none⟩) (Nat.le_refl _) _))
end Go.Proofs.YtpedmebigcchnaaGreatDoor
namespace Go.Proofs.YtpedmebigcchnaaGreatDoor
open Go.RowKit
set_option maxRecDepth 20000 in
set_option maxHeartbeats 1000000 in
theorem specRf_any (s : ByteArray) (w : World) (hs : s.size ≤ 1048576) :
    Calls Tryz.prog 18 #[.string s] w (RfPost w (rfOf s.data.toList)) := by
  have hx0 := bx_new w false 0
  have hb0 := (Below.refl w.heap.size w).alloc (Nat.le_refl _) (.cells #[.bool false, .int .u32 0] 45)
  go_enter Tryz.func18, Tryz.ntmps18
  go_wp2_with fail
  have hz0 : (w.alloc (.cells #[.bool false, .int .u32 0] 45)).heap.size = w.heap.size + 1 := World.size_alloc ..
  generalize w.alloc (.cells #[.bool false, .int .u32 0] 45) = w0 at hx0 hb0 hz0 ⊢
  refine (l6Brackets_any s w0 (by omega)).mono ?_
  rintro e w1 ⟨⟨x, ok, rfl, hor⟩, n1, rfl⟩
  have HB1 := hide (below_drewN hb0 n1)
  have hx1 : Bx (w0.drewN n1) w.heap.size false 0 := hx0
  have hz1 : (w0.drewN n1).heap.size = w.heap.size + 1 := hz0
  generalize w0.drewN n1 = w1 at HB1 hx1 hz1 ⊢
  clear hx0 hb0 hz0
  have p0 := hx1.c0
  have p1 := hx1.c1
  have g0 := hx1.fz 0
  have g1 := hx1.fz 1
  have HX1 := hide hx1
  clear hx1
  rcases hor with ⟨rfl, hbk⟩ | ⟨rfl, hbk⟩
  · by_cases hxe : x.toList = []
    · have hxe2 : x.toList.isEmpty = true := by rw [hxe]; rfl
      have HR := hide (show rfOf s.data.toList = some 0 by unfold rfOf; rw [hbk]; simp only; rw [if_pos (by rw [← ByteArray.toList_eq]; exact hxe)])
      clear hbk hxe
      go_wp2
      exact bodyPost_ret (ret_flags w.heap.size _ true 0 rfl rfl ((HX1.out.set true 0).alloc _)) rfl (rf_yes (f := 0) HR.out (((HB1.out.setCell (p := ⟨w.heap.size, 0, none⟩) (Nat.le_refl _) _).setCell (p := ⟨w.heap.size, 1, none⟩) (Nat.le_refl _) _).alloc (by simp; omega) _))
    · have hxe2 : x.toList.isEmpty = false := by simpa using hxe
      have hxs : x.size ≤ 1048575 := by
        have h1 : brk s.data.toList = some x.data.toList := hbk
        unfold brk at h1
        split at h1
        · simp only [Option.some.injEq] at h1
          have h2 := congrArg List.length h1
          have h3 : x.data.toList.length = x.size := rfl
          have h4 : s.data.toList.length = s.size := rfl
          rw [List.length_take, List.length_drop] at h2
          omega
        · cases h1
      have HR := hide (show rfOf s.data.toList = accTo ((splitOf 32 x.data.toList).map fun l => l.map UInt8.toNat) by unfold rfOf; rw [hbk]; simp only; rw [if_neg (by rw [← ByteArray.toList_eq]; exact hxe)])
      clear hbk hxe
      have h2x := HX1.out.alloc (.cells #[.bool true, .int .u32 0] 45)
      have h2o := bx_new w1 true 0
      have HB2 := hide (HB1.out.alloc (by omega) (.cells #[.bool true, .int .u32 0] 45))
      have hz2 : (w1.alloc (.cells #[.bool true, .int .u32 0] 45)).heap.size = w.heap.size + 2 := by rw [World.size_alloc]; omega
      rw [hz1] at h2o
      clear p0 p1 g0 g1 HX1
      go_wp2_with fail
      generalize w1.alloc (.cells #[.bool true, .int .u32 0] 45) = w2 at h2x h2o HB2 hz2 ⊢
      have hsp := l6Split_any x 32 w2 hxs
      refine hsp.mono ?_
      rintro e w3 ⟨v3, ws, rfl, ho3, hws, hb3⟩
      have hwl : ws.length ≤ 1048576 := by
        have h1 := congrArg List.length hws
        rw [List.length_map] at h1
        have h2 := splitOf_len 32 x.data.toList
        have h3 : x.data.toList.length = x.size := rfl
        omega
      have hwsz : ∀ y ∈ ws, y.size ≤ 1048576 := fun y hy => by
        have hm : y.data.toList ∈ splitOf 32 x.data.toList := by rw [← hws]; exact List.mem_map.2 ⟨y, hy, rfl⟩
        have h1 := splitOf_mem hm
        have h2 : y.data.toList.length = y.size := rfl
        have h3 : x.data.toList.length = x.size := rfl
        omega
      have HR2 := hide (show rfOf s.data.toList = accTo (ws.map bytesL) by
        rw [HR.out, ← hws, List.map_map]; rfl)
      have HB3 := hide (HB2.out.trans (hb3.mono HB2.out.size))
      have h3x := h2x.below hb3 (by omega)
      have h3o := h2o.below hb3 (by omega)
      have hz3 : w.heap.size + 2 ≤ w3.heap.size := by have := hb3.size; omega
      clear h2x h2o HB2 hb3 hws hsp HR
      obtain ⟨g3, c3, rfl, hwd⟩ := ownT_words ho3
      rw [hz2] at hwd
      have HWD := hide hwd
      have HX3 := hide h3x
      have HO3 := hide h3o
      have HWZ := hide hwsz
      clear hwd h3x h3o ho3 hwsz
      go_wp2
      go_loopw [7, 8, 9, 10, 26] (fun _ _ _ _ i wr => ∃ (k F : Nat), k ≤ ws.length ∧ i = .int .i64 (k : Int) ∧ F < 2147483648 ∧ accTo ((ws.map bytesL).take k) = some F ∧ Bx wr w.heap.size false 0 ∧ Bx wr (w.heap.size + 1) true (F : Int) ∧ WordsAt wr (w.heap.size + 2) g3 ws ∧ Below w.heap.size w wr) (fun _ _ _ _ i _ => ws.length - (intOf i).toNat)
      case atStart => exact ⟨0, 0, Nat.zero_le _, rfl, by omega, rfl, HX3.out, HO3.out, HWD.out, HB3.out⟩
      case round =>
        obtain ⟨k, F, hk, rfl, hF, hacc, hx, ho, hwd, hb⟩ := hrel
        clear HX3 HO3 HWD HB3
        by_cases hlt : k < ws.length
        · obtain ⟨gb, rfl, _, hcell⟩ := hwd k hlt
          have hml : k < (ws.map bytesL).length := by rw [List.length_map]; exact hlt
          have hget : (ws.map bytesL)[k] = bytesL ws[k] := List.getElem_map ..
          have HACC := hide (fun kk (h : findK (bytesL ws[k]) = some kk) => acc_step hml hacc (hget.trans rfl ▸ h))
          have HSTOP := hide (fun (h : findK (bytesL ws[k]) = none) => HR2.out.trans (acc_stop hml (hget ▸ h)))
          have hysz := HWZ.out _ (List.getElem_mem hlt)
          have hyb := bytesL_lt ws[k]
          have hyl := bytesL_len ws[k]
          have hye := strB_bytesL ws[k]
          rw [← hye] at hcell
          generalize bytesL ws[k] = y at hcell HACC HSTOP hyb hyl
          have hyl2 : y.length ≤ 1048576 := by omega
          have HX := hide hx
          have HO := hide ho
          have HWD := hide hwd
          have HB := hide hb
          clear hx ho hwd hb hacc hye hyl hysz hget
          go_wp2
          have HKP := hide (fun (W : World) (hW : Below wr.heap.size wr W) => And.intro (HX.out.below hW HX.out.lt) (And.intro (HO.out.below hW HO.out.lt) (And.intro (HWD.out.below hW) (HB.out.trans (hW.mono HB.out.size)))))
          clear HX HO HWD HB
          go_loopw [8, 9, 10] (fun bv kv _ wi => ∃ j : Nat, j ≤ 31 ∧ kv = .int .i64 (j : Int) ∧ bv = .int .i64 (bitTo y j) ∧ Below wr.heap.size wr wi) (fun _ kv _ _ => 31 - (intOf kv).toNat)
          case atStart => exact ⟨0, by omega, rfl, rfl, Below.refl _ _⟩
          case round =>
            obtain ⟨j, hj, rfl, rfl, hbi⟩ := hrel
            by_cases hj31 : j < 31
            · have HBT := hide (show bitTo y (j + 1) = if fits y j then (j : Int) else bitTo y j from rfl)
              have HNM := hide (specName_any j wr hj31)
              have hbq := strB_beq hyb (nameL_lt j hj31)
              have HBI := hide hbi
              clear hbi
              generalize bitTo y j = B0 at HBT
              go_wp2_with fail
              refine HNM.out.mono ?_
              rintro e w5 ⟨rfl, hb5⟩
              have HB5 := hide (HBI.out.trans (hb5.mono HBI.out.size))
              clear hb5 HNM HBI
              by_cases hyn : y = nameL j
              · have HE : Hid (bitTo y (j + 1) = (j : Int)) := hide (by rw [HBT.out, fits_eq hyn]; rfl)
                rw [decide_eq_true hyn] at hbq
                clear HBT hyn
                generalize strB (nameL j) = nm at hbq ⊢
                go_wp2
                go_roundw
                case rel => exact ⟨j + 1, by omega, by go_num, by rw [HE.out], HB5.out⟩
                case measure => simp [intOf]; omega
              · rw [decide_eq_false hyn] at hbq
                by_cases hj5 : j < 5
                · have hj5i : (j : Int) < 5 := by omega
                  have HFL := hide (fits_low hyn hj5)
                  have HL1 := hide (fun W => lower_any y W hyl2 hyb)
                  have HL2 := hide (fun W => lower_any (nameL j) W (by have := nameL_len j hj31; omega) (nameL_lt j hj31))
                  have hlq := strB_beq (lo_lt hyb) (lo_lt (nameL_lt j hj31))
                  generalize strB (y.map loN) = ly at HL1 hlq
                  generalize strB ((nameL j).map loN) = ln at HL2 hlq
                  rw [← HFL.out] at hlq
                  generalize strB (nameL j) = nm at hbq HL2 ⊢
                  clear hyn HFL
                  go_wp2_with fail
                  refine (HL1.out w5).mono ?_
                  rintro e w6 ⟨rfl, hb6⟩
                  go_wp2_with fail
                  refine (HL2.out w6).mono ?_
                  rintro e w7 ⟨rfl, hb7⟩
                  have hb57 := hb6.trans (hb7.mono hb6.size)
                  have HB7 := hide (HB5.out.trans (hb57.mono HB5.out.size))
                  clear HL1 HL2 hb6 hb7 hb57 HB5
                  cases hft : fits y j with
                  | true =>
                    have HE : Hid (bitTo y (j + 1) = (j : Int)) := hide (by rw [HBT.out, hft]; rfl)
                    rw [hft] at hlq
                    clear HBT hft
                    go_wp2
                    go_roundw
                    case rel => exact ⟨j + 1, by omega, by go_num, by rw [HE.out], HB7.out⟩
                    case measure => simp [intOf]; omega
                  | false =>
                    have HE : Hid (bitTo y (j + 1) = B0) := hide (by rw [HBT.out, hft]; rfl)
                    rw [hft] at hlq
                    clear HBT hft
                    go_wp2
                    go_roundw
                    case rel => exact ⟨j + 1, by omega, by go_num, by rw [HE.out], HB7.out⟩
                    case measure => simp [intOf]; omega
                · have hj5i : ¬ (j : Int) < 5 := by omega
                  have HE : Hid (bitTo y (j + 1) = B0) := hide (by rw [HBT.out, fits_big hyn hj5]; rfl)
                  clear HBT hyn
                  generalize strB (nameL j) = nm at hbq ⊢
                  go_wp2
                  go_roundw
                  case rel => exact ⟨j + 1, by omega, by go_num, by rw [HE.out], HB5.out⟩
                  case measure => simp [intOf]; omega
            · obtain rfl : j = 31 := by omega
              obtain ⟨hx, ho, hwd, hb⟩ := HKP.out wr hbi
              clear hbi HKP
              rcases bitTo_end y with ⟨hfn, hbt⟩ | ⟨kk, hkk, hfs, hbt⟩
              · have HS := hide (HSTOP.out hfn)
                rw [hbt]
                have p0 := hx.c0
                have p1 := hx.c1
                have g0 := hx.fz 0
                have g1 := hx.fz 1
                have HX := hide hx
                have HB := hide hb
                clear hx ho hwd hb hfn hbt HACC HSTOP
                go_wp2
                exact bodyPost_ret (ret_flags w.heap.size _ false 0 rfl rfl (HX.out.set false 0)) rfl (rf_no HS.out ((HB.out.setCell (p := ⟨w.heap.size, 0, none⟩) (Nat.le_refl _) _).setCell (p := ⟨w.heap.size, 1, none⟩) (Nat.le_refl _) _))
              · have HA2 := hide (HACC.out kk hfs)
                rw [hbt]
                have hor2 := or_lt31 hF hkk
                have hob := or_nat' F (2 ^ kk) (by omega) (Nat.lt_of_lt_of_le (Nat.pow_lt_pow_right (by decide) hkk) (by decide))
                have q1 := ho.c1
                have g1 := ho.fz 1
                have HX := hide hx
                have HO := hide ho
                have HWD := hide hwd
                have HB := hide hb
                clear hx ho hwd hb hfs hbt HACC HSTOP
                have HV := hide (show bits .or .u32 (F : Int) ((2 : Int) ^ kk % 4294967296) = ((F ||| 2 ^ kk : Nat) : Int) by
                  have hp : (2 : Nat) ^ kk < 4294967296 := Nat.lt_of_lt_of_le (Nat.pow_lt_pow_right (by decide) hkk) (by decide)
                  have e : (2 : Int) ^ kk = ((2 ^ kk : Nat) : Int) := by simp
                  rw [e, show ((2 ^ kk : Nat) : Int) % 4294967296 = ((2 ^ kk : Nat) : Int) from Int.emod_eq_of_lt (Int.natCast_nonneg _) (show ((2 ^ kk : Nat) : Int) < ((4294967296 : Nat) : Int) from Int.ofNat_lt.2 hp)]
                  exact hob)
                clear hob
                go_wp2
                rw [HV.out]
                exact ⟨⟨k + 1, F ||| 2 ^ kk, by omega, by go_num, hor2, HA2.out, HX.out.other (by omega), HO.out.set1 _, HWD.out.set (by omega), HB.out.setCell (p := ⟨w.heap.size + 1, 1, none⟩) (by simp) _⟩, by simp [intOf]; omega⟩
        · obtain rfl : k = ws.length := by omega
          have HA2 := hide (show rfOf s.data.toList = some F by rw [HR2.out, ← hacc, List.take_of_length_le (by simp)])
          have p0 := hx.c0
          have p1 := hx.c1
          have g0 := hx.fz 0
          have g1 := hx.fz 1
          have q0 := ho.c0
          have q1 := ho.c1
          have HX := hide hx
          have HB := hide hb
          clear hx ho hwd hb hacc
          go_wp2
          exact bodyPost_ret (ret_flags w.heap.size _ true (F : Int) rfl rfl (HX.out.set true (F : Int))) rfl (rf_yes HA2.out ((HB.out.setCell (p := ⟨w.heap.size, 0, none⟩) (Nat.le_refl _) _).setCell (p := ⟨w.heap.size, 1, none⟩) (Nat.le_refl _) _))
  · have HR := hide (show rfOf s.data.toList = none by unfold rfOf; rw [hbk])
    clear hbk
    go_wp2
    exact bodyPost_ret (ret_flags w.heap.size _ false 0 rfl rfl (HX1.out.set false 0)) rfl (rf_no HR.out ((HB1.out.setCell (p := ⟨w.heap.size, 0, none⟩) (Nat.le_refl _) _).setCell (p := ⟨w.heap.size, 1, none⟩) (Nat.le_refl _) _))
end Go.Proofs.YtpedmebigcchnaaGreatDoor
namespace Go.Proofs.YtpedmebigcchnaaGreatDoor
open Go.RowKit
/-- A map of function values, by what was put in. -/
def MapF (w : World) (b : Nat) (es : List (ByteArray × Value)) : Prop := ∃ (ents : Array MapEntry) (clock : Nat), w.heap[b]? = some (.map ents clock) ∧ ents.toList.map (fun e => (e.key, e.val)) = es.map (fun p => (Value.string p.1, p.2))
theorem MapF.lt {w : World} {b : Nat} {es : List (ByteArray × Value)} (h : MapF w b es) : b < w.heap.size := by
  obtain ⟨_, _, h, _⟩ := h
  exact lt_of_block h
theorem MapF.below {w w' : World} {B b : Nat} {es : List (ByteArray × Value)} (h : MapF w b es) (hb : Below B w w') (hB : b < B) : MapF w' b es := by
  obtain ⟨e, c, h, h2⟩ := h
  exact ⟨e, c, (hb.block b hB).trans h, h2⟩
theorem MapF.two {w w' : World} {b1 b2 b : Nat} {es : List (ByteArray × Value)} (h : MapF w b es) (hb : Two b1 b2 w w') (h1 : b ≠ b1) (h2 : b ≠ b2) : MapF w' b es := by
  obtain ⟨e, c, h, h3⟩ := h
  exact ⟨e, c, (hb.block b (lt_of_block h) h1 h2).trans h, h3⟩
theorem mapF_new (w : World) : MapF (w.alloc (.map #[] 0)) w.heap.size [] := ⟨#[], 0, heap_alloc_new w _, rfl⟩
def lookF : List (ByteArray × Value) → ByteArray → Option Value
  | [], _ => none
  | p :: r, k => if k = p.1 then some p.2 else lookF r k
theorem lookF_none {es : List (ByteArray × Value)} {k : ByteArray} (h : (es.all fun p => !decide (k = p.1)) = true) : lookF es k = none := by
  induction es with
  | nil => rfl
  | cons p r ih =>
    rw [List.all_cons, Bool.and_eq_true] at h
    rw [lookF, if_neg (by simpa using h.1)]
    exact ih h.2
theorem findNow_f (k : ByteArray) : ∀ (l : List MapEntry) (es : List (ByteArray × Value)) (i : Nat), l.map (fun e => (e.key, e.val)) = es.map (fun p => (Value.string p.1, p.2)) → ∃ r, Instr.findNow .string (.string k) l i = some r ∧ r.map (·.2) = lookF es k
  | [], es, i, h => by
    have : es = [] := by
      cases es with
      | nil => rfl
      | cons p q => simp at h
    subst this
    exact ⟨none, rfl, rfl⟩
  | e :: l, es, i, h => by
    cases es with
    | nil => simp at h
    | cons p r =>
      simp only [List.map_cons, List.cons.injEq, Prod.mk.injEq] at h
      obtain ⟨⟨h1, h2⟩, h3⟩ := h
      have hs : Instr.sameNow .string (.string k) e.key = some (k == p.1) := by rw [h1]; rfl
      by_cases hk : k = p.1
      · have hb : (k == p.1) = true := (MapKept.bytes_beq k p.1).2 hk
        refine ⟨some (i, e.val), ?_, ?_⟩
        · unfold Instr.findNow
          rw [hs, hb]
        · rw [lookF, if_pos hk, h2]; rfl
      · have hb : (k == p.1) = false := by
          cases e : (k == p.1) with
          | false => rfl
          | true => exact absurd ((MapKept.bytes_beq k p.1).1 e) hk
        obtain ⟨r', h4, h5⟩ := findNow_f k l r (i + 1) h3
        refine ⟨r', ?_, ?_⟩
        · unfold Instr.findNow
          rw [hs, hb]
          exact h4
        · rw [lookF, if_neg hk]; exact h5
theorem wpList_insert_f {P : Program} (w : World) {ops : Array Oper} {rest : List Oper} {o : Oper} {a : Act} {Q : Exit → Act → World → Prop} (hg : o.guard = none) (m x y : Operand) (t et : TypeId) (hop : o.op = Op.insert t m x y)
    (ht : P.underlying t = some (.map 9 et)) (hk : P.underlying 9 = some .string) (b : Nat) (es : List (ByteArray × Value)) (k : ByteArray) (v : Value) (hm : a.eval m = .map (some b)) (hx : a.eval x = .string k) (hy : a.eval y = v)
    (hF : MapF w b es) (hno : lookF es k = none) (h : ∀ w', MapF w' b (es ++ [(k, v)]) → (∀ g, g ≠ b → w'.heap[g]? = w.heap[g]?) → w'.heap.size = w.heap.size → w'.os = w.os ∧ w'.tape = w.tape ∧ w'.output = w.output → wpList P ops Q rest (a.put o.dst (.tuple #[])) w') : wpList P ops Q (o :: rest) a w := by
  refine wpList_plain hg fun K' hK' => ?_
  obtain ⟨ents, clock, hb, hes⟩ := hF
  obtain ⟨r, hf, hr⟩ := findNow_f k ents.toList es 0 hes
  rw [hno] at hr
  have hr' : r = none := by cases r with | none => rfl | some q => simp at hr
  subst hr'
  have hc : (Instr.checkKey false 10000 9 (.string k)).run P w = .ok () w := MapKept.run_checkKey (k := .string k) hk (by simp [MapKept.IsKey]) false 9999
  have hrun : (Instr.mapUpdate t (.map (some b)) (.string k) v).run P w = .ok () { w with heap := w.heap.setIfInBounds b (.map (ents.push { key := .string k, val := v, born := clock }) (clock + 1)) } := by
    simp [Instr.mapUpdate, run_underlying ht, MapKept.run_getObj_map hb, hc, MapKept.run_findKey hk hf, MapKept.run_setObj_map _ hb, Result.andThen]
  have hw := h { w with heap := w.heap.setIfInBounds b (.map (ents.push { key := .string k, val := v, born := clock }) (clock + 1)) } ⟨ents.push { key := .string k, val := v, born := clock }, clock + 1, by simp [lt_of_block hb], by rw [Array.toList_push, List.map_append, List.map_append, hes]; rfl⟩ (fun g hg => by simp [Ne.symm hg]) (by simp) ⟨rfl, rfl, rfl⟩
  unfold Oper.wp
  simp [execOp, hop, hm, hx, hy, hrun, Result.andThen]
  exact hK' _ _ hw
theorem wpList_lookup_f {P : Program} (w : World) {ops : Array Oper} {rest : List Oper} {o : Oper} {a : Act} {Q : Exit → Act → World → Prop} (hg : o.guard = none) (m x : Operand) (t et : TypeId) (hop : o.op = Op.lookup t m x false)
    (ht : P.underlying t = some (.map 9 et)) (hk : P.underlying 9 = some .string) (hz : (zeroValue et).run P w = .ok .nilFunc w) (b : Nat) (es : List (ByteArray × Value)) (k : ByteArray) (hm : a.eval m = .map (some b)) (hx : a.eval x = .string k)
    (hF : MapF w b es) (h : wpList P ops Q rest (a.put o.dst ((lookF es k).getD .nilFunc)) w) : wpList P ops Q (o :: rest) a w := by
  refine wpList_plain hg fun K' hK' => ?_
  obtain ⟨ents, clock, hb, hes⟩ := hF
  obtain ⟨r, hf, hr⟩ := findNow_f k ents.toList es 0 hes
  have hc : ∀ e, (Instr.checkKey e 10000 9 (.string k)).run P w = .ok () w := fun e => MapKept.run_checkKey (k := .string k) hk (by simp [MapKept.IsKey]) e 9999
  have hrun : (Instr.lookup t (.map (some b)) (.string k) false).run P w = .ok ((lookF es k).getD .nilFunc) w := by
    rw [← hr]
    cases r with
    | none => simp [Instr.lookup, run_underlying ht, MapKept.run_getObj_map hb, hc, MapKept.run_findKey hk hf, hz, Result.andThen]
    | some q => simp [Instr.lookup, run_underlying ht, MapKept.run_getObj_map hb, hc, MapKept.run_findKey hk hf, Result.andThen]
  unfold Oper.wp
  simp [execOp, hop, hm, hx, hrun, Result.andThen]
  exact hK' _ _ h
end Go.Proofs.YtpedmebigcchnaaGreatDoor
