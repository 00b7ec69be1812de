import Derived.Test.YtledlicandlekaaDoorCutSp3
namespace Go.Proofs.YtledlicandlekaaDoor
open Go.RowKit
theorem below_on {w w1 w2 : World} (h : Below w.heap.size w w1) (k : Below w1.heap.size w1 w2) : Below w.heap.size w w2 := h.trans (k.mono h.size)
theorem getD_at {d : List Nat} {i : Nat} (h : i < d.length) : d.getD i 0 = d[i] := by simp [List.getD, h]
theorem apart_nil {W : World} {B : Nat} {v : Value} {l : List Nat} (h : OwnB W B v l) : v.ownBlock = none ∨ v.ownBlock ≠ (Value.slice none 0 0).ownBlock := by
  rcases h.2 with ⟨rfl, _⟩ | ⟨g, c, cur, rfl, _⟩
  · exact .inl rfl
  · exact .inr (fun e => by cases e)
/-- A plain line. -/
theorem one_line {w W : World} {r : Option (UnitM × Nat)} {l : List Nat} {k : Nat} {v : Value} (h : r = some ((l, [], false, false), k)) (ho : OwnB W (w.heap.size + 1) v l) (hb : Below w.heap.size w W) : OnePost w r (.returned (.tuple #[.agg #[v, .slice none 0 0, .bool false, .bool false], .int .i64 (k : Int)])) W := by
  subst h
  exact ⟨_, rfl, ⟨_, _, rfl, ho, OwnB.nil _ _, apart_nil ho⟩, hb⟩
theorem one_lit {w W : World} {r : Option (UnitM × Nat)} {l m : List Nat} {k : Nat} {v u : Value} (h : r = some ((l, m, true, false), k)) (ho : OwnB W (w.heap.size + 1) v l) (hu : OwnB W (w.heap.size + 1) u m) (ha : v.ownBlock = none ∨ v.ownBlock ≠ u.ownBlock) (hb : Below w.heap.size w W) : OnePost w r (.returned (.tuple #[.agg #[v, u, .bool true, .bool false], .int .i64 (k : Int)])) W := by
  subst h
  exact ⟨_, rfl, ⟨_, _, rfl, ho, hu, ha⟩, hb⟩
theorem bytes_at (a : Option Addr) (n cap : Nat) (l : List Nat) (w : World) (hn : l.length = n) (hl : l.length ≤ 1048576) (hr : RowAt w a l) :
    Calls Tryd.prog 22 #[.slice a n cap] w fun e w' => e = .returned (.slice (some ⟨w.heap.size, 0, none⟩) n n) ∧ OwnB w' w.heap.size (.slice (some ⟨w.heap.size, 0, none⟩) n n) l ∧ Below w.heap.size w w' := by
  subst hn
  exact l1Bytes_any a cap l w hl hr
set_option maxRecDepth 20000 in
set_option maxHeartbeats 2000000 in
theorem l6One_any (lits : Bool) (b off cap : Nat) (d : List Nat) (w : World) (hd : d.length ≤ 1048576) (hcap : d.length ≤ cap) (hT : Tx w b off d) :
    Calls Tryd.prog 21 #[.bool lits, .slice (some ⟨b, off, none⟩) d.length cap] w (OnePost w (oneOf lits d)) := by
  have h0 := blk_new w unZ 44
  have hb0 := (Below.refl w.heap.size w).alloc (Nat.le_refl _) (.cells unZ 44)
  have HEN := hide (l6End_any b off cap d (w.alloc (.cells unZ 44)) hd (hT.below hb0))
  have HT := hide (fun W (h : Below w.heap.size w W) => hT.below h)
  have H0 := hide h0
  have HB0 := hide hb0
  clear h0 hb0 hT
  unfold unZ at HEN
  cases hfe : findEnd d with
  | none =>
    have HR := hide (show oneOf lits d = none by unfold oneOf; rw [hfe])
    rw [hfe] at HEN
    clear hfe
    go_enter Tryd.func21, Tryd.ntmps21
    go_wp2_with fail
    refine HEN.out.mono ?_
    rintro e w1 ⟨rfl, hb1⟩
    have hb1' : Below (w.alloc (.cells unZ 44)).heap.size (w.alloc (.cells unZ 44)) w1 := hb1
    have h1 : BlkU w1 w.heap.size #[.slice none 0 0, .slice none 0 0, .bool false, .bool false] := H0.out.below hb1' H0.out.lt
    have HB1 := hide (HB0.out.trans (hb1'.mono HB0.out.size))
    have p0 : w1.cell? ⟨w.heap.size, 0, none⟩ = some (.slice none 0 0) := h1.cell 0
    have p1 : w1.cell? ⟨w.heap.size, 1, none⟩ = some (.slice none 0 0) := h1.cell 1
    have p2 : w1.cell? ⟨w.heap.size, 2, none⟩ = some (.bool false) := h1.cell 2
    have p3 : w1.cell? ⟨w.heap.size, 3, none⟩ = some (.bool false) := h1.cell 3
    have fz := fun j => h1.fz j
    have H1 := hide h1
    clear h1 hb1 hb1' HEN H0 HB0
    show _
    unfold endV
    go_wp2
    exact bodyPost_ret (ret_unit w.heap.size _ unZ _ rfl rfl rfl (set4 H1.out _ _ _ _) rfl) rfl (one_none HR.out (below4 HB1.out (Nat.le_refl _) _ _ _ _))
  | some e =>
    obtain ⟨he1, he2, he3⟩ := findEnd_lt hfe
    rw [hfe] at HEN
    have hel : (d.take e).length = e := by rw [List.length_take]; omega
    have HLT := hide (fun W (h : Below w.heap.size w W) => l6Literal_any b off cap (d.take e) W (by omega) (by omega) ((HT.out W h).take e))
    rw [hel] at HLT
    have HL1 := hide (fun W (h : Below w.heap.size w W) => bytes_at (some ⟨b, off, none⟩) e cap (d.take e) W hel (by omega) ((HT.out W h).take e).row)
    have hei : (e : Int) ≤ (cap : Int) := by omega
    go_enter Tryd.func21, Tryd.ntmps21
    go_wp2_with fail
    refine HEN.out.mono ?_
    rintro e1 w1 ⟨rfl, hb1⟩
    have hb1' : Below (w.alloc (.cells unZ 44)).heap.size (w.alloc (.cells unZ 44)) w1 := hb1
    have h1 : BlkU w1 w.heap.size #[.slice none 0 0, .slice none 0 0, .bool false, .bool false] := H0.out.below hb1' H0.out.lt
    have HB1 := hide (HB0.out.trans (hb1'.mono HB0.out.size))
    have H1 := hide h1
    clear h1 hb1 hb1' HEN H0 HB0
    have hev : endV (some e) = (e : Int) := rfl
    rw [hev]
    clear hev
    by_cases h300 : 300 < e
    · have h300i : (300 : Int) < (e : Int) := by omega
      have HR := hide (show oneOf lits d = some (badU, e + 2) by unfold oneOf; rw [hfe]; simp only; rw [if_pos h300])
      have p0 : w1.cell? ⟨w.heap.size, 0, none⟩ = some (.slice none 0 0) := H1.out.cell 0
      have p1 : w1.cell? ⟨w.heap.size, 1, none⟩ = some (.slice none 0 0) := H1.out.cell 1
      have p2 : w1.cell? ⟨w.heap.size, 2, none⟩ = some (.bool false) := H1.out.cell 2
      have p3 : w1.cell? ⟨w.heap.size, 3, none⟩ = some (.bool false) := H1.out.cell 3
      have fz := fun j => H1.out.fz j
      clear hfe HLT HL1 he2 he3 hel
      go_wp2
      exact bodyPost_ret (ret_unit w.heap.size _ #[.slice none 0 0, .slice none 0 0, .bool false, .bool true] (.int .i64 ((e + 2 : Nat) : Int)) rfl rfl rfl (set4 H1.out _ _ _ _) rfl) rfl (one_bad HR.out (below4 HB1.out (Nat.le_refl _) _ _ _ _))
    · have h300i : ¬ (300 : Int) < (e : Int) := by omega
      go_wp2_with fail
      refine (HLT.out w1 HB1.out).mono ?_
      rintro e2 w2 ⟨rfl, hb2⟩
      have H2 := hide (show BlkU w2 w.heap.size #[.slice none 0 0, .slice none 0 0, .bool false, .bool false] from H1.out.below hb2 H1.out.lt)
      have HB2 := hide (HB1.out.trans (hb2.mono HB1.out.size))
      have hz2 : w.heap.size + 1 ≤ w2.heap.size := by have := H1.out.lt; have := hb2.size; omega
      have p0 : w2.cell? ⟨w.heap.size, 0, none⟩ = some (.slice none 0 0) := H2.out.cell 0
      have p1 : w2.cell? ⟨w.heap.size, 1, none⟩ = some (.slice none 0 0) := H2.out.cell 1
      have p2 : w2.cell? ⟨w.heap.size, 2, none⟩ = some (.bool false) := H2.out.cell 2
      have p3 : w2.cell? ⟨w.heap.size, 3, none⟩ = some (.bool false) := H2.out.cell 3
      have fz := fun j => H2.out.fz j
      clear hb2 HLT H1 HB1
      cases hlo : (if lits then litOf (d.take e) else none) with
      | none =>
        have HR := hide (show oneOf lits d = some ((d.take e, [], false, false), e + 2) by unfold oneOf; rw [hfe]; simp only; rw [if_neg h300, hlo])
        cases lits with
        | false =>
          clear hfe hlo
          generalize litOf (d.take e) = q
          rcases q with _ | ⟨n, i⟩
          · unfold litV
            have HL2 := hide (HL1.out w2 HB2.out)
            go_wp2_with fail
            refine HL2.out.mono ?_
            rintro e3 w3 ⟨rfl, ho3, hb3⟩
            have H3 := hide (show BlkU w3 w.heap.size #[.slice none 0 0, .slice none 0 0, .bool false, .bool false] from H2.out.below hb3 H2.out.lt)
            have HB3 := hide (HB2.out.trans (hb3.mono HB2.out.size))
            have HO3 := hide (ho3.mono hz2)
            have r0 : w3.cell? ⟨w.heap.size, 0, none⟩ = some (.slice none 0 0) := H3.out.cell 0
            have r1 : w3.cell? ⟨w.heap.size, 1, none⟩ = some (.slice none 0 0) := H3.out.cell 1
            have r2 : w3.cell? ⟨w.heap.size, 2, none⟩ = some (.bool false) := H3.out.cell 2
            have r3 : w3.cell? ⟨w.heap.size, 3, none⟩ = some (.bool false) := H3.out.cell 3
            have gz := fun j => H3.out.fz j
            clear ho3 hb3 p0 p1 p2 p3 fz HL2
            go_wp2
            exact bodyPost_ret (ret_unit w.heap.size _ #[.slice (some ⟨w2.heap.size, 0, none⟩) e e, .slice none 0 0, .bool false, .bool false] (.int .i64 ((e + 2 : Nat) : Int)) rfl rfl rfl (set4 H3.out _ _ _ _) rfl) rfl (one_line HR.out (own4 HO3.out (Nat.lt_succ_self _) _ _ _ _) (below4 HB3.out (Nat.le_refl _) _ _ _ _))
          · unfold litV
            have HL2 := hide (HL1.out w2 HB2.out)
            go_wp2_with fail
            refine HL2.out.mono ?_
            rintro e3 w3 ⟨rfl, ho3, hb3⟩
            have H3 := hide (show BlkU w3 w.heap.size #[.slice none 0 0, .slice none 0 0, .bool false, .bool false] from H2.out.below hb3 H2.out.lt)
            have HB3 := hide (HB2.out.trans (hb3.mono HB2.out.size))
            have HO3 := hide (ho3.mono hz2)
            have r0 : w3.cell? ⟨w.heap.size, 0, none⟩ = some (.slice none 0 0) := H3.out.cell 0
            have r1 : w3.cell? ⟨w.heap.size, 1, none⟩ = some (.slice none 0 0) := H3.out.cell 1
            have r2 : w3.cell? ⟨w.heap.size, 2, none⟩ = some (.bool false) := H3.out.cell 2
            have r3 : w3.cell? ⟨w.heap.size, 3, none⟩ = some (.bool false) := H3.out.cell 3
            have gz := fun j => H3.out.fz j
            clear ho3 hb3 p0 p1 p2 p3 fz HL2
            go_wp2
            exact bodyPost_ret (ret_unit w.heap.size _ #[.slice (some ⟨w2.heap.size, 0, none⟩) e e, .slice none 0 0, .bool false, .bool false] (.int .i64 ((e + 2 : Nat) : Int)) rfl rfl rfl (set4 H3.out _ _ _ _) rfl) rfl (one_line HR.out (own4 HO3.out (Nat.lt_succ_self _) _ _ _ _) (below4 HB3.out (Nat.le_refl _) _ _ _ _))
        | true =>
          have hq : litOf (d.take e) = none := hlo
          rw [hq]
          clear hfe hlo hq
          unfold litV
          have HL2 := hide (HL1.out w2 HB2.out)
          go_wp2_with fail
          refine HL2.out.mono ?_
          rintro e3 w3 ⟨rfl, ho3, hb3⟩
          have H3 := hide (show BlkU w3 w.heap.size #[.slice none 0 0, .slice none 0 0, .bool false, .bool false] from H2.out.below hb3 H2.out.lt)
          have HB3 := hide (HB2.out.trans (hb3.mono HB2.out.size))
          have HO3 := hide (ho3.mono hz2)
          have r0 : w3.cell? ⟨w.heap.size, 0, none⟩ = some (.slice none 0 0) := H3.out.cell 0
          have r1 : w3.cell? ⟨w.heap.size, 1, none⟩ = some (.slice none 0 0) := H3.out.cell 1
          have r2 : w3.cell? ⟨w.heap.size, 2, none⟩ = some (.bool false) := H3.out.cell 2
          have r3 : w3.cell? ⟨w.heap.size, 3, none⟩ = some (.bool false) := H3.out.cell 3
          have gz := fun j => H3.out.fz j
          clear ho3 hb3 p0 p1 p2 p3 fz HL2
          go_wp2
          exact bodyPost_ret (ret_unit w.heap.size _ #[.slice (some ⟨w2.heap.size, 0, none⟩) e e, .slice none 0 0, .bool false, .bool false] (.int .i64 ((e + 2 : Nat) : Int)) rfl rfl rfl (set4 H3.out _ _ _ _) rfl) rfl (one_line HR.out (own4 HO3.out (Nat.lt_succ_self _) _ _ _ _) (below4 HB3.out (Nat.le_refl _) _ _ _ _))
      | some q =>
        obtain ⟨n, i⟩ := q
        cases lits with
        | false => cases hlo
        | true =>
          have hq : litOf (d.take e) = some (n, i) := hlo
          obtain ⟨hi1, hn9⟩ := litOf_lt hq
          rw [hel] at hi1
          rw [hq]
          have hn0 : ¬ (n : Int) < 0 := by omega
          have HRR := hide (show oneOf true d = if 8000 < n then some (badU, e + 2) else if d.length < e + 2 + n + 2 then none else if d.getD (e + 2 + n) 0 = 13 ∧ d.getD (e + 2 + n + 1) 0 = 10 then some ((d.take i, (d.drop (e + 2)).take n, true, false), e + 2 + n + 2) else some (badU, e + 2 + n) by
            unfold oneOf; rw [hfe]; simp only [if_true, hq]; rw [if_neg h300])
          clear hfe hlo hq HL1 he2 he3
          unfold litV
          by_cases h8 : 8000 < n
          · have h8i : (8000 : Int) < (n : Int) := by omega
            have HR := hide (HRR.out.trans (if_pos h8))
            clear HRR
            go_wp2
            exact bodyPost_ret (ret_unit w.heap.size _ #[.slice none 0 0, .slice none 0 0, .bool false, .bool true] (.int .i64 ((e + 2 : Nat) : Int)) rfl rfl rfl (set4 H2.out _ _ _ _) rfl) rfl (one_bad HR.out (below4 HB2.out (Nat.le_refl _) _ _ _ _))
          · have h8i : ¬ (8000 : Int) < (n : Int) := by omega
            by_cases hsh : d.length < e + 2 + n + 2
            · have hshi : (d.length : Int) < (e : Int) + 2 + (n : Int) + 2 := by omega
              have HR := hide (HRR.out.trans ((if_neg h8).trans (if_pos hsh)))
              clear HRR
              go_wp2
              exact bodyPost_ret (ret_unit w.heap.size _ unZ (.int .i64 0) rfl rfl rfl (set4 H2.out _ _ _ _) rfl) rfl (one_none HR.out (below4 HB2.out (Nat.le_refl _) _ _ _ _))
            · have hshi : ¬ (d.length : Int) < (e : Int) + 2 + (n : Int) + 2 := by omega
              have hT2 := HT.out w2 HB2.out
              have c0 := hT2 (e + 2 + n) (by omega)
              have c1 := hT2 (e + 2 + n + 1) (by omega)
              have g0 := getD_at (d := d) (i := e + 2 + n) (by omega)
              have g1 := getD_at (d := d) (i := e + 2 + n + 1) (by omega)
              rw [← g0] at c0
              rw [← g1] at c1
              have HR0 := hide (HRR.out.trans ((if_neg h8).trans (if_neg hsh)))
              generalize d.getD (e + 2 + n) 0 = x at c0 HR0
              generalize d.getD (e + 2 + n + 1) 0 = y at c1 HR0
              have hi0 : (e : Int) + 2 + (n : Int) < (d.length : Int) := by omega
              have hi2 : (e : Int) + 2 + (n : Int) + 1 < (d.length : Int) := by omega
              clear HRR hT2 g0 g1
              by_cases hx : x = 13
              · by_cases hy : y = 10
                · subst hx
                  subst hy
                  have HR := hide (HR0.out.trans (if_pos ⟨rfl, rfl⟩))
                  have hli : (d.take i).length = i := by rw [List.length_take]; omega
                  have hln : ((d.drop (e + 2)).take n).length = n := by rw [List.length_take, List.length_drop]; omega
                  obtain ⟨st, hst⟩ : ∃ st : Nat, st = e + 2 + n := ⟨_, rfl⟩
                  have hsi' : (e : Int) + 2 + (n : Int) = (st : Int) := by omega
                  have HA := hide (fun W (h : Below w.heap.size w W) => bytes_at (some ⟨b, off, none⟩) i cap (d.take i) W hli (by omega) ((HT.out W h).take i).row)
                  have HD := hide (fun W (h : Below w.heap.size w W) => bytes_at (some ⟨b, off + (e + 2), none⟩) (st - (e + 2)) (cap - (e + 2)) ((d.drop (e + 2)).take n) W (by omega) (by omega) (((HT.out W h).drop (e + 2)).take n).row)
                  have hne : ¬ cap = e + 2 := by omega
                  have hii : (i : Int) ≤ (cap : Int) := by omega
                  have he2i : (e : Int) + 2 ≤ (st : Int) := by omega
                  have hsi : (st : Int) ≤ (cap : Int) := by omega
                  have hst9 : (st : Int) ≤ 1048576 := by omega
                  have HST := hide hst
                  have HSI := hide hsi'
                  clear HR0 hli hln p0 p1 p2 p3 fz hsi' hst
                  go_wp2
                  simp only [HSI.out]
                  have hlt2 : w.heap.size < w2.heap.size := H2.out.lt
                  have he20 : ((e : Int) + 2).toNat = e + 2 := by omega
                  have hwr : IntKind.i64.wrap ((e : Int) + 2) = (e : Int) + 2 := by rw [IntKind.wrap_i64]; omega
                  have hws : IntKind.i64.wrap ((st : Int) + 2) = (st : Int) + 2 := by rw [IntKind.wrap_i64]; omega
                  go_region_with (first
                    | (go_at_call 22; have _x := HBWP; refine (HD.out _ ?_).mono ?_; (first | exact below_drewN HB2.out _ | exact HB2.out.drew | exact HB2.out | exact HBWP.out | exact below_drewN HBWP.out _ | exact HBWP.out.drew); rintro eq wq ⟨rfl, hoq, hbq⟩; have zq := (World.ownsRow.lt hoq _ rfl).2; have HBWQ : Hid (Below w.heap.size w wq) := (by first | exact hide (below_on (below_drewN HB2.out _) hbq) | exact hide (below_on HB2.out hbq) | exact hide (below_on HBWP.out hbq) | exact hide (below_on (below_drewN HBWP.out _) hbq)); have KQ : Hid (BlkU wq w.heap.size #[.slice none 0 0, .slice none 0 0, .bool false, .bool false]) := (by first | exact hide ((hbq.block w.heap.size hlt2).trans H2.out) | exact hide ((hbq.block w.heap.size (lt_of_block KP.out)).trans KP.out)); have HOQ := hide (hoq.mono (show w.heap.size + 1 ≤ _ by (first | exact hz2 | exact zzP.out))); (try have HOP2 := hide (HOP.out.below hbq (Nat.le_refl _))); have zzQ := hide (show w.heap.size + 1 ≤ wq.heap.size from lt_of_block KQ.out); have q0 : wq.cell? ⟨w.heap.size, 0, none⟩ = some (.slice none 0 0) := KQ.out.cell 0; have q1 : wq.cell? ⟨w.heap.size, 1, none⟩ = some (.slice none 0 0) := KQ.out.cell 1; have q2 : wq.cell? ⟨w.heap.size, 2, none⟩ = some (.bool false) := KQ.out.cell 2; have q3 : wq.cell? ⟨w.heap.size, 3, none⟩ = some (.bool false) := KQ.out.cell 3; have qf := fun j => KQ.out.fz j; clear hoq hbq)
                    | (go_at_call 22; refine (HA.out _ ?_).mono ?_; (first | exact below_drewN HB2.out _ | exact HB2.out.drew | exact HB2.out | exact HBWQ.out | exact below_drewN HBWQ.out _ | exact HBWQ.out.drew); rintro ep wp ⟨rfl, hop, hbp⟩; have zp := (World.ownsRow.lt hop _ rfl).2; have HBWP : Hid (Below w.heap.size w wp) := (by first | exact hide (below_on (below_drewN HB2.out _) hbp) | exact hide (below_on HB2.out hbp) | exact hide (below_on HBWQ.out hbp) | exact hide (below_on (below_drewN HBWQ.out _) hbp)); have KP : Hid (BlkU wp w.heap.size #[.slice none 0 0, .slice none 0 0, .bool false, .bool false]) := (by first | exact hide ((hbp.block w.heap.size hlt2).trans H2.out) | exact hide ((hbp.block w.heap.size (lt_of_block KQ.out)).trans KQ.out)); have HOP := hide (hop.mono (show w.heap.size + 1 ≤ _ by (first | exact hz2 | exact zzQ.out))); (try have HOQ2 := hide (HOQ.out.below hbp (Nat.le_refl _))); have zzP := hide (show w.heap.size + 1 ≤ wp.heap.size from lt_of_block KP.out); have p0 : wp.cell? ⟨w.heap.size, 0, none⟩ = some (.slice none 0 0) := KP.out.cell 0; have p1 : wp.cell? ⟨w.heap.size, 1, none⟩ = some (.slice none 0 0) := KP.out.cell 1; have p2 : wp.cell? ⟨w.heap.size, 2, none⟩ = some (.bool false) := KP.out.cell 2; have p3 : wp.cell? ⟨w.heap.size, 3, none⟩ = some (.bool false) := KP.out.cell 3; have pf := fun j => KP.out.fz j; clear hop hbp))
                  all_goals
                    have hk : ((e + 2 + n + 2 : Nat) : Int) = (st : Int) + 2 := by have := HST.out; omega
                    have HK := hide hk
                    have HAP := hide (show (Value.slice (some ⟨w2.drew.heap.size, 0, none⟩) i i).ownBlock = none ∨ (Value.slice (some ⟨w2.drew.heap.size, 0, none⟩) i i).ownBlock ≠ (Value.slice (some ⟨wp.heap.size, 0, none⟩) (st - (e + 2)) (st - (e + 2))).ownBlock from .inr (fun e => by simp only [Value.ownBlock, Option.some.injEq] at e; omega))
                    clear p0 p1 p2 p3 pf q0 q1 q2 q3 qf hk zp zq
                    go_wp2
                    refine bodyPost_ret (ret_unit w.heap.size _ #[.slice (some ⟨w2.drew.heap.size, 0, none⟩) i i, .slice (some ⟨wp.heap.size, 0, none⟩) (st - (e + 2)) (st - (e + 2)), .bool true, .bool false] (.int .i64 ((st : Int) + 2)) rfl rfl rfl (set4 KQ.out _ _ _ _) rfl) rfl ?_
                    rw [← HK.out]
                    exact one_lit HR.out (own4 HOP2.out (Nat.lt_succ_self _) _ _ _ _) (own4 HOQ.out (Nat.lt_succ_self _) _ _ _ _) HAP.out (below4 HBWQ.out (Nat.le_refl _) _ _ _ _)
                · have hyb : ((y : Int) != 10) = true := by simp; omega
                  have HR := hide (HR0.out.trans (if_neg (fun h => hy h.2)))
                  subst hx
                  clear HR0
                  go_wp2
                  exact bodyPost_ret (ret_unit w.heap.size _ #[.slice none 0 0, .slice none 0 0, .bool false, .bool true] (.int .i64 ((e + 2 + n : Nat) : Int)) rfl rfl rfl (set4 H2.out _ _ _ _) rfl) rfl (one_bad HR.out (below4 HB2.out (Nat.le_refl _) _ _ _ _))
              · have hxb : ((x : Int) != 13) = true := by simp; omega
                have HR := hide (HR0.out.trans (if_neg (fun h => hx h.1)))
                clear HR0
                go_wp2
                exact bodyPost_ret (ret_unit w.heap.size _ #[.slice none 0 0, .slice none 0 0, .bool false, .bool true] (.int .i64 ((e + 2 + n : Nat) : Int)) rfl rfl rfl (set4 H2.out _ _ _ _) rfl) rfl (one_bad HR.out (below4 HB2.out (Nat.le_refl _) _ _ _ _))
end Go.Proofs.YtledlicandlekaaDoor
