import Derived.Test.YtokcdpamcbpaiabQuotesMem
namespace Go.Proofs.Ytokcdpamcbpaiab
open Go.RowKit
theorem sameBytes_n (n n' : Nat) (a a' : Option Addr) (cap cap' : Nat) (l : List Nat) (w : World) (hn : l.length = n) (hn' : l.length = n') (hr : RowAt w a l) (hr' : RowAt w a' l) :
    Calls Try.prog 14 #[.slice a n cap, .slice a' n' cap'] w fun e w' => e = .returned (.bool true) ∧ w' = w := by
  subst hn; subst hn'; exact sameBytes_any a a' cap cap' l w hr hr'
theorem int_cell (W : World) (n : Nat) : (W.alloc (.cells #[.int .i64 (n : Int)] 3)).cell? ⟨W.heap.size, 0, none⟩ = some (.int .i64 (n : Int)) := by
  rw [cell_of_row _ _ _ _ _ _ (heap_alloc_new W _)]; rfl
theorem row_cell (W : World) (y : Value) : (W.alloc (.cells #[y] 22)).cell? ⟨W.heap.size, 0, none⟩ = some y := by
  rw [cell_of_row _ _ _ _ _ _ (heap_alloc_new W _)]; rfl
theorem alloc_below (W : World) (o : Obj) : Below W.heap.size W (W.alloc o) := (Below.refl _ _).alloc (Nat.le_refl _) o
/-- A row of the round's own is apart from what lay there ahead of it. -/
theorem own_apart {w1 wr : World} {y tv : Value} {l T : List Nat} {base : Nat} (hy : OwnB w1 wr.heap.size y l) (ht : OwnB wr base tv T) : y.ownBlock = none ∨ y.ownBlock ≠ tv.ownBlock := by
  cases e : y.ownBlock with
  | none => exact .inl rfl
  | some g => exact .inr fun e' => by have := (World.ownsRow.lt hy g e).1; have := (World.ownsRow.lt ht g e'.symm).2; omega
theorem apart_new {w1 : World} {y tv tv' : Value} {l : List Nat} {base n : Nat} (hy : OwnB w1 base y l) (hn : w1.heap.size ≤ n) (h : y.ownBlock = none ∨ y.ownBlock ≠ tv.ownBlock) (hk : tv'.ownBlock = tv.ownBlock ∨ tv'.ownBlock = some n) : y.ownBlock = none ∨ y.ownBlock ≠ tv'.ownBlock := by
  rcases hk with e | e
  · rw [e]; exact h
  · rw [e]
    cases e1 : y.ownBlock with
    | none => exact .inl rfl
    | some g => exact .inr fun e' => by have := (World.ownsRow.lt hy g e1).2; simp only [Option.some.injEq] at e'; omega
theorem OwnB.kept {w w' : World} {base : Nat} {v : Value} {l : List Nat} {row : Option Nat} (h : OwnB w base v l) (hg : w.grownBy w' row) (hne : v.ownBlock = none ∨ v.ownBlock ≠ row) : OwnB w' base v l := World.ownsRow.kept h hg hne
theorem empty_row (W : World) : OwnB (W.alloc (.cells #[] 5)) W.heap.size (.slice (some ⟨W.heap.size, 0, none⟩) 0 0) [] := ⟨rfl, .inr ⟨W.heap.size, 0, #[], rfl, Nat.le_refl _, heap_alloc_new W _, Nat.le_refl _, Nat.zero_le _, rfl, rfl⟩⟩
theorem wpList_append_blk_n {ops : Array Oper} {rest : List Oper} {o : Oper} {act : Act} {Q : Exit → Act → World → Prop} (w : World) (hgd : o.guard = none) (s x : Operand)
    (ho : o.op = .call { callee := .builtin .append, args := #[s, x], argTypes := #[22, 22] })
    (base : Nat) (v : Value) (l m : List Nat) (n : Nat) (hn : m.length = n) (hs : act.eval s = v) (hown : OwnB w base v l) (ad : Option Addr) (c : Nat) (hx : act.eval x = .slice ad n c) (hr : RowAt w ad m)
    (hlen : l.length + m.length ≤ 1099511627776) (hbase : base ≤ w.heap.size)
    (h : ∀ v' w', OwnB w' base v' (l ++ m) → w.grownBy w' v.ownBlock → (v'.ownBlock = v.ownBlock ∨ v'.ownBlock = some w.heap.size) → wpList Try.prog ops Q rest (act.put o.dst v') w') : wpList Try.prog ops Q (o :: rest) act w := by
  subst hn; exact wpList_append_blk w hgd s x ho base v l m hs hown ad c hx hr hlen hbase h
theorem entry_byte (b : List Nat) (hb : ∀ x ∈ b, x < 256) : ∀ x ∈ entryOf b, x < 256 := by
  intro x hx
  unfold entryOf at hx
  split at hx
  · cases hx
  · simp only [List.mem_append] at hx
    rcases hx with ((h | h) | h) | h
    · exact (by decide : ∀ x ∈ headW, x < 256) x h
    · exact quote_byte b hb x h
    · split at h
      · simp at h; omega
      · cases h
    · simp at h; omega
theorem ents_byte (bs : List (List Nat)) (h : ∀ b ∈ bs, ∀ x ∈ b, x < 256) : ∀ x ∈ bs.flatMap entryOf, x < 256 := by
  intro x hx
  obtain ⟨b, hb, hx⟩ := List.mem_flatMap.1 hx
  exact entry_byte b (h b hb) x hx
theorem ents_pos (bs : List (List Nat)) (h : ∀ b ∈ bs, b.length ≤ 8000) (h0 : 0 < bs.length) : 0 < (bs.flatMap entryOf).length := by
  cases bs with
  | nil => simp at h0
  | cons b r =>
    have hb := h b (List.mem_cons_self ..)
    rw [List.flatMap_cons, List.length_append]
    have : 0 < (entryOf b).length := by unfold entryOf; rw [if_neg (by omega)]; simp; omega
    omega
theorem OwnB.at1 {w : World} {base : Nat} {v : Value} {l : List Nat} (h : OwnB w base v l) (h0 : 0 < l.length) : ∃ g c, v = .slice (some ⟨g, 0, none⟩) l.length c ∧ g < w.heap.size ∧ l.length ≤ c ∧ c ≤ 9223372036854775807 := by
  rcases h.2 with ⟨_, hn⟩ | ⟨g, cap, cur, rfl, hb, hg, hc, hcm, _⟩
  · omega
  · exact ⟨g, cap, rfl, lt_of_block hg, hc, by unfold maxLen at hcm; omega⟩
theorem sameBytes_d (a a' : Option Addr) (cap cap' : Nat) (l : List Nat) (w : World) (hr : RowAt w a l) (hr' : RowAt w a' l) :
    Calls Try.prog 14 #[.slice a l.length cap, .slice a' l.length cap'] w fun e w' => e = .returned (.bool true) ∧ ∃ n, w' = w.drewN n := by
  refine (sameBytes_any a a' cap cap' l w hr hr').mono ?_
  rintro e w' ⟨rfl, rfl⟩
  exact ⟨rfl, 0, rfl⟩
theorem last_bare {b : List Nat} (h : 0 < b.length) : bareB b = decide (b[b.length - 1] ≠ 10) := by unfold bareB; rw [dif_pos h]
set_option maxRecDepth 20000 in
set_option maxHeartbeats 8000000 in
theorem quotes_small (a0 am : Option Addr) (cap0 m cm : Nat) (d : List Nat) (w : World) (hd : d.length ≤ 1048576) (hcap : d.length ≤ cap0) (hm : m ≤ 1048576) (hr : RowAt w a0 d) (hb : ∀ x ∈ d, x < 256) :
    Calls Try.prog 4 #[.slice a0 d.length cap0, .slice am m cm] w fun e w' => e = .returned (.bool true) ∧ Below w.heap.size w w' := by
  have hi1 : ¬ (1048576 : Int) < (d.length : Int) := by omega
  have hi2 : ¬ (1048576 : Int) < (m : Int) := by omega
  have HR := hide hr
  have HB := hide hb
  clear hr hb
  go_enter Try.func4, Try.ntmps4
  go_wp2
  go_loopw [5, 6, 7, 8, 9, 10] (fun tv bl ev i _ _ wr => ∃ (k : Nat) (bs : List (List Nat)) (vs : List Value), k ≤ 7 ∧ bs.length = k ∧ i = .int .i64 (k : Int) ∧ (∀ b ∈ bs, b.length ≤ 1000 ∧ ∀ x ∈ b, x < 256) ∧ FQ w wr tv bl ev vs (bs.flatMap entryOf) (bs.map fullB) (endsOf 0 bs)) (fun _ _ _ i _ _ _ => 7 - (intOf i).toNat)
  case atStart => exact ⟨0, [], [], by omega, rfl, rfl, (fun b h => by cases h), FQ.start w⟩
  case round =>
    obtain ⟨k, bs, vs, hk, hbl, rfl, hbs, hF⟩ := hrel
    by_cases hlt : k < 7
    · have hki : (k : Int) < 7 := by omega
      have hP : k * d.length ≤ 6 * d.length := Nat.mul_le_mul_right _ (by omega)
      have hmul : (k : Int) * (d.length : Int) = ((k * d.length : Nat) : Int) := by push_cast; rfl
      generalize k * d.length = P at hP hmul
      have hF7 : (P : Int) / 7 = ((P / 7 : Nat) : Int) := by omega
      have hFl : P / 7 ≤ d.length := by omega
      generalize P / 7 = F at hF7 hFl
      have hP9 : P ≤ 7340032 := by omega
      have hFi : (F : Int) ≤ (d.length : Int) := by omega
      have hci : (d.length : Int) ≤ (cap0 : Int) := by omega
      have hrw := HR.out.below hF.bel
      have hT9 : (bs.flatMap entryOf).length ≤ 14084 := by have := ents_len bs (fun b h => (hbs b h).1); omega
      have hsplit : (F = cap0 ∧ RowAt wr a0 (d.drop F) ∧ (d.drop F).length = 0) ∨ (¬ cap0 = F ∧ RowAt wr (Option.map (fun x => x.add F) a0) (d.drop F) ∧ (d.drop F).length = d.length - F) := by
        by_cases hce : cap0 = F
        · exact .inl ⟨hce.symm, (fun h => by rw [List.length_drop] at h; omega), by rw [List.length_drop]; omega⟩
        · refine .inr ⟨hce, fun h => ?_, List.length_drop ..⟩
          rw [List.length_drop] at h
          obtain ⟨b0, off0, rfl, hc0⟩ := hrw (by omega)
          obtain ⟨b', off', e, hc'⟩ := row_drop hrw F (by rw [List.length_drop]; omega)
          exact ⟨b', off', by rw [← e]; simp [addr_add], hc'⟩
      have HBF := hide (fun x (hx : x ∈ d.drop F) => HB.out x (List.mem_of_mem_drop hx))
      have HF := hide hF
      have HBS := hide hbs
      clear hF hbs hrw
      rcases hsplit with ⟨hce, RA, hdl⟩ | ⟨hce, RA, hdl⟩
      · have HRA := hide RA
        clear RA
        go_wp2_with fail
        refine (drawQuote_n _ _ _ (d.drop F) wr hdl (by omega) HRA.out HBF.out).mono ?_
        rintro e w1 ⟨v1, l1, rfl, o1, hl1, hb1, hB1⟩
        obtain ⟨a1, c1, rfl⟩ := o1.slice
        have hlc : l1.length ≤ c1 := by
          rcases o1.2 with ⟨e, hn⟩ | ⟨g, cap, cur, e, _, _, hc, _⟩
          · omega
          · simp only [Value.slice.injEq, true_and] at e; omega
        clear HRA
        by_cases h0 : 0 < l1.length
        · obtain ⟨g1, rfl⟩ : ∃ g1, a1 = some ⟨g1, 0, none⟩ := by
            rcases o1.2 with ⟨_, hn⟩ | ⟨g, cap', cur, h', _⟩
            · omega
            · simp only [Value.slice.injEq] at h'; exact ⟨g, h'.1⟩
          by_cases hbig : 1000 < l1.length
          · have hbi : (1000 : Int) < (l1.length : Int) := by omega
            have hci2 : (1000 : Int) ≤ (c1 : Int) := by omega
            obtain ⟨b, hbdef⟩ : ∃ b, b = l1.take 1000 := ⟨_, rfl⟩
            have OY : OwnB w1 wr.heap.size (.slice (some ⟨g1, 0, none⟩) 1000 c1) b := by rw [hbdef]; exact o1.shorter (by omega) (by omega)
            have hNV : b.length = 1000 := by rw [hbdef, List.length_take]; omega
            have hbb : ∀ x ∈ b, x < 256 := by rw [hbdef]; exact fun x hx => hb1 x (List.mem_of_mem_take hx)
            clear hbdef o1 hb1
            have hb1000 : b.length ≤ 1000 := by omega
            have hbp : 0 < b.length := by omega
            go_wp2_with fail
            refine (quote_own OY (by omega) hbb).mono ?_
            rintro e w2 ⟨v2, rfl, o2, hB2⟩
            obtain ⟨a2, c2, rfl⟩ := o2.slice
            have hq2 := quote_len b
            have hqb := quote_byte b hbb
            have HQB := hide hqb
            have HBB := hide hbb
            clear hqb hbb
            go_wp2_with fail
            refine (unquote_own o2 (by omega) HQB.out).mono ?_
            rintro e w3 ⟨v3, rfl, o3, hB3⟩
            rw [unquote_quote] at o3
            obtain ⟨a3, c3, rfl⟩ := o3.slice
            have OY3 := OY.below (below_more hB2 hB3) (Nat.le_refl _)
            go_wp2_with fail
            refine (sameBytes_n 1000 1000 a3 (some ⟨g1, 0, none⟩) c3 c1 b w3 hNV hNV o3.row OY3.row).mono ?_
            rintro e w4 ⟨rfl, rfl⟩
            have hB14 := below_more hB2 hB3
            clear o2 o3 hB2 hB3 HQB
            go_wp2_with fail
            refine (entry_own OY3 (by omega) HBB.out).mono ?_
            rintro e w5 ⟨v5, rfl, o5, hB5⟩
            obtain ⟨a5, c5, rfl⟩ := o5.slice
            have hel := entry_len b
            have hB15 := below_more hB14 hB5
            have F5 := HF.out.below (below_more hB1 hB15)
            have HY5 := hide (OY.below hB15 (Nat.le_refl _))
            have hs15 := hB15.size
            have hsr1 := hB1.size
            have hswr := HF.out.bel.size
            have hap := own_apart OY HF.out.tx
            have HF5 := hide F5
            have HO5 := hide o5.row
            have HOY := hide OY
            have HAP := hide hap
            have hs5 := F5.bel.size
            have hEl := ends_len 0 bs
            have HES := hide (ends_snoc 0 bs b)
            clear OY OY3 o5 hB14 hB5 F5 hB1 hap
            generalize hT : bs.flatMap entryOf = T at HF5 HES hT9
            generalize hen : entryOf b = en at HO5 HES hel
            generalize hE : endsOf 0 bs = E at HF5 HES hEl
            generalize hBL : bs.map fullB = BL at HF5
            have hBl : BL.length = k := by rw [← hBL, List.length_map]; exact hbl
            have HHT := hide hT
            have HHE := hide hE
            have HHB := hide hBL
            have HHN := hide hen
            clear hT hE hBL hen
            obtain ⟨x, hxd⟩ : ∃ x, x = b[b.length - 1] := ⟨_, rfl⟩
            have hlb := last_bare hbp
            rw [← hxd] at hlb
            have HXC := hide (fun (W : World) (base : Nat) (cap : Nat) (h : OwnB W base (.slice (some ⟨g1, 0, none⟩) 1000 cap) b) => (by have h2 := h.cellAt (b.length - 1) (by omega); rw [← hxd, hNV] at h2; exact h2 : W.cell? ⟨g1, 1000 - 1, none⟩ = some (.int .u8 (x : Int))))
            simp only [Nat.reduceSub] at HXC
            clear hxd
            generalize hn6 : (T ++ en).length = n6
            have hn6' : n6 ≤ 20000 := by rw [← hn6, List.length_append]; omega
            have HN6 := hide (show T.length + en.length = n6 by rw [← hn6, List.length_append])
            by_cases hx10 : x = 10
            · have hbr : bareB b = false := by rw [hlb, hx10]; rfl
              have hxb : ((x : Int) != 10) = false := by rw [hx10]; rfl
              have hfb : fullB b = b := by unfold fullB; rw [hbr]; rfl
              clear hlb hbr
              go_wp2_with (first
                | (at_builtin; refine wpList_append_blk _ rfl (.tmp 47) (.tmp 49) rfl w.heap.size u5 T en rfl HF5.out.tx a5 c5 rfl HO5.out (by omega) hs5 ?_; intro tv6 w6 o6 g6 k6; have HF6 := hide (HF5.out.text o6 g6 k6); have HY6 := hide (OwnB.kept HY5.out g6 HAP.out); have HAP6 := hide (apart_new HOY.out hs15 HAP.out k6); have hs6 := g6.size; obtain ⟨a6, c6, e6⟩ := o6.slice; rw [hn6] at e6; subst e6; clear o6 g6 k6; have HFI := hide (HF6.out.below (alloc_below w6 (.cells #[.int .i64 (n6 : Int)] 3))); have HYI := hide (HY6.out.below (alloc_below w6 (.cells #[.int .i64 (n6 : Int)] 3)) (Nat.le_refl _)); have HCI := hide (int_cell w6 n6); have hs6' := (alloc_below w6 (.cells #[.int .i64 (n6 : Int)] 3)).size)
                | (at_builtin; refine wpList_append_int _ rfl (.tmp 51) (.tmp 54) rfl w.heap.size u7 E n6 w6.heap.size 1 rfl rfl HFI.out.en HCI.out (by omega) HFI.out.bel.size ?_; intro ev7 w7 o7 g7; have HF7 := hide (HFI.out.ends o7 g7); have HY7 := hide (OwnB.kept HYI.out g7 (blocks_apart HYI.out HFI.out.en (by decide))); have hx7 := HXC.out _ _ _ HY7.out; have hs7 := g7.size; clear o7 g7; have HFB := hide (HF7.out.below (alloc_below w7 (.cells #[.slice (some ⟨g1, 0, none⟩) 1000 c1] 22))); have HYB := hide (HY7.out.below (alloc_below w7 (.cells #[.slice (some ⟨g1, 0, none⟩) 1000 c1] 22)) (Nat.le_refl _)); have HCB := hide (row_cell w7 (.slice (some ⟨g1, 0, none⟩) 1000 c1)))
                | (at_builtin; refine wpList_append_row _ rfl (.tmp 73) (.tmp 75) rfl w.heap.size u6 vs BL (.slice (some ⟨g1, 0, none⟩) 1000 c1) b w7.heap.size 1 rfl rfl HFB.out.bo HCB.out (HYB.out.mono (by omega)) (fun y hy => ?_) (by omega) HFB.out.bel.size ?_; (cases ey : y.ownBlock with | none => exact .inl rfl | some gy => exact .inr (fun e' => by have := HF.out.bo.lt y hy gy ey; have := (World.ownsRow.lt HYB.out gy e'.symm).1; omega)); intro bl8 w8 o8 g8; have HF8 := hide (HFB.out.body HAP6.out o8 g8); clear o8 g8))
              go_roundw
              case rel => exact ⟨k + 1, bs ++ [b], _, by omega, by rw [List.length_append, hbl]; rfl, by go_num, (fun y hy => (List.mem_append.1 hy).elim (HBS.out y) (fun h => by rw [List.mem_singleton.1 h]; exact ⟨hb1000, HBB.out⟩)), by rw [List.flatMap_append, List.map_append, HES.out, show [b].flatMap entryOf = en from by simp [HHN.out], show [b].map fullB = [fullB b] from rfl, hfb, HHT.out, HHB.out, Nat.zero_add, HN6.out]; exact HF8.out⟩
              case measure => simp [intOf]; omega
            · have hbr : bareB b = true := by rw [hlb, decide_eq_true hx10]
              have hxb : ((x : Int) != 10) = true := by simp; omega
              have hfb : fullB b = b ++ [10] := by unfold fullB; rw [hbr]; rfl
              clear hlb hbr
              obtain ⟨n9, hn9⟩ : ∃ n9, b.length + 1 = n9 := ⟨_, rfl⟩
              have hn9' : n9 ≤ 1001 := by omega
              have HL9 := hide (show (([] : List Nat) ++ b ++ [10]).length = n9 by rw [List.length_append, List.nil_append, List.length_singleton]; exact hn9)
              go_wp2_with (first
                | (at_builtin; refine wpList_append_blk _ rfl (.tmp 47) (.tmp 49) rfl w.heap.size u5 T en rfl HF5.out.tx a5 c5 rfl HO5.out (by omega) hs5 ?_; intro tv6 w6 o6 g6 k6; have HF6 := hide (HF5.out.text o6 g6 k6); have HY6 := hide (OwnB.kept HY5.out g6 HAP.out); have HAP6 := hide (apart_new HOY.out hs15 HAP.out k6); have hs6 := g6.size; obtain ⟨a6, c6, e6⟩ := o6.slice; rw [hn6] at e6; subst e6; clear o6 g6 k6; have HFI := hide (HF6.out.below (alloc_below w6 (.cells #[.int .i64 (n6 : Int)] 3))); have HYI := hide (HY6.out.below (alloc_below w6 (.cells #[.int .i64 (n6 : Int)] 3)) (Nat.le_refl _)); have HCI := hide (int_cell w6 n6); have hs6' := (alloc_below w6 (.cells #[.int .i64 (n6 : Int)] 3)).size)
                | (at_builtin; refine wpList_append_int _ rfl (.tmp 51) (.tmp 54) rfl w.heap.size u7 E n6 w6.heap.size 1 rfl rfl HFI.out.en HCI.out (by omega) HFI.out.bel.size ?_; intro ev7 w7 o7 g7; have HF7 := hide (HFI.out.ends o7 g7); have HY7 := hide (OwnB.kept HYI.out g7 (blocks_apart HYI.out HFI.out.en (by decide))); have hx7 := HXC.out _ _ _ HY7.out; have hs7 := g7.size; clear o7 g7; have HE7 := hide (empty_row w7); have HR7 := hide (HY7.out.below (alloc_below w7 (.cells #[] 5)) (Nat.le_refl _)).row; have hz7 : (w7.alloc (.cells #[] 5)).heap.size = w7.heap.size + 1 := World.size_alloc ..)
                | (at_builtin; refine wpList_append_blk_n _ rfl (.tmp 68) (.tmp 69) rfl w7.heap.size (.slice (some ⟨w7.heap.size, 0, none⟩) 0 0) [] b 1000 hNV rfl HE7.out (some ⟨g1, 0, none⟩) c1 rfl HR7.out (by simp; omega) (by omega) ?_; intro y8 w8 o8 g8 _; have hs8 := g8.size; have HB8 := hide ((alloc_below w7 (.cells #[] 5)).grown g8 (by omega) (fun gg e => by simp [Value.ownBlock] at e; omega)); obtain ⟨a8, c8, e8⟩ := o8.slice; rw [List.nil_append, hNV] at e8; subst e8; have HO8 := hide (o8.below (alloc_below w8 (.cells #[.int .u8 10] 5)) (Nat.le_refl _)); have HR8 := hide (one_row w8 10); have hz8 : (w8.alloc (.cells #[.int .u8 10] 5)).heap.size = w8.heap.size + 1 := World.size_alloc ..; clear o8 g8)
                | (at_builtin; refine wpList_append_at _ rfl (.tmp 70) (.tmp 71) rfl w7.heap.size (.slice a8 1000 c8) ([] ++ b) [10] 1 rfl rfl HO8.out ⟨w8.heap.size, 0, none⟩ 1 rfl HR8.out (by simp; omega) (by omega) ?_; intro y9 w9 o9 g9; have hs9 := g9.size; have HB9 := hide ((HB8.out.trans ((alloc_below w8 (.cells #[.int .u8 10] 5)).mono (by omega))).grown g9 (by omega) (fun gg e => (World.ownsRow.lt HO8.out gg e).1)); have HO9 := hide o9; obtain ⟨a9, c9, e9⟩ := o9.slice; rw [HL9.out] at e9; subst e9; have HA9 := hide (own_apart o9 HF7.out.tx); have HF9 := hide ((HF7.out.below HB9.out).below (alloc_below w9 (.cells #[.slice a9 n9 c9] 22))); have HYB := hide (HO9.out.below (alloc_below w9 (.cells #[.slice a9 n9 c9] 22)) (Nat.le_refl _)); have HCB := hide (row_cell w9 (.slice a9 n9 c9)); clear o9 g9)
                | (at_builtin; refine wpList_append_row _ rfl (.tmp 73) (.tmp 75) rfl w.heap.size u6 vs BL (.slice a9 n9 c9) ([] ++ b ++ [10]) w9.heap.size 1 rfl rfl HF9.out.bo HCB.out (HYB.out.mono (by omega)) (fun y hy => ?_) (by omega) HF9.out.bel.size ?_; (cases ey : y.ownBlock with | none => exact .inl rfl | some gy => exact .inr (fun e' => by have := HF.out.bo.lt y hy gy ey; have := (World.ownsRow.lt HYB.out gy e'.symm).1; omega)); intro bl8 w10 o10 g10; have HF8 := hide (HF9.out.body HA9.out o10 g10); clear o10 g10))
              go_roundw
              case rel => exact ⟨k + 1, bs ++ [b], _, by omega, by rw [List.length_append, hbl]; rfl, by go_num, (fun y hy => (List.mem_append.1 hy).elim (HBS.out y) (fun h => by rw [List.mem_singleton.1 h]; exact ⟨hb1000, HBB.out⟩)), by rw [List.flatMap_append, List.map_append, HES.out, show [b].flatMap entryOf = en from by simp [HHN.out], show [b].map fullB = [fullB b] from rfl, hfb, show ([b ++ [10]] : List (List Nat)) = [[] ++ b ++ [10]] from rfl, HHT.out, HHB.out, Nat.zero_add, HN6.out]; exact HF8.out⟩
              case measure => simp [intOf]; omega
          · have hbi : ¬ (1000 : Int) < (l1.length : Int) := by omega
            obtain ⟨b, hbdef⟩ : ∃ b, b = l1 := ⟨_, rfl⟩
            have OY : OwnB w1 wr.heap.size (.slice (some ⟨g1, 0, none⟩) l1.length c1) b := by rw [hbdef]; exact o1
            have hNV : b.length = l1.length := by rw [hbdef]
            have hbb : ∀ x ∈ b, x < 256 := by rw [hbdef]; exact hb1
            clear hbdef o1 hb1
            generalize l1.length = N at *
            have hb1000 : b.length ≤ 1000 := by omega
            have hbp : 0 < b.length := by omega
            go_wp2_with fail
            refine (quote_own OY (by omega) hbb).mono ?_
            rintro e w2 ⟨v2, rfl, o2, hB2⟩
            obtain ⟨a2, c2, rfl⟩ := o2.slice
            have hq2 := quote_len b
            have hqb := quote_byte b hbb
            have HQB := hide hqb
            have HBB := hide hbb
            clear hqb hbb
            go_wp2_with fail
            refine (unquote_own o2 (by omega) HQB.out).mono ?_
            rintro e w3 ⟨v3, rfl, o3, hB3⟩
            rw [unquote_quote] at o3
            obtain ⟨a3, c3, rfl⟩ := o3.slice
            have OY3 := OY.below (below_more hB2 hB3) (Nat.le_refl _)
            go_wp2_with fail
            refine (sameBytes_n N N a3 (some ⟨g1, 0, none⟩) c3 c1 b w3 hNV hNV o3.row OY3.row).mono ?_
            rintro e w4 ⟨rfl, rfl⟩
            have hB14 := below_more hB2 hB3
            clear o2 o3 hB2 hB3 HQB
            go_wp2_with fail
            refine (entry_own OY3 (by omega) HBB.out).mono ?_
            rintro e w5 ⟨v5, rfl, o5, hB5⟩
            obtain ⟨a5, c5, rfl⟩ := o5.slice
            have hel := entry_len b
            have hB15 := below_more hB14 hB5
            have F5 := HF.out.below (below_more hB1 hB15)
            have HY5 := hide (OY.below hB15 (Nat.le_refl _))
            have hs15 := hB15.size
            have hsr1 := hB1.size
            have hswr := HF.out.bel.size
            have hap := own_apart OY HF.out.tx
            have HF5 := hide F5
            have HO5 := hide o5.row
            have HOY := hide OY
            have HAP := hide hap
            have hs5 := F5.bel.size
            have hEl := ends_len 0 bs
            have HES := hide (ends_snoc 0 bs b)
            clear OY OY3 o5 hB14 hB5 F5 hB1 hap
            generalize hT : bs.flatMap entryOf = T at HF5 HES hT9
            generalize hen : entryOf b = en at HO5 HES hel
            generalize hE : endsOf 0 bs = E at HF5 HES hEl
            generalize hBL : bs.map fullB = BL at HF5
            have hBl : BL.length = k := by rw [← hBL, List.length_map]; exact hbl
            have HHT := hide hT
            have HHE := hide hE
            have HHB := hide hBL
            have HHN := hide hen
            clear hT hE hBL hen
            obtain ⟨x, hxd⟩ : ∃ x, x = b[b.length - 1] := ⟨_, rfl⟩
            have hlb := last_bare hbp
            rw [← hxd] at hlb
            have HXC := hide (fun (W : World) (base : Nat) (cap : Nat) (h : OwnB W base (.slice (some ⟨g1, 0, none⟩) N cap) b) => (by have h2 := h.cellAt (b.length - 1) (by omega); rw [← hxd, hNV] at h2; exact h2 : W.cell? ⟨g1, N - 1, none⟩ = some (.int .u8 (x : Int))))
            clear hxd
            generalize hn6 : (T ++ en).length = n6
            have hn6' : n6 ≤ 20000 := by rw [← hn6, List.length_append]; omega
            have HN6 := hide (show T.length + en.length = n6 by rw [← hn6, List.length_append])
            by_cases hx10 : x = 10
            · have hbr : bareB b = false := by rw [hlb, hx10]; rfl
              have hxb : ((x : Int) != 10) = false := by rw [hx10]; rfl
              have hfb : fullB b = b := by unfold fullB; rw [hbr]; rfl
              clear hlb hbr
              go_wp2_with (first
                | (at_builtin; refine wpList_append_blk _ rfl (.tmp 47) (.tmp 49) rfl w.heap.size u5 T en rfl HF5.out.tx a5 c5 rfl HO5.out (by omega) hs5 ?_; intro tv6 w6 o6 g6 k6; have HF6 := hide (HF5.out.text o6 g6 k6); have HY6 := hide (OwnB.kept HY5.out g6 HAP.out); have HAP6 := hide (apart_new HOY.out hs15 HAP.out k6); have hs6 := g6.size; obtain ⟨a6, c6, e6⟩ := o6.slice; rw [hn6] at e6; subst e6; clear o6 g6 k6; have HFI := hide (HF6.out.below (alloc_below w6 (.cells #[.int .i64 (n6 : Int)] 3))); have HYI := hide (HY6.out.below (alloc_below w6 (.cells #[.int .i64 (n6 : Int)] 3)) (Nat.le_refl _)); have HCI := hide (int_cell w6 n6); have hs6' := (alloc_below w6 (.cells #[.int .i64 (n6 : Int)] 3)).size)
                | (at_builtin; refine wpList_append_int _ rfl (.tmp 51) (.tmp 54) rfl w.heap.size u7 E n6 w6.heap.size 1 rfl rfl HFI.out.en HCI.out (by omega) HFI.out.bel.size ?_; intro ev7 w7 o7 g7; have HF7 := hide (HFI.out.ends o7 g7); have HY7 := hide (OwnB.kept HYI.out g7 (blocks_apart HYI.out HFI.out.en (by decide))); have hx7 := HXC.out _ _ _ HY7.out; have hs7 := g7.size; clear o7 g7; have HFB := hide (HF7.out.below (alloc_below w7 (.cells #[.slice (some ⟨g1, 0, none⟩) N c1] 22))); have HYB := hide (HY7.out.below (alloc_below w7 (.cells #[.slice (some ⟨g1, 0, none⟩) N c1] 22)) (Nat.le_refl _)); have HCB := hide (row_cell w7 (.slice (some ⟨g1, 0, none⟩) N c1)))
                | (at_builtin; refine wpList_append_row _ rfl (.tmp 73) (.tmp 75) rfl w.heap.size u6 vs BL (.slice (some ⟨g1, 0, none⟩) N c1) b w7.heap.size 1 rfl rfl HFB.out.bo HCB.out (HYB.out.mono (by omega)) (fun y hy => ?_) (by omega) HFB.out.bel.size ?_; (cases ey : y.ownBlock with | none => exact .inl rfl | some gy => exact .inr (fun e' => by have := HF.out.bo.lt y hy gy ey; have := (World.ownsRow.lt HYB.out gy e'.symm).1; omega)); intro bl8 w8 o8 g8; have HF8 := hide (HFB.out.body HAP6.out o8 g8); clear o8 g8))
              go_roundw
              case rel => exact ⟨k + 1, bs ++ [b], _, by omega, by rw [List.length_append, hbl]; rfl, by go_num, (fun y hy => (List.mem_append.1 hy).elim (HBS.out y) (fun h => by rw [List.mem_singleton.1 h]; exact ⟨hb1000, HBB.out⟩)), by rw [List.flatMap_append, List.map_append, HES.out, show [b].flatMap entryOf = en from by simp [HHN.out], show [b].map fullB = [fullB b] from rfl, hfb, HHT.out, HHB.out, Nat.zero_add, HN6.out]; exact HF8.out⟩
              case measure => simp [intOf]; omega
            · have hbr : bareB b = true := by rw [hlb, decide_eq_true hx10]
              have hxb : ((x : Int) != 10) = true := by simp; omega
              have hfb : fullB b = b ++ [10] := by unfold fullB; rw [hbr]; rfl
              clear hlb hbr
              obtain ⟨n9, hn9⟩ : ∃ n9, b.length + 1 = n9 := ⟨_, rfl⟩
              have hn9' : n9 ≤ 1001 := by omega
              have HL9 := hide (show (([] : List Nat) ++ b ++ [10]).length = n9 by rw [List.length_append, List.nil_append, List.length_singleton]; exact hn9)
              go_wp2_with (first
                | (at_builtin; refine wpList_append_blk _ rfl (.tmp 47) (.tmp 49) rfl w.heap.size u5 T en rfl HF5.out.tx a5 c5 rfl HO5.out (by omega) hs5 ?_; intro tv6 w6 o6 g6 k6; have HF6 := hide (HF5.out.text o6 g6 k6); have HY6 := hide (OwnB.kept HY5.out g6 HAP.out); have HAP6 := hide (apart_new HOY.out hs15 HAP.out k6); have hs6 := g6.size; obtain ⟨a6, c6, e6⟩ := o6.slice; rw [hn6] at e6; subst e6; clear o6 g6 k6; have HFI := hide (HF6.out.below (alloc_below w6 (.cells #[.int .i64 (n6 : Int)] 3))); have HYI := hide (HY6.out.below (alloc_below w6 (.cells #[.int .i64 (n6 : Int)] 3)) (Nat.le_refl _)); have HCI := hide (int_cell w6 n6); have hs6' := (alloc_below w6 (.cells #[.int .i64 (n6 : Int)] 3)).size)
                | (at_builtin; refine wpList_append_int _ rfl (.tmp 51) (.tmp 54) rfl w.heap.size u7 E n6 w6.heap.size 1 rfl rfl HFI.out.en HCI.out (by omega) HFI.out.bel.size ?_; intro ev7 w7 o7 g7; have HF7 := hide (HFI.out.ends o7 g7); have HY7 := hide (OwnB.kept HYI.out g7 (blocks_apart HYI.out HFI.out.en (by decide))); have hx7 := HXC.out _ _ _ HY7.out; have hs7 := g7.size; clear o7 g7; have HE7 := hide (empty_row w7); have HR7 := hide (HY7.out.below (alloc_below w7 (.cells #[] 5)) (Nat.le_refl _)).row; have hz7 : (w7.alloc (.cells #[] 5)).heap.size = w7.heap.size + 1 := World.size_alloc ..)
                | (at_builtin; refine wpList_append_blk_n _ rfl (.tmp 68) (.tmp 69) rfl w7.heap.size (.slice (some ⟨w7.heap.size, 0, none⟩) 0 0) [] b N hNV rfl HE7.out (some ⟨g1, 0, none⟩) c1 rfl HR7.out (by simp; omega) (by omega) ?_; intro y8 w8 o8 g8 _; have hs8 := g8.size; have HB8 := hide ((alloc_below w7 (.cells #[] 5)).grown g8 (by omega) (fun gg e => by simp [Value.ownBlock] at e; omega)); obtain ⟨a8, c8, e8⟩ := o8.slice; rw [List.nil_append, hNV] at e8; subst e8; have HO8 := hide (o8.below (alloc_below w8 (.cells #[.int .u8 10] 5)) (Nat.le_refl _)); have HR8 := hide (one_row w8 10); have hz8 : (w8.alloc (.cells #[.int .u8 10] 5)).heap.size = w8.heap.size + 1 := World.size_alloc ..; clear o8 g8)
                | (at_builtin; refine wpList_append_at _ rfl (.tmp 70) (.tmp 71) rfl w7.heap.size (.slice a8 N c8) ([] ++ b) [10] 1 rfl rfl HO8.out ⟨w8.heap.size, 0, none⟩ 1 rfl HR8.out (by simp; omega) (by omega) ?_; intro y9 w9 o9 g9; have hs9 := g9.size; have HB9 := hide ((HB8.out.trans ((alloc_below w8 (.cells #[.int .u8 10] 5)).mono (by omega))).grown g9 (by omega) (fun gg e => (World.ownsRow.lt HO8.out gg e).1)); have HO9 := hide o9; obtain ⟨a9, c9, e9⟩ := o9.slice; rw [HL9.out] at e9; subst e9; have HA9 := hide (own_apart o9 HF7.out.tx); have HF9 := hide ((HF7.out.below HB9.out).below (alloc_below w9 (.cells #[.slice a9 n9 c9] 22))); have HYB := hide (HO9.out.below (alloc_below w9 (.cells #[.slice a9 n9 c9] 22)) (Nat.le_refl _)); have HCB := hide (row_cell w9 (.slice a9 n9 c9)); clear o9 g9)
                | (at_builtin; refine wpList_append_row _ rfl (.tmp 73) (.tmp 75) rfl w.heap.size u6 vs BL (.slice a9 n9 c9) ([] ++ b ++ [10]) w9.heap.size 1 rfl rfl HF9.out.bo HCB.out (HYB.out.mono (by omega)) (fun y hy => ?_) (by omega) HF9.out.bel.size ?_; (cases ey : y.ownBlock with | none => exact .inl rfl | some gy => exact .inr (fun e' => by have := HF.out.bo.lt y hy gy ey; have := (World.ownsRow.lt HYB.out gy e'.symm).1; omega)); intro bl8 w10 o10 g10; have HF8 := hide (HF9.out.body HA9.out o10 g10); clear o10 g10))
              go_roundw
              case rel => exact ⟨k + 1, bs ++ [b], _, by omega, by rw [List.length_append, hbl]; rfl, by go_num, (fun y hy => (List.mem_append.1 hy).elim (HBS.out y) (fun h => by rw [List.mem_singleton.1 h]; exact ⟨hb1000, HBB.out⟩)), by rw [List.flatMap_append, List.map_append, HES.out, show [b].flatMap entryOf = en from by simp [HHN.out], show [b].map fullB = [fullB b] from rfl, hfb, show ([b ++ [10]] : List (List Nat)) = [[] ++ b ++ [10]] from rfl, HHT.out, HHB.out, Nat.zero_add, HN6.out]; exact HF8.out⟩
              case measure => simp [intOf]; omega
        · have h00 : l1 = [] := List.eq_nil_of_length_eq_zero (by omega)
          subst h00
          simp only [List.length_nil] at o1 ⊢
          obtain ⟨b, hbdef⟩ : ∃ b : List Nat, b = [] := ⟨_, rfl⟩
          have OY : OwnB w1 wr.heap.size (.slice a1 0 c1) b := by rw [hbdef]; exact o1
          have hNV : b.length = 0 := by rw [hbdef]; rfl
          have hbb : ∀ x ∈ b, x < 256 := by rw [hbdef]; exact fun x hx => by cases hx
          have hfb : fullB b = b := by rw [hbdef]; rfl
          clear hbdef o1 hb1 hlc h0
          have hb1000 : b.length ≤ 1000 := by omega
          go_wp2_with fail
          refine (quote_own OY (by omega) hbb).mono ?_
          rintro e w2 ⟨v2, rfl, o2, hB2⟩
          obtain ⟨a2, c2, rfl⟩ := o2.slice
          have hq2 := quote_len b
          have hqb := quote_byte b hbb
          have HQB := hide hqb
          have HBB := hide hbb
          clear hqb hbb
          go_wp2_with fail
          refine (unquote_own o2 (by omega) HQB.out).mono ?_
          rintro e w3 ⟨v3, rfl, o3, hB3⟩
          rw [unquote_quote] at o3
          obtain ⟨a3, c3, rfl⟩ := o3.slice
          have OY3 := OY.below (below_more hB2 hB3) (Nat.le_refl _)
          go_wp2_with fail
          refine (sameBytes_n 0 0 a3 a1 c3 c1 b w3 hNV hNV o3.row OY3.row).mono ?_
          rintro e w4 ⟨rfl, rfl⟩
          have hB14 := below_more hB2 hB3
          clear o2 o3 hB2 hB3 HQB
          go_wp2_with fail
          refine (entry_own OY3 (by omega) HBB.out).mono ?_
          rintro e w5 ⟨v5, rfl, o5, hB5⟩
          obtain ⟨a5, c5, rfl⟩ := o5.slice
          have hel := entry_len b
          have hB15 := below_more hB14 hB5
          have F5 := HF.out.below (below_more hB1 hB15)
          have HY5 := hide (OY.below hB15 (Nat.le_refl _))
          have hs15 := hB15.size
          have hsr1 := hB1.size
          have hswr := HF.out.bel.size
          have hap := own_apart OY HF.out.tx
          have HF5 := hide F5
          have HO5 := hide o5.row
          have HOY := hide OY
          have HAP := hide hap
          have hs5 := F5.bel.size
          have hEl := ends_len 0 bs
          have HES := hide (ends_snoc 0 bs b)
          clear OY OY3 o5 hB14 hB5 F5 hB1 hap
          generalize hT : bs.flatMap entryOf = T at HF5 HES hT9
          generalize hen : entryOf b = en at HO5 HES hel
          generalize hE : endsOf 0 bs = E at HF5 HES hEl
          generalize hBL : bs.map fullB = BL at HF5
          have hBl : BL.length = k := by rw [← hBL, List.length_map]; exact hbl
          have HHT := hide hT
          have HHE := hide hE
          have HHB := hide hBL
          have HHN := hide hen
          clear hT hE hBL hen
          generalize hn6 : (T ++ en).length = n6
          have hn6' : n6 ≤ 20000 := by rw [← hn6, List.length_append]; omega
          have HN6 := hide (show T.length + en.length = n6 by rw [← hn6, List.length_append])
          go_wp2_with (first
            | (at_builtin; refine wpList_append_blk _ rfl (.tmp 47) (.tmp 49) rfl w.heap.size u5 T en rfl HF5.out.tx a5 c5 rfl HO5.out (by omega) hs5 ?_; intro tv6 w6 o6 g6 k6; have HF6 := hide (HF5.out.text o6 g6 k6); have HY6 := hide (OwnB.kept HY5.out g6 HAP.out); have HAP6 := hide (apart_new HOY.out hs15 HAP.out k6); have hs6 := g6.size; obtain ⟨a6, c6, e6⟩ := o6.slice; rw [hn6] at e6; subst e6; clear o6 g6 k6; have HFI := hide (HF6.out.below (alloc_below w6 (.cells #[.int .i64 (n6 : Int)] 3))); have HYI := hide (HY6.out.below (alloc_below w6 (.cells #[.int .i64 (n6 : Int)] 3)) (Nat.le_refl _)); have HCI := hide (int_cell w6 n6); have hs6' := (alloc_below w6 (.cells #[.int .i64 (n6 : Int)] 3)).size)
            | (at_builtin; refine wpList_append_int _ rfl (.tmp 51) (.tmp 54) rfl w.heap.size u7 E n6 w6.heap.size 1 rfl rfl HFI.out.en HCI.out (by omega) HFI.out.bel.size ?_; intro ev7 w7 o7 g7; have HF7 := hide (HFI.out.ends o7 g7); have HY7 := hide (OwnB.kept HYI.out g7 (blocks_apart HYI.out HFI.out.en (by decide))); have hs7 := g7.size; clear o7 g7; have HFB := hide (HF7.out.below (alloc_below w7 (.cells #[.slice a1 0 c1] 22))); have HYB := hide (HY7.out.below (alloc_below w7 (.cells #[.slice a1 0 c1] 22)) (Nat.le_refl _)); have HCB := hide (row_cell w7 (.slice a1 0 c1)))
            | (at_builtin; refine wpList_append_row _ rfl (.tmp 73) (.tmp 75) rfl w.heap.size u6 vs BL (.slice a1 0 c1) b w7.heap.size 1 rfl rfl HFB.out.bo HCB.out (HYB.out.mono (by omega)) (fun y hy => ?_) (by omega) HFB.out.bel.size ?_; (cases ey : y.ownBlock with | none => exact .inl rfl | some gy => exact .inr (fun e' => by have := HF.out.bo.lt y hy gy ey; have := (World.ownsRow.lt HYB.out gy e'.symm).1; omega)); intro bl8 w8 o8 g8; have HF8 := hide (HFB.out.body HAP6.out o8 g8); clear o8 g8))
          go_roundw
          case rel => exact ⟨k + 1, bs ++ [b], _, by omega, by rw [List.length_append, hbl]; rfl, by go_num, (fun y hy => (List.mem_append.1 hy).elim (HBS.out y) (fun h => by rw [List.mem_singleton.1 h]; exact ⟨hb1000, HBB.out⟩)), by rw [List.flatMap_append, List.map_append, HES.out, show [b].flatMap entryOf = en from by simp [HHN.out], show [b].map fullB = [fullB b] from rfl, hfb, HHT.out, HHB.out, Nat.zero_add, HN6.out]; exact HF8.out⟩
          case measure => simp [intOf]; omega
      · have HRA := hide RA
        clear RA
        go_wp2_with fail
        refine (drawQuote_n _ _ _ (d.drop F) wr hdl (by omega) HRA.out HBF.out).mono ?_
        rintro e w1 ⟨v1, l1, rfl, o1, hl1, hb1, hB1⟩
        obtain ⟨a1, c1, rfl⟩ := o1.slice
        have hlc : l1.length ≤ c1 := by
          rcases o1.2 with ⟨e, hn⟩ | ⟨g, cap, cur, e, _, _, hc, _⟩
          · omega
          · simp only [Value.slice.injEq, true_and] at e; omega
        clear HRA
        by_cases h0 : 0 < l1.length
        · obtain ⟨g1, rfl⟩ : ∃ g1, a1 = some ⟨g1, 0, none⟩ := by
            rcases o1.2 with ⟨_, hn⟩ | ⟨g, cap', cur, h', _⟩
            · omega
            · simp only [Value.slice.injEq] at h'; exact ⟨g, h'.1⟩
          by_cases hbig : 1000 < l1.length
          · have hbi : (1000 : Int) < (l1.length : Int) := by omega
            have hci2 : (1000 : Int) ≤ (c1 : Int) := by omega
            obtain ⟨b, hbdef⟩ : ∃ b, b = l1.take 1000 := ⟨_, rfl⟩
            have OY : OwnB w1 wr.heap.size (.slice (some ⟨g1, 0, none⟩) 1000 c1) b := by rw [hbdef]; exact o1.shorter (by omega) (by omega)
            have hNV : b.length = 1000 := by rw [hbdef, List.length_take]; omega
            have hbb : ∀ x ∈ b, x < 256 := by rw [hbdef]; exact fun x hx => hb1 x (List.mem_of_mem_take hx)
            clear hbdef o1 hb1
            have hb1000 : b.length ≤ 1000 := by omega
            have hbp : 0 < b.length := by omega
            go_wp2_with fail
            refine (quote_own OY (by omega) hbb).mono ?_
            rintro e w2 ⟨v2, rfl, o2, hB2⟩
            obtain ⟨a2, c2, rfl⟩ := o2.slice
            have hq2 := quote_len b
            have hqb := quote_byte b hbb
            have HQB := hide hqb
            have HBB := hide hbb
            clear hqb hbb
            go_wp2_with fail
            refine (unquote_own o2 (by omega) HQB.out).mono ?_
            rintro e w3 ⟨v3, rfl, o3, hB3⟩
            rw [unquote_quote] at o3
            obtain ⟨a3, c3, rfl⟩ := o3.slice
            have OY3 := OY.below (below_more hB2 hB3) (Nat.le_refl _)
            go_wp2_with fail
            refine (sameBytes_n 1000 1000 a3 (some ⟨g1, 0, none⟩) c3 c1 b w3 hNV hNV o3.row OY3.row).mono ?_
            rintro e w4 ⟨rfl, rfl⟩
            have hB14 := below_more hB2 hB3
            clear o2 o3 hB2 hB3 HQB
            go_wp2_with fail
            refine (entry_own OY3 (by omega) HBB.out).mono ?_
            rintro e w5 ⟨v5, rfl, o5, hB5⟩
            obtain ⟨a5, c5, rfl⟩ := o5.slice
            have hel := entry_len b
            have hB15 := below_more hB14 hB5
            have F5 := HF.out.below (below_more hB1 hB15)
            have HY5 := hide (OY.below hB15 (Nat.le_refl _))
            have hs15 := hB15.size
            have hsr1 := hB1.size
            have hswr := HF.out.bel.size
            have hap := own_apart OY HF.out.tx
            have HF5 := hide F5
            have HO5 := hide o5.row
            have HOY := hide OY
            have HAP := hide hap
            have hs5 := F5.bel.size
            have hEl := ends_len 0 bs
            have HES := hide (ends_snoc 0 bs b)
            clear OY OY3 o5 hB14 hB5 F5 hB1 hap
            generalize hT : bs.flatMap entryOf = T at HF5 HES hT9
            generalize hen : entryOf b = en at HO5 HES hel
            generalize hE : endsOf 0 bs = E at HF5 HES hEl
            generalize hBL : bs.map fullB = BL at HF5
            have hBl : BL.length = k := by rw [← hBL, List.length_map]; exact hbl
            have HHT := hide hT
            have HHE := hide hE
            have HHB := hide hBL
            have HHN := hide hen
            clear hT hE hBL hen
            obtain ⟨x, hxd⟩ : ∃ x, x = b[b.length - 1] := ⟨_, rfl⟩
            have hlb := last_bare hbp
            rw [← hxd] at hlb
            have HXC := hide (fun (W : World) (base : Nat) (cap : Nat) (h : OwnB W base (.slice (some ⟨g1, 0, none⟩) 1000 cap) b) => (by have h2 := h.cellAt (b.length - 1) (by omega); rw [← hxd, hNV] at h2; exact h2 : W.cell? ⟨g1, 1000 - 1, none⟩ = some (.int .u8 (x : Int))))
            simp only [Nat.reduceSub] at HXC
            clear hxd
            generalize hn6 : (T ++ en).length = n6
            have hn6' : n6 ≤ 20000 := by rw [← hn6, List.length_append]; omega
            have HN6 := hide (show T.length + en.length = n6 by rw [← hn6, List.length_append])
            by_cases hx10 : x = 10
            · have hbr : bareB b = false := by rw [hlb, hx10]; rfl
              have hxb : ((x : Int) != 10) = false := by rw [hx10]; rfl
              have hfb : fullB b = b := by unfold fullB; rw [hbr]; rfl
              clear hlb hbr
              go_wp2_with (first
                | (at_builtin; refine wpList_append_blk _ rfl (.tmp 47) (.tmp 49) rfl w.heap.size u5 T en rfl HF5.out.tx a5 c5 rfl HO5.out (by omega) hs5 ?_; intro tv6 w6 o6 g6 k6; have HF6 := hide (HF5.out.text o6 g6 k6); have HY6 := hide (OwnB.kept HY5.out g6 HAP.out); have HAP6 := hide (apart_new HOY.out hs15 HAP.out k6); have hs6 := g6.size; obtain ⟨a6, c6, e6⟩ := o6.slice; rw [hn6] at e6; subst e6; clear o6 g6 k6; have HFI := hide (HF6.out.below (alloc_below w6 (.cells #[.int .i64 (n6 : Int)] 3))); have HYI := hide (HY6.out.below (alloc_below w6 (.cells #[.int .i64 (n6 : Int)] 3)) (Nat.le_refl _)); have HCI := hide (int_cell w6 n6); have hs6' := (alloc_below w6 (.cells #[.int .i64 (n6 : Int)] 3)).size)
                | (at_builtin; refine wpList_append_int _ rfl (.tmp 51) (.tmp 54) rfl w.heap.size u7 E n6 w6.heap.size 1 rfl rfl HFI.out.en HCI.out (by omega) HFI.out.bel.size ?_; intro ev7 w7 o7 g7; have HF7 := hide (HFI.out.ends o7 g7); have HY7 := hide (OwnB.kept HYI.out g7 (blocks_apart HYI.out HFI.out.en (by decide))); have hx7 := HXC.out _ _ _ HY7.out; have hs7 := g7.size; clear o7 g7; have HFB := hide (HF7.out.below (alloc_below w7 (.cells #[.slice (some ⟨g1, 0, none⟩) 1000 c1] 22))); have HYB := hide (HY7.out.below (alloc_below w7 (.cells #[.slice (some ⟨g1, 0, none⟩) 1000 c1] 22)) (Nat.le_refl _)); have HCB := hide (row_cell w7 (.slice (some ⟨g1, 0, none⟩) 1000 c1)))
                | (at_builtin; refine wpList_append_row _ rfl (.tmp 73) (.tmp 75) rfl w.heap.size u6 vs BL (.slice (some ⟨g1, 0, none⟩) 1000 c1) b w7.heap.size 1 rfl rfl HFB.out.bo HCB.out (HYB.out.mono (by omega)) (fun y hy => ?_) (by omega) HFB.out.bel.size ?_; (cases ey : y.ownBlock with | none => exact .inl rfl | some gy => exact .inr (fun e' => by have := HF.out.bo.lt y hy gy ey; have := (World.ownsRow.lt HYB.out gy e'.symm).1; omega)); intro bl8 w8 o8 g8; have HF8 := hide (HFB.out.body HAP6.out o8 g8); clear o8 g8))
              go_roundw
              case rel => exact ⟨k + 1, bs ++ [b], _, by omega, by rw [List.length_append, hbl]; rfl, by go_num, (fun y hy => (List.mem_append.1 hy).elim (HBS.out y) (fun h => by rw [List.mem_singleton.1 h]; exact ⟨hb1000, HBB.out⟩)), by rw [List.flatMap_append, List.map_append, HES.out, show [b].flatMap entryOf = en from by simp [HHN.out], show [b].map fullB = [fullB b] from rfl, hfb, HHT.out, HHB.out, Nat.zero_add, HN6.out]; exact HF8.out⟩
              case measure => simp [intOf]; omega
            · have hbr : bareB b = true := by rw [hlb, decide_eq_true hx10]
              have hxb : ((x : Int) != 10) = true := by simp; omega
              have hfb : fullB b = b ++ [10] := by unfold fullB; rw [hbr]; rfl
              clear hlb hbr
              obtain ⟨n9, hn9⟩ : ∃ n9, b.length + 1 = n9 := ⟨_, rfl⟩
              have hn9' : n9 ≤ 1001 := by omega
              have HL9 := hide (show (([] : List Nat) ++ b ++ [10]).length = n9 by rw [List.length_append, List.nil_append, List.length_singleton]; exact hn9)
              go_wp2_with (first
                | (at_builtin; refine wpList_append_blk _ rfl (.tmp 47) (.tmp 49) rfl w.heap.size u5 T en rfl HF5.out.tx a5 c5 rfl HO5.out (by omega) hs5 ?_; intro tv6 w6 o6 g6 k6; have HF6 := hide (HF5.out.text o6 g6 k6); have HY6 := hide (OwnB.kept HY5.out g6 HAP.out); have HAP6 := hide (apart_new HOY.out hs15 HAP.out k6); have hs6 := g6.size; obtain ⟨a6, c6, e6⟩ := o6.slice; rw [hn6] at e6; subst e6; clear o6 g6 k6; have HFI := hide (HF6.out.below (alloc_below w6 (.cells #[.int .i64 (n6 : Int)] 3))); have HYI := hide (HY6.out.below (alloc_below w6 (.cells #[.int .i64 (n6 : Int)] 3)) (Nat.le_refl _)); have HCI := hide (int_cell w6 n6); have hs6' := (alloc_below w6 (.cells #[.int .i64 (n6 : Int)] 3)).size)
                | (at_builtin; refine wpList_append_int _ rfl (.tmp 51) (.tmp 54) rfl w.heap.size u7 E n6 w6.heap.size 1 rfl rfl HFI.out.en HCI.out (by omega) HFI.out.bel.size ?_; intro ev7 w7 o7 g7; have HF7 := hide (HFI.out.ends o7 g7); have HY7 := hide (OwnB.kept HYI.out g7 (blocks_apart HYI.out HFI.out.en (by decide))); have hx7 := HXC.out _ _ _ HY7.out; have hs7 := g7.size; clear o7 g7; have HE7 := hide (empty_row w7); have HR7 := hide (HY7.out.below (alloc_below w7 (.cells #[] 5)) (Nat.le_refl _)).row; have hz7 : (w7.alloc (.cells #[] 5)).heap.size = w7.heap.size + 1 := World.size_alloc ..)
                | (at_builtin; refine wpList_append_blk_n _ rfl (.tmp 68) (.tmp 69) rfl w7.heap.size (.slice (some ⟨w7.heap.size, 0, none⟩) 0 0) [] b 1000 hNV rfl HE7.out (some ⟨g1, 0, none⟩) c1 rfl HR7.out (by simp; omega) (by omega) ?_; intro y8 w8 o8 g8 _; have hs8 := g8.size; have HB8 := hide ((alloc_below w7 (.cells #[] 5)).grown g8 (by omega) (fun gg e => by simp [Value.ownBlock] at e; omega)); obtain ⟨a8, c8, e8⟩ := o8.slice; rw [List.nil_append, hNV] at e8; subst e8; have HO8 := hide (o8.below (alloc_below w8 (.cells #[.int .u8 10] 5)) (Nat.le_refl _)); have HR8 := hide (one_row w8 10); have hz8 : (w8.alloc (.cells #[.int .u8 10] 5)).heap.size = w8.heap.size + 1 := World.size_alloc ..; clear o8 g8)
                | (at_builtin; refine wpList_append_at _ rfl (.tmp 70) (.tmp 71) rfl w7.heap.size (.slice a8 1000 c8) ([] ++ b) [10] 1 rfl rfl HO8.out ⟨w8.heap.size, 0, none⟩ 1 rfl HR8.out (by simp; omega) (by omega) ?_; intro y9 w9 o9 g9; have hs9 := g9.size; have HB9 := hide ((HB8.out.trans ((alloc_below w8 (.cells #[.int .u8 10] 5)).mono (by omega))).grown g9 (by omega) (fun gg e => (World.ownsRow.lt HO8.out gg e).1)); have HO9 := hide o9; obtain ⟨a9, c9, e9⟩ := o9.slice; rw [HL9.out] at e9; subst e9; have HA9 := hide (own_apart o9 HF7.out.tx); have HF9 := hide ((HF7.out.below HB9.out).below (alloc_below w9 (.cells #[.slice a9 n9 c9] 22))); have HYB := hide (HO9.out.below (alloc_below w9 (.cells #[.slice a9 n9 c9] 22)) (Nat.le_refl _)); have HCB := hide (row_cell w9 (.slice a9 n9 c9)); clear o9 g9)
                | (at_builtin; refine wpList_append_row _ rfl (.tmp 73) (.tmp 75) rfl w.heap.size u6 vs BL (.slice a9 n9 c9) ([] ++ b ++ [10]) w9.heap.size 1 rfl rfl HF9.out.bo HCB.out (HYB.out.mono (by omega)) (fun y hy => ?_) (by omega) HF9.out.bel.size ?_; (cases ey : y.ownBlock with | none => exact .inl rfl | some gy => exact .inr (fun e' => by have := HF.out.bo.lt y hy gy ey; have := (World.ownsRow.lt HYB.out gy e'.symm).1; omega)); intro bl8 w10 o10 g10; have HF8 := hide (HF9.out.body HA9.out o10 g10); clear o10 g10))
              go_roundw
              case rel => exact ⟨k + 1, bs ++ [b], _, by omega, by rw [List.length_append, hbl]; rfl, by go_num, (fun y hy => (List.mem_append.1 hy).elim (HBS.out y) (fun h => by rw [List.mem_singleton.1 h]; exact ⟨hb1000, HBB.out⟩)), by rw [List.flatMap_append, List.map_append, HES.out, show [b].flatMap entryOf = en from by simp [HHN.out], show [b].map fullB = [fullB b] from rfl, hfb, show ([b ++ [10]] : List (List Nat)) = [[] ++ b ++ [10]] from rfl, HHT.out, HHB.out, Nat.zero_add, HN6.out]; exact HF8.out⟩
              case measure => simp [intOf]; omega
          · have hbi : ¬ (1000 : Int) < (l1.length : Int) := by omega
            obtain ⟨b, hbdef⟩ : ∃ b, b = l1 := ⟨_, rfl⟩
            have OY : OwnB w1 wr.heap.size (.slice (some ⟨g1, 0, none⟩) l1.length c1) b := by rw [hbdef]; exact o1
            have hNV : b.length = l1.length := by rw [hbdef]
            have hbb : ∀ x ∈ b, x < 256 := by rw [hbdef]; exact hb1
            clear hbdef o1 hb1
            generalize l1.length = N at *
            have hb1000 : b.length ≤ 1000 := by omega
            have hbp : 0 < b.length := by omega
            go_wp2_with fail
            refine (quote_own OY (by omega) hbb).mono ?_
            rintro e w2 ⟨v2, rfl, o2, hB2⟩
            obtain ⟨a2, c2, rfl⟩ := o2.slice
            have hq2 := quote_len b
            have hqb := quote_byte b hbb
            have HQB := hide hqb
            have HBB := hide hbb
            clear hqb hbb
            go_wp2_with fail
            refine (unquote_own o2 (by omega) HQB.out).mono ?_
            rintro e w3 ⟨v3, rfl, o3, hB3⟩
            rw [unquote_quote] at o3
            obtain ⟨a3, c3, rfl⟩ := o3.slice
            have OY3 := OY.below (below_more hB2 hB3) (Nat.le_refl _)
            go_wp2_with fail
            refine (sameBytes_n N N a3 (some ⟨g1, 0, none⟩) c3 c1 b w3 hNV hNV o3.row OY3.row).mono ?_
            rintro e w4 ⟨rfl, rfl⟩
            have hB14 := below_more hB2 hB3
            clear o2 o3 hB2 hB3 HQB
            go_wp2_with fail
            refine (entry_own OY3 (by omega) HBB.out).mono ?_
            rintro e w5 ⟨v5, rfl, o5, hB5⟩
            obtain ⟨a5, c5, rfl⟩ := o5.slice
            have hel := entry_len b
            have hB15 := below_more hB14 hB5
            have F5 := HF.out.below (below_more hB1 hB15)
            have HY5 := hide (OY.below hB15 (Nat.le_refl _))
            have hs15 := hB15.size
            have hsr1 := hB1.size
            have hswr := HF.out.bel.size
            have hap := own_apart OY HF.out.tx
            have HF5 := hide F5
            have HO5 := hide o5.row
            have HOY := hide OY
            have HAP := hide hap
            have hs5 := F5.bel.size
            have hEl := ends_len 0 bs
            have HES := hide (ends_snoc 0 bs b)
            clear OY OY3 o5 hB14 hB5 F5 hB1 hap
            generalize hT : bs.flatMap entryOf = T at HF5 HES hT9
            generalize hen : entryOf b = en at HO5 HES hel
            generalize hE : endsOf 0 bs = E at HF5 HES hEl
            generalize hBL : bs.map fullB = BL at HF5
            have hBl : BL.length = k := by rw [← hBL, List.length_map]; exact hbl
            have HHT := hide hT
            have HHE := hide hE
            have HHB := hide hBL
            have HHN := hide hen
            clear hT hE hBL hen
            obtain ⟨x, hxd⟩ : ∃ x, x = b[b.length - 1] := ⟨_, rfl⟩
            have hlb := last_bare hbp
            rw [← hxd] at hlb
            have HXC := hide (fun (W : World) (base : Nat) (cap : Nat) (h : OwnB W base (.slice (some ⟨g1, 0, none⟩) N cap) b) => (by have h2 := h.cellAt (b.length - 1) (by omega); rw [← hxd, hNV] at h2; exact h2 : W.cell? ⟨g1, N - 1, none⟩ = some (.int .u8 (x : Int))))
            clear hxd
            generalize hn6 : (T ++ en).length = n6
            have hn6' : n6 ≤ 20000 := by rw [← hn6, List.length_append]; omega
            have HN6 := hide (show T.length + en.length = n6 by rw [← hn6, List.length_append])
            by_cases hx10 : x = 10
            · have hbr : bareB b = false := by rw [hlb, hx10]; rfl
              have hxb : ((x : Int) != 10) = false := by rw [hx10]; rfl
              have hfb : fullB b = b := by unfold fullB; rw [hbr]; rfl
              clear hlb hbr
              go_wp2_with (first
                | (at_builtin; refine wpList_append_blk _ rfl (.tmp 47) (.tmp 49) rfl w.heap.size u5 T en rfl HF5.out.tx a5 c5 rfl HO5.out (by omega) hs5 ?_; intro tv6 w6 o6 g6 k6; have HF6 := hide (HF5.out.text o6 g6 k6); have HY6 := hide (OwnB.kept HY5.out g6 HAP.out); have HAP6 := hide (apart_new HOY.out hs15 HAP.out k6); have hs6 := g6.size; obtain ⟨a6, c6, e6⟩ := o6.slice; rw [hn6] at e6; subst e6; clear o6 g6 k6; have HFI := hide (HF6.out.below (alloc_below w6 (.cells #[.int .i64 (n6 : Int)] 3))); have HYI := hide (HY6.out.below (alloc_below w6 (.cells #[.int .i64 (n6 : Int)] 3)) (Nat.le_refl _)); have HCI := hide (int_cell w6 n6); have hs6' := (alloc_below w6 (.cells #[.int .i64 (n6 : Int)] 3)).size)
                | (at_builtin; refine wpList_append_int _ rfl (.tmp 51) (.tmp 54) rfl w.heap.size u7 E n6 w6.heap.size 1 rfl rfl HFI.out.en HCI.out (by omega) HFI.out.bel.size ?_; intro ev7 w7 o7 g7; have HF7 := hide (HFI.out.ends o7 g7); have HY7 := hide (OwnB.kept HYI.out g7 (blocks_apart HYI.out HFI.out.en (by decide))); have hx7 := HXC.out _ _ _ HY7.out; have hs7 := g7.size; clear o7 g7; have HFB := hide (HF7.out.below (alloc_below w7 (.cells #[.slice (some ⟨g1, 0, none⟩) N c1] 22))); have HYB := hide (HY7.out.below (alloc_below w7 (.cells #[.slice (some ⟨g1, 0, none⟩) N c1] 22)) (Nat.le_refl _)); have HCB := hide (row_cell w7 (.slice (some ⟨g1, 0, none⟩) N c1)))
                | (at_builtin; refine wpList_append_row _ rfl (.tmp 73) (.tmp 75) rfl w.heap.size u6 vs BL (.slice (some ⟨g1, 0, none⟩) N c1) b w7.heap.size 1 rfl rfl HFB.out.bo HCB.out (HYB.out.mono (by omega)) (fun y hy => ?_) (by omega) HFB.out.bel.size ?_; (cases ey : y.ownBlock with | none => exact .inl rfl | some gy => exact .inr (fun e' => by have := HF.out.bo.lt y hy gy ey; have := (World.ownsRow.lt HYB.out gy e'.symm).1; omega)); intro bl8 w8 o8 g8; have HF8 := hide (HFB.out.body HAP6.out o8 g8); clear o8 g8))
              go_roundw
              case rel => exact ⟨k + 1, bs ++ [b], _, by omega, by rw [List.length_append, hbl]; rfl, by go_num, (fun y hy => (List.mem_append.1 hy).elim (HBS.out y) (fun h => by rw [List.mem_singleton.1 h]; exact ⟨hb1000, HBB.out⟩)), by rw [List.flatMap_append, List.map_append, HES.out, show [b].flatMap entryOf = en from by simp [HHN.out], show [b].map fullB = [fullB b] from rfl, hfb, HHT.out, HHB.out, Nat.zero_add, HN6.out]; exact HF8.out⟩
              case measure => simp [intOf]; omega
            · have hbr : bareB b = true := by rw [hlb, decide_eq_true hx10]
              have hxb : ((x : Int) != 10) = true := by simp; omega
              have hfb : fullB b = b ++ [10] := by unfold fullB; rw [hbr]; rfl
              clear hlb hbr
              obtain ⟨n9, hn9⟩ : ∃ n9, b.length + 1 = n9 := ⟨_, rfl⟩
              have hn9' : n9 ≤ 1001 := by omega
              have HL9 := hide (show (([] : List Nat) ++ b ++ [10]).length = n9 by rw [List.length_append, List.nil_append, List.length_singleton]; exact hn9)
              go_wp2_with (first
                | (at_builtin; refine wpList_append_blk _ rfl (.tmp 47) (.tmp 49) rfl w.heap.size u5 T en rfl HF5.out.tx a5 c5 rfl HO5.out (by omega) hs5 ?_; intro tv6 w6 o6 g6 k6; have HF6 := hide (HF5.out.text o6 g6 k6); have HY6 := hide (OwnB.kept HY5.out g6 HAP.out); have HAP6 := hide (apart_new HOY.out hs15 HAP.out k6); have hs6 := g6.size; obtain ⟨a6, c6, e6⟩ := o6.slice; rw [hn6] at e6; subst e6; clear o6 g6 k6; have HFI := hide (HF6.out.below (alloc_below w6 (.cells #[.int .i64 (n6 : Int)] 3))); have HYI := hide (HY6.out.below (alloc_below w6 (.cells #[.int .i64 (n6 : Int)] 3)) (Nat.le_refl _)); have HCI := hide (int_cell w6 n6); have hs6' := (alloc_below w6 (.cells #[.int .i64 (n6 : Int)] 3)).size)
                | (at_builtin; refine wpList_append_int _ rfl (.tmp 51) (.tmp 54) rfl w.heap.size u7 E n6 w6.heap.size 1 rfl rfl HFI.out.en HCI.out (by omega) HFI.out.bel.size ?_; intro ev7 w7 o7 g7; have HF7 := hide (HFI.out.ends o7 g7); have HY7 := hide (OwnB.kept HYI.out g7 (blocks_apart HYI.out HFI.out.en (by decide))); have hx7 := HXC.out _ _ _ HY7.out; have hs7 := g7.size; clear o7 g7; have HE7 := hide (empty_row w7); have HR7 := hide (HY7.out.below (alloc_below w7 (.cells #[] 5)) (Nat.le_refl _)).row; have hz7 : (w7.alloc (.cells #[] 5)).heap.size = w7.heap.size + 1 := World.size_alloc ..)
                | (at_builtin; refine wpList_append_blk_n _ rfl (.tmp 68) (.tmp 69) rfl w7.heap.size (.slice (some ⟨w7.heap.size, 0, none⟩) 0 0) [] b N hNV rfl HE7.out (some ⟨g1, 0, none⟩) c1 rfl HR7.out (by simp; omega) (by omega) ?_; intro y8 w8 o8 g8 _; have hs8 := g8.size; have HB8 := hide ((alloc_below w7 (.cells #[] 5)).grown g8 (by omega) (fun gg e => by simp [Value.ownBlock] at e; omega)); obtain ⟨a8, c8, e8⟩ := o8.slice; rw [List.nil_append, hNV] at e8; subst e8; have HO8 := hide (o8.below (alloc_below w8 (.cells #[.int .u8 10] 5)) (Nat.le_refl _)); have HR8 := hide (one_row w8 10); have hz8 : (w8.alloc (.cells #[.int .u8 10] 5)).heap.size = w8.heap.size + 1 := World.size_alloc ..; clear o8 g8)
                | (at_builtin; refine wpList_append_at _ rfl (.tmp 70) (.tmp 71) rfl w7.heap.size (.slice a8 N c8) ([] ++ b) [10] 1 rfl rfl HO8.out ⟨w8.heap.size, 0, none⟩ 1 rfl HR8.out (by simp; omega) (by omega) ?_; intro y9 w9 o9 g9; have hs9 := g9.size; have HB9 := hide ((HB8.out.trans ((alloc_below w8 (.cells #[.int .u8 10] 5)).mono (by omega))).grown g9 (by omega) (fun gg e => (World.ownsRow.lt HO8.out gg e).1)); have HO9 := hide o9; obtain ⟨a9, c9, e9⟩ := o9.slice; rw [HL9.out] at e9; subst e9; have HA9 := hide (own_apart o9 HF7.out.tx); have HF9 := hide ((HF7.out.below HB9.out).below (alloc_below w9 (.cells #[.slice a9 n9 c9] 22))); have HYB := hide (HO9.out.below (alloc_below w9 (.cells #[.slice a9 n9 c9] 22)) (Nat.le_refl _)); have HCB := hide (row_cell w9 (.slice a9 n9 c9)); clear o9 g9)
                | (at_builtin; refine wpList_append_row _ rfl (.tmp 73) (.tmp 75) rfl w.heap.size u6 vs BL (.slice a9 n9 c9) ([] ++ b ++ [10]) w9.heap.size 1 rfl rfl HF9.out.bo HCB.out (HYB.out.mono (by omega)) (fun y hy => ?_) (by omega) HF9.out.bel.size ?_; (cases ey : y.ownBlock with | none => exact .inl rfl | some gy => exact .inr (fun e' => by have := HF.out.bo.lt y hy gy ey; have := (World.ownsRow.lt HYB.out gy e'.symm).1; omega)); intro bl8 w10 o10 g10; have HF8 := hide (HF9.out.body HA9.out o10 g10); clear o10 g10))
              go_roundw
              case rel => exact ⟨k + 1, bs ++ [b], _, by omega, by rw [List.length_append, hbl]; rfl, by go_num, (fun y hy => (List.mem_append.1 hy).elim (HBS.out y) (fun h => by rw [List.mem_singleton.1 h]; exact ⟨hb1000, HBB.out⟩)), by rw [List.flatMap_append, List.map_append, HES.out, show [b].flatMap entryOf = en from by simp [HHN.out], show [b].map fullB = [fullB b] from rfl, hfb, show ([b ++ [10]] : List (List Nat)) = [[] ++ b ++ [10]] from rfl, HHT.out, HHB.out, Nat.zero_add, HN6.out]; exact HF8.out⟩
              case measure => simp [intOf]; omega
        · have h00 : l1 = [] := List.eq_nil_of_length_eq_zero (by omega)
          subst h00
          simp only [List.length_nil] at o1 ⊢
          obtain ⟨b, hbdef⟩ : ∃ b : List Nat, b = [] := ⟨_, rfl⟩
          have OY : OwnB w1 wr.heap.size (.slice a1 0 c1) b := by rw [hbdef]; exact o1
          have hNV : b.length = 0 := by rw [hbdef]; rfl
          have hbb : ∀ x ∈ b, x < 256 := by rw [hbdef]; exact fun x hx => by cases hx
          have hfb : fullB b = b := by rw [hbdef]; rfl
          clear hbdef o1 hb1 hlc h0
          have hb1000 : b.length ≤ 1000 := by omega
          go_wp2_with fail
          refine (quote_own OY (by omega) hbb).mono ?_
          rintro e w2 ⟨v2, rfl, o2, hB2⟩
          obtain ⟨a2, c2, rfl⟩ := o2.slice
          have hq2 := quote_len b
          have hqb := quote_byte b hbb
          have HQB := hide hqb
          have HBB := hide hbb
          clear hqb hbb
          go_wp2_with fail
          refine (unquote_own o2 (by omega) HQB.out).mono ?_
          rintro e w3 ⟨v3, rfl, o3, hB3⟩
          rw [unquote_quote] at o3
          obtain ⟨a3, c3, rfl⟩ := o3.slice
          have OY3 := OY.below (below_more hB2 hB3) (Nat.le_refl _)
          go_wp2_with fail
          refine (sameBytes_n 0 0 a3 a1 c3 c1 b w3 hNV hNV o3.row OY3.row).mono ?_
          rintro e w4 ⟨rfl, rfl⟩
          have hB14 := below_more hB2 hB3
          clear o2 o3 hB2 hB3 HQB
          go_wp2_with fail
          refine (entry_own OY3 (by omega) HBB.out).mono ?_
          rintro e w5 ⟨v5, rfl, o5, hB5⟩
          obtain ⟨a5, c5, rfl⟩ := o5.slice
          have hel := entry_len b
          have hB15 := below_more hB14 hB5
          have F5 := HF.out.below (below_more hB1 hB15)
          have HY5 := hide (OY.below hB15 (Nat.le_refl _))
          have hs15 := hB15.size
          have hsr1 := hB1.size
          have hswr := HF.out.bel.size
          have hap := own_apart OY HF.out.tx
          have HF5 := hide F5
          have HO5 := hide o5.row
          have HOY := hide OY
          have HAP := hide hap
          have hs5 := F5.bel.size
          have hEl := ends_len 0 bs
          have HES := hide (ends_snoc 0 bs b)
          clear OY OY3 o5 hB14 hB5 F5 hB1 hap
          generalize hT : bs.flatMap entryOf = T at HF5 HES hT9
          generalize hen : entryOf b = en at HO5 HES hel
          generalize hE : endsOf 0 bs = E at HF5 HES hEl
          generalize hBL : bs.map fullB = BL at HF5
          have hBl : BL.length = k := by rw [← hBL, List.length_map]; exact hbl
          have HHT := hide hT
          have HHE := hide hE
          have HHB := hide hBL
          have HHN := hide hen
          clear hT hE hBL hen
          generalize hn6 : (T ++ en).length = n6
          have hn6' : n6 ≤ 20000 := by rw [← hn6, List.length_append]; omega
          have HN6 := hide (show T.length + en.length = n6 by rw [← hn6, List.length_append])
          go_wp2_with (first
            | (at_builtin; refine wpList_append_blk _ rfl (.tmp 47) (.tmp 49) rfl w.heap.size u5 T en rfl HF5.out.tx a5 c5 rfl HO5.out (by omega) hs5 ?_; intro tv6 w6 o6 g6 k6; have HF6 := hide (HF5.out.text o6 g6 k6); have HY6 := hide (OwnB.kept HY5.out g6 HAP.out); have HAP6 := hide (apart_new HOY.out hs15 HAP.out k6); have hs6 := g6.size; obtain ⟨a6, c6, e6⟩ := o6.slice; rw [hn6] at e6; subst e6; clear o6 g6 k6; have HFI := hide (HF6.out.below (alloc_below w6 (.cells #[.int .i64 (n6 : Int)] 3))); have HYI := hide (HY6.out.below (alloc_below w6 (.cells #[.int .i64 (n6 : Int)] 3)) (Nat.le_refl _)); have HCI := hide (int_cell w6 n6); have hs6' := (alloc_below w6 (.cells #[.int .i64 (n6 : Int)] 3)).size)
            | (at_builtin; refine wpList_append_int _ rfl (.tmp 51) (.tmp 54) rfl w.heap.size u7 E n6 w6.heap.size 1 rfl rfl HFI.out.en HCI.out (by omega) HFI.out.bel.size ?_; intro ev7 w7 o7 g7; have HF7 := hide (HFI.out.ends o7 g7); have HY7 := hide (OwnB.kept HYI.out g7 (blocks_apart HYI.out HFI.out.en (by decide))); have hs7 := g7.size; clear o7 g7; have HFB := hide (HF7.out.below (alloc_below w7 (.cells #[.slice a1 0 c1] 22))); have HYB := hide (HY7.out.below (alloc_below w7 (.cells #[.slice a1 0 c1] 22)) (Nat.le_refl _)); have HCB := hide (row_cell w7 (.slice a1 0 c1)))
            | (at_builtin; refine wpList_append_row _ rfl (.tmp 73) (.tmp 75) rfl w.heap.size u6 vs BL (.slice a1 0 c1) b w7.heap.size 1 rfl rfl HFB.out.bo HCB.out (HYB.out.mono (by omega)) (fun y hy => ?_) (by omega) HFB.out.bel.size ?_; (cases ey : y.ownBlock with | none => exact .inl rfl | some gy => exact .inr (fun e' => by have := HF.out.bo.lt y hy gy ey; have := (World.ownsRow.lt HYB.out gy e'.symm).1; omega)); intro bl8 w8 o8 g8; have HF8 := hide (HFB.out.body HAP6.out o8 g8); clear o8 g8))
          go_roundw
          case rel => exact ⟨k + 1, bs ++ [b], _, by omega, by rw [List.length_append, hbl]; rfl, by go_num, (fun y hy => (List.mem_append.1 hy).elim (HBS.out y) (fun h => by rw [List.mem_singleton.1 h]; exact ⟨hb1000, HBB.out⟩)), by rw [List.flatMap_append, List.map_append, HES.out, show [b].flatMap entryOf = en from by simp [HHN.out], show [b].map fullB = [fullB b] from rfl, hfb, HHT.out, HHB.out, Nat.zero_add, HN6.out]; exact HF8.out⟩
          case measure => simp [intOf]; omega
    · obtain rfl : k = 7 := by omega
      have hbs1 : ∀ b ∈ bs, b.length ≤ 8000 := fun b h => by have := (hbs b h).1; omega
      have hTl := ents_len bs (fun b h => (hbs b h).1)
      have hTp := ents_pos bs hbs1 (by omega)
      have hTb := ents_byte bs (fun b h => (hbs b h).2)
      obtain ⟨gt, ct, htv, hgt, hct, hctm⟩ := hF.tx.at1 hTp
      have hT : TextAt wr gt 0 (bs.flatMap entryOf) := fun i hi => by
        have h := hF.tx
        rw [htv] at h
        rw [Nat.zero_add]
        exact h.cellAt i hi
      have hsp := split_entries bs hbs1 (by omega)
      have htx := hF.tx
      have hen := hF.en
      have hbo := hF.bo
      have hbel := hF.bel
      clear hF
      generalize bs.flatMap entryOf = T at hTl hTp hTb htv hct hT hsp htx
      subst htv
      have HSP := hide hsp
      have IS := hide (implSplit_any gt 0 ct T wr (by omega) hct hctm hT hgt hTb)
      obtain ⟨ae, ce, hev⟩ := hen.slice
      obtain ⟨ab, cb, hbv⟩ := hbo.slice
      rw [ends_len, hbl] at hev
      rw [List.length_map, hbl] at hbv
      subst hev
      subst hbv
      have HEN := hide hen
      have HBO := hide (OwnBB.rows ⟨_, hbo⟩)
      have HBEL := hide hbel
      have HBL := hide hbl
      have hEl := ends_len 0 bs
      rw [hbl] at hEl
      clear hbs hbs1 hTl hTp hTb hT hct hctm hgt hsp htx hen hbo hbel
      go_wp2_with fail
      refine (IS.out).mono ?_
      rintro e w1 ⟨v, rfl, hs, hB1⟩
      rw [HSP.out] at hs
      obtain ⟨lv, vs2, rfl, h1, h2⟩ := hs
      obtain ⟨al, cl, hlv⟩ := h2.slice
      rw [List.length_map, spansE_len, hbl] at hlv
      subst hlv
      have hX : OwnX w1 wr.heap.size (.slice al 7 cl) vs2 (spansE 0 bs) := ⟨h1, h2⟩
      have HX := hide hX.at
      have HW1 := hide hB1
      clear h1 h2 hX hB1 IS HSP
      go_wp2
      have hA := alloc_below w1 (.cells #[.bool true, .slice al 7 cl] 31)
      generalize hW2 : w1.alloc (.cells #[.bool true, .slice al 7 cl] 31) = W2 at hA ⊢
      have HA := hide hA
      clear hW2 hA
      go_loopw [12, 13, 14, 91] (fun at_ _ _ i wv => ∃ k : Nat, k ≤ 7 ∧ i = .int .i64 (k : Int) ∧ at_ = .int .i64 (stOf bs k : Int) ∧ Below W2.heap.size W2 wv) (fun _ _ _ i _ => 7 - (intOf i).toNat)
      case atStart => exact ⟨0, by omega, rfl, val_int (by simp [stOf]), Below.refl _ _⟩
      case round =>
        obtain ⟨k, hk, rfl, rfl, hBv⟩ := hrel
        have hBw1 : Below w1.heap.size w1 wr := below_more HA.out hBv
        have hBr := below_more HW1.out hBw1
        have HFN := hide (below_more HBEL.out hBr)
        by_cases hlt : k < 7
        · have hki : (k : Int) < 7 := by omega
          have hkb : k < bs.length := by have := HBL.out; omega
          obtain ⟨bl2, ol2, hal, hcx⟩ := HX.out.below hBw1 (by rw [spansE_len]; omega)
          obtain ⟨ai, ci, x0, x1, x2, xr⟩ := hcx k (by rw [spansE_len]; exact hkb)
          obtain ⟨sa1, sa2⟩ := spansE_at bs 0 k hkb (by rw [spansE_len]; exact hkb) (by omega)
          rw [sa1] at x0 x1 x2 xr
          simp only [Nat.zero_add] at x0 x1 x2 xr
          have he := HEN.out.below hBr (Nat.le_refl _)
          obtain ⟨ge, hae⟩ : ∃ ge, ae = some ⟨ge, 0, none⟩ := by
            rcases he.2 with ⟨_, hn⟩ | ⟨g, cap, cur, h', _⟩
            · omega
            · simp only [Value.slice.injEq] at h'; exact ⟨g, h'.1⟩
          subst hae
          have e0 := he.cell k (by omega)
          rw [sa2, Nat.zero_add] at e0
          obtain ⟨bb, ob, hab, hcb⟩ := HBO.out.below hBr (by rw [List.length_map]; omega)
          obtain ⟨ai2, ci2, y0, yr⟩ := hcb k (by rw [List.length_map]; exact hkb)
          rw [List.getElem_map] at y0 yr
          subst hal
          subst hab
          generalize fullB bs[k] = B at x2 xr y0 yr
          generalize hs1 : stOf bs (k + 1) = s1 at x1 e0
          have HS1 := hide hs1
          generalize stOf bs k = s0 at x0 ⊢
          have hA3 := alloc_below wr (.cells #[.int .i64 (s0 : Int), .int .i64 (s1 : Int), .slice ai B.length ci] 34)
          have hN3 := heap_alloc_new wr (.cells #[.int .i64 (s0 : Int), .int .i64 (s1 : Int), .slice ai B.length ci] 34)
          have xr3 := xr.below hA3
          have yr3 := yr.below hA3
          have e03 := (hA3.cell (p := ⟨ge, k, none⟩) (lt_of_cell0 e0)).trans e0
          have y03 := (hA3.cell (p := ⟨bb, ob + k, none⟩) (lt_of_cell0 y0)).trans y0
          have d0 : (wr.alloc (.cells #[.int .i64 (s0 : Int), .int .i64 (s1 : Int), .slice ai B.length ci] 34)).cell? ⟨wr.heap.size, 0, none⟩ = some (.int .i64 (s0 : Int)) := by rw [cell_of_row _ _ _ _ _ _ hN3]; rfl
          have d1 : (wr.alloc (.cells #[.int .i64 (s0 : Int), .int .i64 (s1 : Int), .slice ai B.length ci] 34)).cell? ⟨wr.heap.size, 1, none⟩ = some (.int .i64 (s1 : Int)) := by rw [cell_of_row _ _ _ _ _ _ hN3]; rfl
          have d2 : (wr.alloc (.cells #[.int .i64 (s0 : Int), .int .i64 (s1 : Int), .slice ai B.length ci] 34)).cell? ⟨wr.heap.size, 2, none⟩ = some (.slice ai B.length ci) := by rw [cell_of_row _ _ _ _ _ _ hN3]; rfl
          have HXR := hide xr3
          have HYR := hide yr3
          have HBV := hide (below_more hBv hA3)
          have hq0 : ((s0 : Int) != (s0 : Int)) = false := by simp
          have hq1 : ((s1 : Int) != (s1 : Int)) = false := by simp
          clear hcx hcb xr yr xr3 yr3 sa1 sa2 he e0 y0 hA3 hN3 hBw1 hBr hBv hs1
          go_wp2
          generalize wr.alloc (.cells #[.int .i64 (s0 : Int), .int .i64 (s1 : Int), .slice ai B.length ci] 34) = W3 at d0 d1 d2 e03 y03 HXR HYR HBV ⊢
          clear x0 x1 x2
          go_quiet ((go_at_call 14; exact Calls.quiet_of (sameBytes_d ai ai2 ci ci2 B _ (HXR.out.drew _) (HYR.out.drew _))))
          have d1' : ∀ n, (W3.drewN n).cell? ⟨wr.heap.size, 1, none⟩ = some (.int .i64 (s1 : Int)) := fun _ => d1
          clear d0 d1 d2 e03 y03
          go_wp2
          go_roundw
          case rel => exact ⟨k + 1, by omega, by go_num, by rw [HS1.out], below_drewN HBV.out _⟩
          case measure => simp [intOf]; omega
        · obtain rfl : k = 7 := by omega
          go_wp2
          go_ret
          exact ⟨rfl, HFN.out⟩
end Go.Proofs.Ytokcdpamcbpaiab
