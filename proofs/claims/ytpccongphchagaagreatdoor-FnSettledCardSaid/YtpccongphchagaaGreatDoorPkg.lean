import Derived.Test.YtpccongphchagaaGreatDoorPkf
namespace Go.Proofs.YtpccongphchagaaGreatDoor
open Go.RowKit Go.Maps
theorem lawInt : Keyed Tryz.prog 3 := int_keyed Tryz.underlying3
theorem zeroUnit (w : World) : (zeroValue 108).run Tryz.prog w = .ok (.agg #[]) w := by kernel_rfl
theorem okList_more {nodes : Int} {es : List (ByteArray × Int)} {k : Nat} (h : ∀ i (h : i < es.length), i < k → okEnt nodes es[i] = true ∧ ∀ k (hk : k < i), apart es[k] es[i] = true) (hk : k < es.length) (he : okEnt nodes es[k] = true)
    (hl : ∀ h : 0 < k, Op.bytesLess es[k - 1].1.toList es[k].1.toList = true) (hs : Maps.has (nodesSet es k) (.int .i64 es[k].2) = false) :
    ∀ i (h : i < es.length), i < k + 1 → okEnt nodes es[i] = true ∧ ∀ k (hk : k < i), apart es[k] es[i] = true := fun i hi hik => by
  by_cases e : i = k
  · subst e
    refine ⟨he, fun j hj => decide_eq_true ⟨?_, has_nodes_false hs j (by omega) hj⟩⟩
    have h1 := hl (by omega)
    by_cases ej : j = i - 1
    · subst ej; exact h1
    · have h2 := (h (i - 1) (by omega) (by omega)).2 j (by omega)
      exact less_trans _ _ _ (of_decide_eq_true h2).1 h1
  · exact h i hi (by omega)
set_option maxHeartbeats 1000000 in
set_option maxRecDepth 20000 in
theorem inOrder_any (a : Option Addr) (cap : Nat) (es : List (ByteArray × Int)) (nodes : Int) (w : World) (hn : es.length ≤ 9223372036854775807) (hnd : nodes ≤ 1048576) (hes : ∀ e ∈ es, e.1.size ≤ 9223372036854775807) (hr : EntAt w a es) :
    Calls Tryz.prog 26 #[.slice a es.length cap, .int .i64 nodes] w fun e w' => e = .returned (.bool (okList nodes es)) ∧ Below w.heap.size w w' := by
  by_cases h6 : 300 < es.length
  · have hf : okList nodes es = false := decide_eq_false fun h => by omega
    rw [hf]
    go_enter Tryz.func26, Tryz.ntmps26
    go_wp2
    go_ret
    exact ⟨rfl, Below.refl _ _⟩
  have hmm := @run_makeMap Tryz.prog
  go_enter Tryz.func26, Tryz.ntmps26
  go_wp2
  clear hmm
  go_loopw [16] (fun i wr => ∃ k : Nat, k ≤ es.length ∧ i = .int .i64 k ∧ (∀ i (h : i < es.length), i < k → okEnt nodes es[i] = true ∧ ∀ k (hk : k < i), apart es[k] es[i] = true) ∧ wr.ownsMap Tryz.prog 3 unitElem w.heap.size k (nodesSet es k) ∧ Below w.heap.size w wr) (fun i _ => es.length - (intOf i).toNat)
  case atStart => exact ⟨0, Nat.zero_le _, rfl, fun i _ h => by omega, by rw [nodesSet_zero]; exact World.ownsMap_made _ _ _ _, (Below.refl _ _).alloc (Nat.le_refl _) _⟩
  case round =>
    obtain ⟨k, hk, rfl, hok, hown, hnx⟩ := hrel
    have HK := hide hok
    have HR := hide hr
    have HNX := hide hnx
    have HOW := hide hown
    clear hok
    by_cases hlt : k < es.length
    · obtain ⟨b, off, rfl, hc⟩ := (hr.below hnx) (by omega)
      obtain ⟨hc0, hc1⟩ := hc k hlt
      have hkl := hes _ (List.getElem_mem hlt)
      have HN := hide (hnx.alloc hnx.size (.cells #[.string es[k].1, .int .i64 es[k].2] 37))
      have HL := hide (Laid.new wr #[.string es[k].1, .int .i64 es[k].2] 37)
      have HNO := hide (okList_no1 (nodes := nodes) hlt)
      have HOK := hide (show okEnt nodes es[k] = decide (okName es[k].1 = true ∧ 0 ≤ es[k].2 ∧ es[k].2 < nodes) from rfl)
      have HOW2 := hide (hown.alloc (.cells #[.string es[k].1, .int .i64 es[k].2] 37))
      clear hc hr hnx hes hown HOW
      generalize hnm : es[k].1 = nm at hc0 HN HL HOK hkl HOW2
      generalize hnd' : es[k].2 = nd at hc1 HN HL HOK HOW2
      have HNM := hide hnm
      have HND := hide hnd'
      clear hnm hnd'
      by_cases g1 : okName nm = true
      · go_wp2_with fail
        refine (goodName_any nm _ hkl).mono ?_
        rintro e w2 ⟨rfl, hb⟩
        rw [g1]
        have HG1 := hide g1
        have HN2 := hide (HN.out.trans (hb.mono HN.out.size))
        have HL2 := hide (HL.out.below hb HL.out.lt)
        have HOW3 := hide (ownsMap_below HOW2.out hb HOW2.out.lt)
        clear g1 hc0 hc1 hb HN HL HOW2
        have q0 : w2.cell? ⟨wr.heap.size, 0, none⟩ = some (.string nm) := by rw [HL2.out.cell]; rfl
        have q1 : w2.cell? ⟨wr.heap.size, 1, none⟩ = some (.int .i64 nd) := by rw [HL2.out.cell]; rfl
        by_cases g2 : nd < 0
        · go_wp2
          go_ret
          exact ⟨ret_bool (HNO.out (by rw [HOK.out]; exact decide_eq_false fun h => by omega)).symm, HN2.out⟩
        by_cases g3 : nodes ≤ nd
        · go_wp2
          go_ret
          exact ⟨ret_bool (HNO.out (by rw [HOK.out]; exact decide_eq_false fun h => by omega)).symm, HN2.out⟩
        have hwf : (Lit.int .i64 nd).wf = true := WalkArith.wf_i64 (by omega)
        have hkey : keyOf Tryz.prog 3 (.int .i64 nd) = some (.int .i64 nd) := keyOf_int_mk Tryz.underlying3 hwf
        have HE := hide (show okEnt nodes es[k] = true from by rw [HOK.out]; exact decide_eq_true ⟨HG1.out, by omega, by omega⟩)
        have hBlt := HL2.out.lt
        generalize wr.heap.size = B at q0 q1 hBlt ⊢
        have q2 : ∀ (n : Nat) (o : Obj), ((w2.drewN n).alloc o).cell? ⟨B, 1, none⟩ = some (.int .i64 nd) := fun n o => by
          rw [((Below.refl (w2.drewN n).heap.size (w2.drewN n)).alloc (Nat.le_refl _) o).cell (p := ⟨B, 1, none⟩) hBlt]; exact q1
        clear HNX HNO HOK HL2 hwf hkl
        have hownd : ∀ n, (w2.drewN n).ownsMap Tryz.prog 3 (unitElem (H := Unit)) w.heap.size k (nodesSet es k) := fun _ => HOW3.out
        have HST := hide (fun (hl : ∀ h : 0 < k, Op.bytesLess es[k - 1].1.toList es[k].1.toList = true) (hs : Maps.has (nodesSet es k) (.int .i64 es[k].2) = false) => okList_more HK.out hlt HE.out hl hs)
        cases k with
        | zero =>
          have hh : Maps.has (nodesSet es 0) (.int .i64 nd) = false := rfl
          have HH := hide hh
          go_wp2
          go_quiet (fail)
          go_wp2_with (first
            | (at_lookup; refine wpList_lookup_own_unit _ rfl _ _ 75 rfl 3 108 lawInt Tryz.underlying75 (zeroUnit _) w.heap.size (0) _ rfl (hownd _) _ _ rfl hkey ?_)
            | (at_mapUpdate; refine wpList_mapUpdate_own _ rfl _ _ _ 75 rfl 3 108 lawInt Tryz.underlying75 (unitElem (H := Unit)) w.heap.size (0) _ rfl ((hownd _).alloc _) (by unfold maxLen; omega) _ _ _ rfl rfl hkey _ [] unitElem_mk ?_; intro w3 hown3 hgrow3)
            | go_in)
          refine ⟨⟨0 + 1, by omega, by go_num, HST.out (fun h => by omega) (by rw [HND.out]; exact HH.out), ?_, ?_⟩, by simp [intOf]; omega⟩
          · rw [nodesSet_succ es (0) hlt, HND.out]; exact hown3
          · exact ((below_drewN HN2.out nq).alloc HN2.out.size _).grown hgrow3 (Nat.le_trans HN2.out.size (by simp)) (fun j hj => by cases hj; exact Nat.le_refl _)
        | succ j =>
          obtain ⟨b', off', hb', hcm⟩ := (HR.out.below HN2.out) (by omega)
          simp only [Option.some.injEq, Addr.mk.injEq, and_true] at hb'
          obtain ⟨rfl, rfl⟩ := hb'
          obtain ⟨hx0, hx1⟩ := hcm j (by omega)
          have HNO2 := hide (fun (i : Nat) (hi : i < j + 1) => okList_no2 (nodes := nodes) hlt hi)
          have HLS := hide (fun (h : Op.bytesLess es[j].1.toList nm.toList = true) => (fun _ => by rw [HNM.out]; exact h : ∀ h : 0 < j + 1, Op.bytesLess es[j + 1 - 1].1.toList es[j + 1].1.toList = true))
          have HAP := hide (fun (h : Op.bytesLess es[j].1.toList nm.toList = false) => HNO2.out j (by omega) (decide_eq_false fun h' => by have h2 := h'.1; rw [HNM.out, h] at h2; simp at h2))
          clear hcm
          generalize es[j].1 = xm at hx0 HLS HAP
          generalize es[j].2 = xd at hx1
          by_cases hb1 : Op.bytesLess xm.toList nm.toList = true
          · have HLS2 := hide (HLS.out hb1)
            clear HLS HAP
            by_cases hh : Maps.has (nodesSet es (j + 1)) (.int .i64 nd) = true
            · have HBAD : Hid (okList nodes es = false) := by
                obtain ⟨i, hi, hik, he⟩ := has_nodes_true hh
                exact HNO2.out i hik (decide_eq_false fun h' => h'.2 (by rw [he, HND.out]))
              clear HNO2
              go_wp2
              go_quiet (fail)
              go_wp2_with (first
                | (at_lookup; refine wpList_lookup_own_unit _ rfl _ _ 75 rfl 3 108 lawInt Tryz.underlying75 (zeroUnit _) w.heap.size (j + 1) _ rfl (hownd _) _ _ rfl hkey ?_)
                | (at_mapUpdate; refine wpList_mapUpdate_own _ rfl _ _ _ 75 rfl 3 108 lawInt Tryz.underlying75 (unitElem (H := Unit)) w.heap.size (j + 1) _ rfl ((hownd _).alloc _) (by unfold maxLen; omega) _ _ _ rfl rfl hkey _ [] unitElem_mk ?_; intro w3 hown3 hgrow3)
                | go_in)
              go_ret
              exact ⟨ret_bool HBAD.out.symm, (below_drewN HN2.out _).alloc HN2.out.size _⟩
            · have hh' : Maps.has (nodesSet es (j + 1)) (.int .i64 nd) = false := by simpa using hh
              have HH := hide hh'
              clear hh HNO2
              go_wp2
              go_quiet (fail)
              go_wp2_with (first
                | (at_lookup; refine wpList_lookup_own_unit _ rfl _ _ 75 rfl 3 108 lawInt Tryz.underlying75 (zeroUnit _) w.heap.size (j + 1) _ rfl (hownd _) _ _ rfl hkey ?_)
                | (at_mapUpdate; refine wpList_mapUpdate_own _ rfl _ _ _ 75 rfl 3 108 lawInt Tryz.underlying75 (unitElem (H := Unit)) w.heap.size (j + 1) _ rfl ((hownd _).alloc _) (by unfold maxLen; omega) _ _ _ rfl rfl hkey _ [] unitElem_mk ?_; intro w3 hown3 hgrow3)
                | go_in)
              refine ⟨⟨j + 1 + 1, by omega, by go_num, HST.out HLS2.out (by rw [HND.out]; exact HH.out), ?_, ?_⟩, by simp [intOf]; omega⟩
              · rw [nodesSet_succ es (j + 1) hlt, HND.out]; exact hown3
              · exact ((below_drewN HN2.out nq).alloc HN2.out.size _).grown hgrow3 (Nat.le_trans HN2.out.size (by simp)) (fun j hj => by cases hj; exact Nat.le_refl _)
          · have hb2 : Op.bytesLess xm.toList nm.toList = false := by simpa using hb1
            have HBAD := hide (HAP.out hb2)
            clear hb1 HLS HAP HNO2
            go_wp2
            go_quiet (fail)
            go_wp2
            go_ret
            exact ⟨ret_bool HBAD.out.symm, below_drewN HN2.out _⟩
      · have g1' : okName nm = false := by simpa using g1
        go_wp2_with fail
        refine (goodName_any nm _ hkl).mono ?_
        rintro e w2 ⟨rfl, hb⟩
        rw [g1']
        have HN2 := hide (HN.out.trans (hb.mono HN.out.size))
        clear hc0 hc1 hb HN HL HOW2
        go_wp2
        go_ret
        exact ⟨ret_bool (HNO.out (by rw [HOK.out]; exact decide_eq_false fun h => g1 h.1)).symm, HN2.out⟩
    · have hf : okList nodes es = true := decide_eq_true ⟨by omega, fun i h => HK.out i h (by omega)⟩
      have HF := hide hf
      clear hf
      go_wp2
      go_ret
      exact ⟨ret_bool HF.out.symm, HNX.out⟩
end Go.Proofs.YtpccongphchagaaGreatDoor
namespace Go.Proofs.YtpccongphchagaaGreatDoor
open Go.RowKit
theorem bytes_toList (x : ByteArray) : x.toList = x.data.toList := by
  exact ByteArray.toList_eq x
theorem bytes_eq {x y : ByteArray} (h : x.toList = y.toList) : x = y := by
  rw [bytes_toList, bytes_toList] at h
  cases x; cases y
  simpa using h
theorem beq_of_eq {x y : ByteArray} (h : x = y) : (x.toList == y.toList) = true := by rw [h]; simp
theorem beq_of_ne {x y : ByteArray} (h : x ≠ y) : (x.toList == y.toList) = false := by
  by_cases e : x.toList = y.toList
  · exact absurd (bytes_eq e) h
  · simpa using e
theorem l1Find_any (a : Option Addr) (cap : Nat) (es : List (ByteArray × Int)) (nm : ByteArray) (w : World) (hn : es.length ≤ 9223372036854775807) (hr : EntAt w a es) :
    Calls Tryz.prog 49 #[.slice a es.length cap, .string nm] w fun e w' => ((∃ i, ∃ h : i < es.length, es[i].1 = nm ∧ (∀ k (hk : k < i), es[k].1 ≠ nm) ∧ e = .returned (.int .i64 (i : Int))) ∨ ((∀ i (h : i < es.length), es[i].1 ≠ nm) ∧ e = .returned (.int .i64 (-1)))) ∧ w' = w := by
  go_enter Tryz.func49, Tryz.ntmps49
  go_wp2
  go_loop [8] (fun i => ∃ k : Nat, k ≤ es.length ∧ i = .int .i64 k ∧ ∀ i (h : i < es.length), i < k → es[i].1 ≠ nm) (fun i => es.length - (intOf i).toNat)
  case atStart => exact ⟨0, Nat.zero_le _, rfl, fun i _ h => by omega⟩
  case round =>
    obtain ⟨k, hk, rfl, hno⟩ := hrel
    have HK := hide hno
    clear hno
    by_cases hlt : k < es.length
    · obtain ⟨b, off, rfl, hc⟩ := hr (by omega)
      obtain ⟨hc0, _⟩ := hc k hlt
      clear hc hr
      by_cases hx : es[k].1 = nm
      · have HX := hide hx
        have hbq := beq_of_eq hx
        clear hx
        generalize es[k].1 = x0 at hc0 hbq
        go_wp2
        go_ret
        exact ⟨.inl ⟨k, hlt, HX.out, fun i hi => HK.out i (by omega) hi, rfl⟩, rfl⟩
      · have HX := hide hx
        have hbq := beq_of_ne hx
        clear hx
        generalize hx0 : es[k].1 = x0 at hc0 hbq
        clear hx0
        go_wp2
        go_round
        case rel => exact ⟨k + 1, by omega, by go_num, fun i h h' => by
          by_cases e : i = k
          · subst e; exact HX.out
          · exact HK.out i h (by omega)⟩
        case measure => simp [intOf]; omega
    · go_wp2
      go_ret
      exact ⟨.inr ⟨fun i h => HK.out i h (by omega), rfl⟩, rfl⟩
end Go.Proofs.YtpccongphchagaaGreatDoor
namespace Go.Proofs.YtpccongphchagaaGreatDoor
open Go.RowKit
theorem ent_take_succ {l m : List (ByteArray × Int)} {k : Nat} (h1 : k < l.length) (h2 : k < m.length) (h : l.take k = m.take k) (e1 : l[k].1 = m[k].1) (e2 : l[k].2 = m[k].2) : l.take (k + 1) = m.take (k + 1) := by
  rw [List.take_succ_eq_append_getElem h1, List.take_succ_eq_append_getElem h2, h, Prod.ext e1 e2]
theorem l1Same_any (a a' : Option Addr) (cap cap' : Nat) (ls ms : List (ByteArray × Int)) (w : World) (hl : ls.length ≤ 9223372036854775807) (hr : EntAt w a ls) (hr' : EntAt w a' ms) :
    Calls Tryz.prog 45 #[.slice a ls.length cap, .slice a' ms.length cap'] w fun e w' => (∃ r : Bool, e = .returned (.bool r) ∧ (r = true ↔ ls = ms)) ∧ ∃ n, w' = w.drewN n := by
  by_cases hlen : ls.length = ms.length
  · have hne : ((ls.length : Int) != (ms.length : Int)) = false := by simp; omega
    have HL : Hid (ls.length = ms.length) := hlen
    clear hlen
    go_enter Tryz.func45, Tryz.ntmps45
    go_wp2
    go_loopw [13] (fun i wr => ∃ k : Nat, k ≤ ls.length ∧ i = .int .i64 k ∧ ls.take k = ms.take k ∧ ∃ n, wr = w.drewN n) (fun i _ => ls.length - (intOf i).toNat)
    case atStart => exact ⟨0, Nat.zero_le _, rfl, rfl, 0, rfl⟩
    case round =>
      obtain ⟨k, hk, rfl, htk, hdr⟩ := hrel
      have HD : Hid (∃ n, wr = w.drewN n) := hdr
      have hrr : EntAt wr a ls := by obtain ⟨n, rfl⟩ := hdr; exact hr
      have hrr' : EntAt wr a' ms := by obtain ⟨n, rfl⟩ := hdr; exact hr'
      clear hdr hr hr'
      by_cases hlt : k < ls.length
      · have hlt' : k < ms.length := by have := HL.out; omega
        obtain ⟨b, off, rfl, hc⟩ := hrr (by omega)
        obtain ⟨b', off', rfl, hc'⟩ := hrr' (by omega)
        obtain ⟨c0, c1⟩ := hc k hlt
        obtain ⟨d0, d1⟩ := hc' k hlt'
        have HT : Hid (ls.take k = ms.take k) := htk
        have HLM := hide (fun (h : ls = ms) => (show ls[k].1 = ms[k].1 ∧ ls[k].2 = ms[k].2 from by subst h; exact ⟨rfl, rfl⟩))
        have HSU := hide (fun h1 h2 => ent_take_succ hlt hlt' htk h1 h2)
        clear hc hc' htk hrr hrr'
        generalize ls[k].1 = x1 at c0 HLM HSU
        generalize ls[k].2 = x2 at c1 HLM HSU
        generalize ms[k].1 = y1 at d0 HLM HSU
        generalize ms[k].2 = y2 at d1 HLM HSU
        by_cases g1 : x1 = y1
        · have hb1 := beq_of_eq g1
          by_cases g2 : x2 = y2
          · have hb2 : (x2 != y2) = false := by simp [g2]
            have HS2 := hide (HSU.out g1 g2)
            clear g1 g2 HLM HSU
            go_wp2
            go_quiet (fail)
            go_wp2
            go_roundw
            case rel => exact ⟨k + 1, by omega, by go_num, HS2.out, drew_more HD.out _⟩
            case measure => simp [intOf]; omega
          · have hb2 : (x2 != y2) = true := by simp [g2]
            have HN2 := hide (fun h => g2 (HLM.out h).2)
            clear g1 g2 HLM HSU
            go_wp2
            go_quiet (fail)
            go_wp2
            go_ret
            exact ⟨⟨false, rfl, ⟨fun h => by simp at h, fun h => absurd h HN2.out⟩⟩, drew_more HD.out _⟩
        · have hb1 := beq_of_ne g1
          have HN2 := hide (fun h => g1 (HLM.out h).1)
          clear g1 HLM HSU
          go_wp2
          go_quiet (fail)
          go_wp2
          go_ret
          exact ⟨⟨false, rfl, ⟨fun h => by simp at h, fun h => absurd h HN2.out⟩⟩, drew_more HD.out _⟩
      · have HEQ : Hid (ls = ms) := by
          have h1 : ls.take k = ls := List.take_of_length_le (by omega)
          have h2 : ms.take k = ms := List.take_of_length_le (by have := HL.out; omega)
          rw [← h1, ← h2, htk]; exact rfl
        go_wp2
        go_ret
        exact ⟨⟨true, rfl, ⟨fun _ => HEQ.out, fun _ => rfl⟩⟩, HD.out⟩
  · have hne : ((ls.length : Int) != (ms.length : Int)) = true := by simp; omega
    go_enter Tryz.func45, Tryz.ntmps45
    go_wp2
    go_ret
    exact ⟨⟨false, rfl, ⟨fun h => by simp at h, fun h => absurd (by rw [h]) hlen⟩⟩, 0, rfl⟩
end Go.Proofs.YtpccongphchagaaGreatDoor
namespace Go.Proofs.YtpccongphchagaaGreatDoor
open Go.RowKit
theorem two_append (l m : List (Value × Value)) : two (l ++ m) = two l ++ two m := by simp [two]
theorem wpList_append_entry {ops : Array Oper} {rest : List Oper} {o : Oper} {act : Act} {Q : Exit → Act → World → Prop} (w : World) (hgd : o.guard = none) (s x : Operand)
    (ho : o.op = .call { callee := .builtin .append, args := #[s, x], argTypes := #[24, 24] })
    (base : Nat) (v : Value) (es : List (ByteArray × Int)) (e : ByteArray × Int) (g1 c : Nat) (hs : act.eval s = v) (hx : act.eval x = .slice (some ⟨g1, 0, none⟩) 1 c) (hown : OwnE w base v es)
    (h0 : w.cell? ⟨g1, 0, none⟩ = some (.string e.1)) (h1 : w.cell? ⟨g1, 1, none⟩ = some (.int .i64 e.2)) (hlen : es.length ≤ 1048576) (hbase : base ≤ w.heap.size)
    (h : ∀ v' w', OwnE w' base v' (es ++ [e]) → w.grownBy w' v.ownBlock → wpList Tryz.prog ops Q rest (act.put o.dst v') w') : wpList Tryz.prog ops Q (o :: rest) act w := by
  obtain ⟨i0, hi, hz0, hz1, hz2⟩ := info_parts Tryz.infoEntry
  have hown' : w.ownsRow base 37 2 v es.length (two (es.map entP)) := by have := hown; unfold OwnE Own2 at this; rw [List.length_map] at this; exact this
  refine wpList_append_own w hgd s x 24 ho base 37 i0 (.agg #[.string ByteArray.empty, .int .i64 0]) 2 24 Tryz.underlying24 hi hz0 hz1 hz2 rfl (by decide) v es.length (two (es.map entP)) hs hown' ⟨g1, 0, none⟩ 1 c [.string e.1, .int .i64 e.2] hx (by simp) ?_ ?_ (by unfold maxLen; omega) (by omega) hbase ?_
  · intro j u hj
    rw [addr_add]
    match j with
    | 0 => simp only [List.getElem?_cons_zero, Option.some.injEq] at hj; rw [← hj]; exact h0
    | 1 => simp only [List.getElem?_cons_succ, List.getElem?_cons_zero, Option.some.injEq] at hj; rw [← hj]; exact h1
    | j + 2 => simp at hj
  · intro u hu
    simp only [List.mem_cons, List.not_mem_nil, or_false] at hu
    rcases hu with rfl | rfl <;> rfl
  · intro v' w' hown2 hg _
    refine h v' w' ?_ hg
    unfold OwnE Own2
    rw [List.length_map, List.length_append, List.map_append, two_append]
    exact hown2
theorem l1Without_any (a : Option Addr) (cap : Nat) (es : List (ByteArray × Int)) (nm : ByteArray) (w : World) (hn : es.length ≤ 1048575) (hr : EntAt w a es) :
    Calls Tryz.prog 68 #[.slice a es.length cap, .string nm] w fun e w' => ∃ v, e = .returned v ∧ OwnE w' w.heap.size v (es.filter fun e => decide (e.1 ≠ nm)) ∧ Below w.heap.size w w' := by
  go_enter Tryz.func68, Tryz.ntmps68
  go_wp2
  go_loopw [5, 10] (fun v i wr => ∃ k : Nat, k ≤ es.length ∧ i = .int .i64 k ∧ OwnE wr w.heap.size v ((es.take k).filter fun e => decide (e.1 ≠ nm)) ∧ Below w.heap.size w wr) (fun _ i _ => es.length - (intOf i).toNat)
  case atStart => exact ⟨0, Nat.zero_le _, rfl, World.ownsRow_nil w w.heap.size 37 2, Below.refl _ _⟩
  case round =>
    obtain ⟨k, hk, rfl, hown, hnx⟩ := hrel
    by_cases hlt : k < es.length
    · obtain ⟨b, off, rfl, hc⟩ := (hr.below hnx) (by omega)
      obtain ⟨hc0, hc1⟩ := hc k hlt
      have HTS := hide (List.take_succ_eq_append_getElem hlt)
      have hfl : ((es.take k).filter fun e => decide (e.1 ≠ nm)).length ≤ 1048576 := Nat.le_trans (List.length_filter_le _ _) (by simp; omega)
      have hown2 := (hown.below ((Below.refl _ _).alloc (Nat.le_refl _) (.cells #[.string es[k].1, .int .i64 es[k].2] 37))).below ((Below.refl _ _).alloc (Nat.le_refl _) (.cells #[.string es[k].1, .int .i64 es[k].2] 37))
      have HOW1 := hide (hown.below ((Below.refl _ _).alloc (Nat.le_refl _) (.cells #[.string es[k].1, .int .i64 es[k].2] 37)))
      have hnx1 := hnx.alloc hnx.size (.cells #[.string es[k].1, .int .i64 es[k].2] 37)
      have HN1 := hide hnx1
      have HN2 := hide (hnx1.alloc hnx1.size (.cells #[.string es[k].1, .int .i64 es[k].2] 37))
      have l2 := Laid.new (wr.alloc (.cells #[.string es[k].1, .int .i64 es[k].2] 37)) #[.string es[k].1, .int .i64 es[k].2] 37
      rw [show (wr.alloc (.cells #[.string es[k].1, .int .i64 es[k].2] 37)).heap.size = wr.heap.size + 1 from by simp] at l2
      have HC0 := hide (l2.cell 0)
      have HC1 := hide (l2.cell 1)
      have HLO := hide (World.ownsRow.lt hown)
      have HOW2 := hide hown2
      clear hc hr hown hown2 hnx hnx1 l2
      by_cases hx : es[k].1 = nm
      · have hbq := beq_of_eq hx
        have HF := hide (show ((es.take (k + 1)).filter fun e => decide (e.1 ≠ nm)) = ((es.take k).filter fun e => decide (e.1 ≠ nm)) from by rw [HTS.out, List.filter_append]; simp [hx])
        clear HTS hx
        generalize es[k].1 = x0 at hc0 hbq HN1 HN2 HOW1 HOW2 HC0 HC1
        generalize es[k].2 = x1 at hc1 HN1 HN2 HOW1 HOW2 HC0 HC1
        go_wp2
        go_roundw
        case rel => exact ⟨k + 1, by omega, by go_num, by rw [HF.out]; exact HOW1.out, HN1.out⟩
        case measure => simp [intOf]; omega
      · have hbq := beq_of_ne hx
        have HF := hide (show ((es.take (k + 1)).filter fun e => decide (e.1 ≠ nm)) = ((es.take k).filter fun e => decide (e.1 ≠ nm)) ++ [(es[k].1, es[k].2)] from by rw [HTS.out, List.filter_append]; simp [hx])
        clear HTS hx
        generalize es[k].1 = x0 at hc0 hbq HN1 HN2 HOW1 HOW2 HC0 HC1 HF
        generalize es[k].2 = x1 at hc1 HN1 HN2 HOW1 HOW2 HC0 HC1 HF
        generalize ((es.take k).filter fun e => decide (e.1 ≠ nm)) = fl at hfl HOW1 HOW2 HF
        go_wp2_with (first
          | (at_builtin; refine wpList_append_entry _ rfl (.tmp 18) (.tmp 20) rfl w.heap.size u5 fl (x0, x1) (wr.heap.size + 1) 1 rfl rfl ?_ ?_ ?_ hfl ?_ ?_; (exact HOW2.out); (exact HC0.out); (exact HC1.out); (exact HN2.out.size); intro v3 w3 ho3 hg3)
          | go_in)
        exact ⟨⟨k + 1, by omega, by go_num, by rw [HF.out]; exact ho3, HN2.out.grown hg3 HN2.out.size (fun j hj => (HLO.out j hj).1)⟩, by simp [intOf]; omega⟩
    · have he : es.take k = es := List.take_of_length_le (by omega)
      rw [he] at hown
      have HO := hide hown
      clear hown he
      go_wp2
      go_ret
      exact ⟨_, rfl, HO.out, hnx⟩
end Go.Proofs.YtpccongphchagaaGreatDoor
namespace Go.Proofs.YtpccongphchagaaGreatDoor
open Go.RowKit
/-- 'x > nm', as the model has it. -/
def gtB (x nm : ByteArray) : Bool := !(Op.bytesLess x.toList nm.toList || x.toList == nm.toList)
/-- The place of the first name above nm. -/
def posE (l : List (ByteArray × Int)) (nm : ByteArray) : Nat := l.findIdx fun e => gtB e.1 nm
/-- nm bound anew in l, which lacks it. -/
def insE (l : List (ByteArray × Int)) (nm : ByteArray) (nd : Int) : List (ByteArray × Int) := l.take (posE l nm) ++ (nm, nd) :: l.drop (posE l nm)
/-- What l1With has written behind k entries. -/
def outK (l : List (ByteArray × Int)) (nm : ByteArray) (nd : Int) (k : Nat) : List (ByteArray × Int) := if k ≤ posE l nm then l.take k else l.take (posE l nm) ++ (nm, nd) :: (l.take k).drop (posE l nm)
theorem outK_lo {l : List (ByteArray × Int)} {nm : ByteArray} {nd : Int} {k : Nat} (hk : k < l.length) (h : k < posE l nm) : outK l nm nd (k + 1) = outK l nm nd k ++ [(l[k].1, l[k].2)] := by
  unfold outK
  rw [if_pos (by omega), if_pos (by omega), List.take_succ_eq_append_getElem hk]
theorem outK_at {l : List (ByteArray × Int)} {nm : ByteArray} {nd : Int} {k : Nat} (hk : k < l.length) (h : k = posE l nm) : outK l nm nd (k + 1) = (outK l nm nd k ++ [(nm, nd)]) ++ [(l[k].1, l[k].2)] := by
  unfold outK
  rw [if_neg (by omega), if_pos (by omega), ← h, List.take_succ_eq_append_getElem hk]
  have e : (l.take k ++ [l[k]]).drop k = [l[k]] := by
    rw [List.drop_append_of_le_length (by simp; omega)]
    simp
  rw [e]
  simp
theorem outK_hi {l : List (ByteArray × Int)} {nm : ByteArray} {nd : Int} {k : Nat} (hk : k < l.length) (h : posE l nm < k) : outK l nm nd (k + 1) = outK l nm nd k ++ [(l[k].1, l[k].2)] := by
  unfold outK
  rw [if_neg (by omega), if_neg (by omega), List.take_succ_eq_append_getElem hk, List.drop_append_of_le_length (by simp; omega)]
  simp
theorem outK_zero (l : List (ByteArray × Int)) (nm : ByteArray) (nd : Int) : outK l nm nd 0 = [] := by unfold outK; rw [if_pos (by omega)]; rfl
theorem posE_le (l : List (ByteArray × Int)) (nm : ByteArray) : posE l nm ≤ l.length := List.findIdx_le_length
theorem outK_end {l : List (ByteArray × Int)} {nm : ByteArray} {nd : Int} (h : posE l nm < l.length) : outK l nm nd l.length = insE l nm nd := by
  unfold outK insE
  rw [if_neg (by omega), List.take_length]
theorem outK_end' {l : List (ByteArray × Int)} {nm : ByteArray} {nd : Int} (h : ¬ posE l nm < l.length) : outK l nm nd l.length ++ [(nm, nd)] = insE l nm nd := by
  have := posE_le l nm
  unfold outK insE
  rw [if_pos (by omega), show posE l nm = l.length from by omega]
  simp
theorem outK_len (l : List (ByteArray × Int)) (nm : ByteArray) (nd : Int) (k : Nat) : (outK l nm nd k).length ≤ l.length + 1 := by
  unfold outK
  split <;> simp <;> omega
theorem gt_at {l : List (ByteArray × Int)} {nm : ByteArray} {k : Nat} (hk : k < l.length) (h : k = posE l nm) : gtB l[k].1 nm = true := by
  subst h
  exact List.findIdx_getElem (w := hk)
theorem gt_lo {l : List (ByteArray × Int)} {nm : ByteArray} {k : Nat} (hk : k < l.length) (h : k < posE l nm) : gtB l[k].1 nm = false := by
  have := List.not_of_lt_findIdx h
  simpa using this
end Go.Proofs.YtpccongphchagaaGreatDoor
