import Derived.Test.YtokcdpamcbpaiabFromMath
import Derived.Test.YtokcdpamcbpaiabHasPref
namespace Go.Proofs.Ytokcdpamcbpaiab
open Go.RowKit Go.Shelf
attribute [local go_sem] Oper.semAt_some
theorem lines_any (v : Value) (w : World) (hv : v.oneCell' = true) :
    Calls Try.prog 42 #[v] w fun e w' => e = .returned (.func (.func 50) #[] #[.pointer (some ⟨w.heap.size, 0, none⟩)]) ∧ w' = w.alloc (.cells #[v] 22) := by
  have hmf : ∀ (fn : Fn) (first cap : Array Value) (w : World), (Instr.makeFunc fn first cap).run Try.prog w = .ok (.func fn first cap) w := fun _ _ _ _ => rfl
  go_enter Try.func42, Try.ntmps42
  go_wp2
  go_ret
  exact ⟨rfl, rfl⟩
/-- What the loop over lines holds: the list fs, the place s. -/
def FromG (w : World) (fs : List (Nat × Nat)) (s : Nat) (W : World) : Prop := ∃ v, W.heap[w.heap.size]? = some (.cells #[v] 42 (0, 0)) ∧ Own2 W (w.heap.size + 1 + 1 + 1) 45 v (fs.map frV) ∧ W.heap[w.heap.size + 1]? = some (.cells #[.int .i64 (s : Int)] 3 (0, 0)) ∧ Below w.heap.size w W
theorem FromG.calm {w : World} {fs : List (Nat × Nat)} {s : Nat} {W W' : World} (hc : Calm w.heap.size (w.heap.size + 1 + 1) W W') (h : FromG w fs s W) : FromG w fs s W' := by
  obtain ⟨v, h1, h2, h3, h4⟩ := h
  exact ⟨v, hc.cells _ _ h1 rfl (by omega), own_calm h2 hc (by omega), hc.cells _ _ h3 rfl (by omega), h4.trans hc.below⟩
def FromI (w : World) (d : List Nat) (xs : List (Nat × Nat)) (W : World) : Prop := FromG w (fromsTo d 0 xs) (sumS xs) W
/-- What a round may leave. -/
def OnG (w : World) (fs : List (Nat × Nat)) (s : Nat) (W W' : World) : Prop := (KeepsOthers W W' ∧ Kept w.heap.size (w.heap.size + 1 + 1) W W' ∧ FromG w fs s W') ∧ w.heap.size + 1 + 1 < W'.heap.size
theorem OnG.alloc {w : World} {fs : List (Nat × Nat)} {s : Nat} {W W' : World} (h : OnG w fs s W W') (o : Obj) : OnG w fs s W (W'.alloc o) := by
  obtain ⟨⟨h1, h2, h3⟩, hz⟩ := h
  exact ⟨⟨h1.trans (KeepsOthers.alloc _ _), ⟨h2.1.alloc (by omega) _, (Below.heap_alloc W' o _ hz).trans h2.2⟩, h3.calm (Calm.alloc _ _ _ (by omega) _)⟩, by simp; omega⟩
/-- The row that gets one more, and the box that gets the new row. -/
theorem OnG.appended {w : World} {fs gs : List (Nat × Nat)} {s : Nat} {W W' W5 : World} {v v' : Value} (h : OnG w fs s W W') (hv : W'.heap[w.heap.size]? = some (.cells #[v] 42 (0, 0))) (ho : Own2 W' (w.heap.size + 1 + 1 + 1) 45 v (fs.map frV))
    (ho5 : Own2 W5 (w.heap.size + 1 + 1 + 1) 45 v' (gs.map frV)) (hg : W'.grownBy W5 v.ownBlock) : OnG w gs s W (W5.setCell ⟨w.heap.size, 0, none⟩ v') := by
  obtain ⟨⟨h1, h2, h3⟩, hz⟩ := h
  have hgb : ∀ k, k < w.heap.size + 1 + 1 + 1 → some k ≠ v.ownBlock := fun k hk e => by have := (World.ownsRow.lt ho k e.symm).1; omega
  obtain ⟨v0, q1, q2, q3, q4⟩ := h3
  have hbox : W5.heap[w.heap.size]? = some (.cells #[v] 42 (0, 0)) := (hg.block _ (lt_of_block hv) (hgb _ (by omega))).trans hv
  have hko : KeepsOthers W' W5 := KeepsOthers.of_grownBy hg (fun j o e hj => by
    rcases ho.2 with ⟨rfl, _⟩ | ⟨g, cap, cur, rfl, _, hgg, _⟩
    · simp [Value.ownBlock] at e
    · simp only [Value.ownBlock, Option.some.injEq] at e
      subst e
      rw [hgg] at hj
      cases hj
      rfl)
  have hb5 : Below w.heap.size W' W5 := ⟨hg.os, hg.tape, hg.output, hg.size, fun k hk => hg.block k (by omega) (hgb k (by omega))⟩
  refine ⟨⟨(h1.trans hko).trans (KeepsOthers.setCell _ _ _), ⟨(h2.1.trans hb5).setCell (p := ⟨w.heap.size, 0, none⟩) (Nat.le_refl _) _, ?_⟩, v', ?_, ?_, ?_, ?_⟩, ?_⟩
  · rw [heap_setCell_other _ _ _ _ (by simp; omega), hg.block _ hz (hgb _ (by omega))]
    exact h2.2
  · exact box_set hbox v'
  · refine ⟨ho5.1, ?_⟩
    rcases ho5.2 with hn | ⟨g, cap, cur, hv', hbase, hgg, rest⟩
    · exact .inl hn
    · exact .inr ⟨g, cap, cur, hv', hbase, (heap_setCell_other _ _ _ _ (by simp; omega)).trans hgg, rest⟩
  · rw [heap_setCell_other _ _ _ _ (by simp), hg.block _ (lt_of_block q3) (hgb _ (by omega))]
    exact q3
  · exact (q4.trans hb5).setCell (p := ⟨w.heap.size, 0, none⟩) (Nat.le_refl _) _
  · have := hg.size; simp; omega
theorem OnG.start {w : World} {fs : List (Nat × Nat)} {s n : Nat} {W : World} (h : FromG w fs s W) (hz : w.heap.size + 1 + 1 < W.heap.size) : OnG w fs (s + n) W (W.setCell ⟨w.heap.size + 1, 0, none⟩ (.int .i64 ((s : Int) + (n : Int)))) := by
  obtain ⟨v, q1, q2, q3, q4⟩ := h
  refine ⟨⟨KeepsOthers.setCell _ _ _, ⟨(Below.refl _ W).setCell (p := ⟨w.heap.size + 1, 0, none⟩) (by simp) _, heap_setCell_other _ _ _ _ (by simp)⟩, v, ?_, ?_, ?_, ?_⟩, by simpa using hz⟩
  · rw [heap_setCell_other _ _ _ _ (by simp)]; exact q1
  · refine ⟨q2.1, ?_⟩
    rcases q2.2 with hn | ⟨g, cap, cur, hv', hbase, hgg, rest⟩
    · exact .inl hn
    · exact .inr ⟨g, cap, cur, hv', hbase, (heap_setCell_other _ _ _ _ (by simp; omega)).trans hgg, rest⟩
  · rw [box_set q3]; simp
  · exact q4.setCell (p := ⟨w.heap.size + 1, 0, none⟩) (by simp) _
theorem Try.infoFrom : (Try.prog.info? 45).map (fun i => (i.zero, i.size, i.bytes)) = some (some (.agg #[.int .i64 0, .int .i64 0]), 2, 16) := by kernel_rfl
theorem wpListIn_append_from {F : Fence} {n : Nat} {ops : Array Oper} {rest : List Oper} {o : Oper} {act : Act} {Q : Exit → Act → World → Prop} (w : World) (hgd : o.guard = none) (s x : Operand)
    (ho : o.op = .call { callee := .builtin .append, args := #[s, x], argTypes := #[42, 42] })
    (base : Nat) (v : Value) (fs : List (Nat × Nat)) (p q : Nat) (g1 c : Nat) (hs : act.eval s = v) (hx : act.eval x = .slice (some ⟨g1, 0, none⟩) 1 c) (hown : Own2 w base 45 v (fs.map frV))
    (h0 : w.cell? ⟨g1, 0, none⟩ = some (.int .i64 (p : Int))) (h1 : w.cell? ⟨g1, 1, none⟩ = some (.int .i64 (q : Int))) (hlen : fs.length ≤ 1048576) (hbase : base ≤ w.heap.size)
    (h : ∀ v' w', Own2 w' base 45 v' ((fs ++ [(p, q)]).map frV) → w.grownBy w' v.ownBlock → wpListIn F n Try.prog ops Q rest (act.put o.dst v') w') : wpListIn F n Try.prog ops Q (o :: rest) act w := by
  obtain ⟨i0, hi, hz0, hz1, hz2⟩ := info_parts Try.infoFrom
  have hown' : w.ownsRow base 45 2 v fs.length (two (fs.map frV)) := by have := hown; unfold Own2 at this; rw [List.length_map] at this; exact this
  refine wpListIn_append_own w hgd s x 42 ho base 45 i0 (.agg #[.int .i64 0, .int .i64 0]) 2 16 Try.underlying42 hi hz0 hz1 hz2 rfl (by decide) v fs.length (two (fs.map frV)) hs hown' ⟨g1, 0, none⟩ 1 c [.int .i64 (p : Int), .int .i64 (q : Int)] hx (by simp) ?_ ?_ (by unfold maxLen; omega) (by omega) hbase ?_
  · intro j u hj
    rw [addr_add]
    match j with
    | 0 => simp only [List.getElem?_cons_zero, Option.some.injEq] at hj; rw [← hj]; exact h0
    | 1 => simp only [List.getElem?_cons_succ, List.getElem?_cons_zero, Option.some.injEq] at hj; rw [← hj]; exact h1
    | j + 2 => simp at hj
  · intro u hu
    simp only [List.mem_cons, List.not_mem_nil, or_false] at hu
    rcases hu with rfl | rfl <;> rfl
  · intro v' w' hown2 hg _
    refine h v' w' ?_ hg
    unfold Own2
    rw [List.length_map, List.length_append, List.map_append, two_append]
    exact hown2
theorem fromRow (w : World) : RowAt (w.alloc (.cells #[.int .u8 70, .int .u8 114, .int .u8 111, .int .u8 109, .int .u8 32] 5 (5, 6))) (some ⟨w.heap.size, 0, none⟩) fromW := fun _ => by
  refine ⟨w.heap.size, 0, rfl, fun i hi => ?_⟩
  rw [cell_of_row _ _ _ _ 5 (5, 6) (heap_alloc_new w _)]
  simp only [fromW, List.length_cons, List.length_nil] at hi
  match i with
  | 0 => rfl
  | 1 => rfl
  | 2 => rfl
  | 3 => rfl
  | 4 => rfl
  | i + 5 => omega
theorem rowAt_of_text {W : World} {b off : Nat} {l : List Nat} (h : TextAt W b off l) : RowAt W (some ⟨b, off, none⟩) l := fun _ => ⟨b, off, rfl, h⟩
theorem piece_cells {W : World} {b off : Nat} {d : List Nat} (h : 0 < d.length → TextAt W b off d) (x : Nat × Nat) (hx : x.1 + x.2 ≤ d.length) : TextAt W b (off + x.1) (pieceOf d x) := fun i hi => by
  have hl := piece_len d x hx
  have hi' : x.1 + i < d.length := by omega
  rw [Nat.add_assoc, h (by omega) (x.1 + i) hi']
  simp [pieceOf]
set_option maxRecDepth 20000 in
set_option maxHeartbeats 2000000 in
theorem fromLines_any (a0 : Option Addr) (cap0 : Nat) (d : List Nat) (w : World) (hd : d.length ≤ 1048576) (hcap : d.length ≤ cap0) (hcm : cap0 ≤ 9223372036854775807) (hr : RowAt w a0 d) (hb : ∀ x ∈ d, x < 256) :
    Calls Try.prog 26 #[.slice a0 d.length cap0] w fun e w' => ∃ v, e = .returned v ∧ Own2 w' w.heap.size 45 v ((fromsOf d).map frV) ∧ Below w.heap.size w w' := by
  refine (callsIn_wide (n := 6)).1 ?_
  refine callsIn_of_wp_marks Try.func26 rfl trivial ?_ rfl
  simp only [Try.ntmps26, List.size_toArray, List.length_cons, List.length_nil, Nat.reduceAdd, Nat.reduceSub, Array.replicate_succ, Array.replicate_zero, List.push_toArray, List.append_toArray, List.nil_append, List.cons_append]
  gi_wp2_with fail
  refine wpIn_scope ?_
  gi_wp2_with fail
  refine wpIn_label ?_
  gi_wp2_with fail
  refine ⟨trivial, (callsIn_wide.2 (lines_any (.slice a0 d.length cap0) _ rfl)).mono ?_⟩
  rintro e w1 ⟨rfl, hw1⟩
  have hz2 : ((w.alloc (.cells #[.slice none 0 0] 42)).alloc (.cells #[.int .i64 0] 3)).heap.size = w.heap.size + 1 + 1 := by simp
  rw [hz2]
  have hb0 : w1.heap[w.heap.size]? = some (.cells #[.slice none 0 0] 42 (0, 0)) := by
    rw [hw1, Below.heap_alloc _ _ _ (by rw [hz2]; omega), Below.heap_alloc _ _ _ (by simp)]
    exact heap_alloc_new w _
  have hb1 : w1.heap[w.heap.size + 1]? = some (.cells #[.int .i64 0] 3 (0, 0)) := by
    rw [hw1, Below.heap_alloc _ _ _ (by rw [hz2]; omega)]
    have := heap_alloc_new (w.alloc (.cells #[.slice none 0 0] 42)) (.cells #[.int .i64 0] 3)
    simpa using this
  have hb2 : w1.heap[w.heap.size + 1 + 1]? = some (.cells #[.slice a0 d.length cap0] 22 (0, 0)) := by
    rw [hw1, ← hz2]; exact heap_alloc_new _ _
  have hbw : Below w.heap.size w w1 := by rw [hw1]; exact (((Below.refl _ w).alloc (Nat.le_refl _) _).alloc (by simp) _).alloc (by rw [hz2]; omega) _
  have hsz1 : w1.heap.size = w.heap.size + 1 + 1 + 1 := by rw [hw1, World.size_alloc, hz2]
  clear hw1 hz2
  obtain ⟨b, off, hab⟩ : ∃ b off, 0 < d.length → a0 = some ⟨b, off, none⟩ ∧ TextAt w b off d ∧ b < w.heap.size := by
    by_cases h0 : 0 < d.length
    · obtain ⟨b, off, e, hc⟩ := hr h0
      refine ⟨b, off, fun _ => ⟨e, hc, lt_of_cell0 (hc 0 h0)⟩⟩
    · exact ⟨0, 0, fun h => absurd h h0⟩
  have h0I : FromI w d [] w1 := ⟨_, hb0, World.ownsRow_nil _ _ _ _, hb1, hbw⟩
  gi_wp2
  refine wpIn_range_on (α := Sp d) w.heap.size (w.heap.size + 1 + 1) (by omega) (by omega) rfl (by omega) (gf := 50) (lb := #[.pointer (some ⟨w.heap.size + 1 + 1, 0, none⟩)]) rfl trivial (enters_of Try.func50 (by kernel_rfl) rfl) (encs := spV b off) (fun _ => rfl) (S := fun xs => xs.map (·.1) = spansOf d) d.length
    (fun (xs : List (Sp d)) W => FromI w d (xs.map Subtype.val) W) (fun pre W W' hc hi => FromG.calm hc hi) h0I
    (fun x => { tmps := #[.slice a0 d.length cap0, undef, .slice none 0 0, .pointer (some ⟨w.heap.size, 0, none⟩), .pointer (some ⟨w.heap.size + 1, 0, none⟩), .slice (some ⟨b, off + x.1.1, none⟩) x.1.2 x.1.2, undef, undef, undef, .slice a0 d.length cap0, .func (.func 50) #[] #[.pointer (some ⟨w.heap.size + 1 + 1, 0, none⟩)], .slice (some ⟨b, off + x.1.1, none⟩) x.1.2 x.1.2, undef, undef, undef, undef, undef, undef, undef, undef, undef, undef, undef, undef, undef, undef, undef, undef, undef, undef, undef, undef, undef, undef, undef, undef, undef, undef, undef, undef], defers := [] }) ?seq ?assign ?body ?done
  case seq =>
    intro l J W hl hbs hbel hJs hJd hY hJ0
    have hbel' : Below w.heap.size w1 W := hbel.mono (by omega)
    exact lines1_in 5 l (w.heap.size + 1 + 1) w.heap.size b off d hb (fun h => (hab h).2.2) hd (by omega) J hJs hJd hY W a0 cap0 (hbs.trans hb2) (fun h => ⟨(hab h).1, hcap, hcm⟩) (fun h => ((hab h).2.1.below hbw (hab h).2.2).below hbel' (hab h).2.2) hJ0
  case assign =>
    intro l x W K hK
    simp only [spV]
    gi_wp2
    exact hK
  case body =>
    rintro l pre x W ⟨v, h1, h2, h3, h4⟩ hN hsz
    have hx := x.2
    have hsum := sumS_le d pre
    have hsum2 : pre.length * d.length ≤ 1048576 * 1048576 := Nat.mul_le_mul (by omega) hd
    have HS := hide (fromsTo_snoc d 0 (pre.map Subtype.val) x.1)
    have HSS : Hid (sumS ((pre ++ [x]).map Subtype.val) = sumS (pre.map Subtype.val) + x.1.2) := by
      show _ = _
      rw [List.map_append, sumS_append]; simp [sumS]
    have hlenf := fromsTo_len d 0 (pre.map Subtype.val)
    rw [List.length_map] at hlenf
    have hc1 : W.cell? ⟨w.heap.size + 1, 0, none⟩ = some (.int .i64 (sumS (pre.map Subtype.val) : Int)) := by rw [cell_of_row _ _ _ _ _ _ h3]; rfl
    have hf1 : W.frozen? ⟨w.heap.size + 1, 0, none⟩ = false := by simp [World.frozen?, h3]
    generalize hsv : sumS (pre.map Subtype.val) = sm at hsum hc1 HSS ⊢
    have hsm : sm ≤ 1099511627776 := by omega
    have hx2 : x.1.2 ≤ 1048576 := by omega
    have hpl := piece_len d x.1 hx
    have htw : TextAt W b (off + x.1.1) (pieceOf d x.1) := piece_cells (fun h => (hab h).2.1.below h4 (hab h).2.2) x.1 hx
    have hbW : 0 < x.1.2 → b < w.heap.size := fun h => (hab (by omega)).2.2
    have hG : FromG w (fromsTo d 0 (pre.map Subtype.val)) sm W := ⟨v, h1, h2, by rw [← hsv]; exact h3, h4⟩
    have hOn0 := OnG.start (n := x.1.2) hG (by omega)
    have hfin0 : Hid (∀ W', isFrom (pieceOf d x.1) = false → OnG w (fromsTo d 0 (pre.map Subtype.val)) (sm + x.1.2) W W' → KeepsOthers W W' ∧ Kept w.heap.size (w.heap.size + 1 + 1) W W' ∧ FromI w d ((pre ++ [x]).map Subtype.val) W') := fun W' hif h => by
      refine ⟨h.1.1, h.1.2.1, ?_⟩
      have e := HS.out
      rw [hif] at e
      simp only [Bool.false_eq_true, if_false, List.append_nil] at e
      unfold FromI
      rw [HSS.out, List.map_append]
      show FromG w (fromsTo d 0 (pre.map Subtype.val ++ [x.1])) _ _
      rw [e]
      exact h.1.2.2
    have hfin1 : Hid (∀ W' k, isFrom (pieceOf d x.1) = true → marksOf (pieceOf d x.1) = k → OnG w (fromsTo d 0 (pre.map Subtype.val) ++ [(sm, k)]) (sm + x.1.2) W W' → KeepsOthers W W' ∧ Kept w.heap.size (w.heap.size + 1 + 1) W W' ∧ FromI w d ((pre ++ [x]).map Subtype.val) W') := fun W' k hif hm h => by
      refine ⟨h.1.1, h.1.2.1, ?_⟩
      have e := HS.out
      rw [hif, hm, hsv] at e
      simp only [if_true, Nat.zero_add] at e
      unfold FromI
      rw [HSS.out, List.map_append]
      show FromG w (fromsTo d 0 (pre.map Subtype.val ++ [x.1])) _ _
      rw [e]
      exact h.1.2.2
    have HOn := hide hOn0
    clear hG hOn0 HS HSS
    clear h1 h2 h3 h4
    gi_wp2
    have ht2 : TextAt (W.setCell ⟨w.heap.size + 1, 0, none⟩ (.int .i64 ((sm : Int) + (x.1.2 : Int)))) b (off + x.1.1) (pieceOf d x.1) := fun i hi => by
      have := hbW (by omega)
      rw [World.cell?_setCell_other _ _ _ _ (fun e => by have := congrArg Addr.block e; simp at this; omega)]
      exact htw i hi
    generalize W.setCell ⟨w.heap.size + 1, 0, none⟩ (.int .i64 ((sm : Int) + (x.1.2 : Int))) = W2 at ht2 HOn ⊢
    gi_loopw [7, 8, 19] (fun _ _ i wr => ∃ k : Nat, k ≤ x.1.2 ∧ i = .int .i64 (k : Int) ∧ (∀ j (h : j < (pieceOf d x.1).length), j < k → (pieceOf d x.1)[j] = 62) ∧ wr = W2) (fun _ _ i _ => x.1.2 - (intOf i).toNat)
    case atStart => exact ⟨0, by omega, rfl, fun j _ h => by omega, rfl⟩
    case round =>
      obtain ⟨k, hk, rfl, hall, rfl⟩ := hrel
      by_cases hlt : k < x.1.2
      · have hlt' : k < (pieceOf d x.1).length := by omega
        have hck := ht2 k hlt'
        by_cases h62 : (pieceOf d x.1)[k] = 62
        · rw [h62] at hck
          have HA := hide hall
          clear hall ht2 htw
          gi_wp2
          go_roundw
          case rel => exact ⟨k + 1, by omega, by go_num, fun j hj hjk => by
            by_cases e : j = k
            · subst e; exact h62
            · exact HA.out j hj (by omega), by simp⟩
          case measure => simp [intOf]; omega
        · have he : (((pieceOf d x.1)[k] : Int) == 62) = false := by simp; omega
          have hm := marksOf_at _ k hlt' hall h62
          have hif : isFrom (pieceOf d x.1) = decide (((pieceOf d x.1).drop k).take fromW.length = fromW) := by unfold isFrom; rw [hm]
          have hrl : ((pieceOf d x.1).drop k).length = x.1.2 - k := by rw [List.length_drop, hpl]
          have HR := hide (ht2.drop k)
          have hkc := fun (w : World) (C : Array Value) (n c : Nat) => Lib.run_convert_bytes_const (P := Try.prog) w 22 5 C n c Try.underlying22 Try.underlying5
          have hk1 : (k : Int) ≤ (x.1.2 : Int) := by omega
          have hkne : ¬ x.1.2 = k := by omega
          have HA := hide hall
          clear hall ht2 htw
          have hbp : ∀ y ∈ (pieceOf d x.1).drop k, y < 256 := fun y hy => hb y (List.mem_of_mem_drop (List.mem_of_mem_take (List.mem_of_mem_drop hy)))
          gi_wp2_with fail
          have hrow2 := fromRow wr
          have hrow1 := (rowAt_of_text HR.out).below ((Below.refl wr.heap.size wr).alloc (Nat.le_refl _) (.cells #[.int .u8 70, .int .u8 114, .int .u8 111, .int .u8 109, .int .u8 32] 5 (5, 6)))
          have hOn3 := HOn.out.alloc (.cells #[.int .u8 70, .int .u8 114, .int .u8 111, .int .u8 109, .int .u8 32] 5 (5, 6))
          generalize hg2 : wr.heap.size = g2 at hrow2 ⊢
          generalize wr.alloc (.cells #[.int .u8 70, .int .u8 114, .int .u8 111, .int .u8 109, .int .u8 32] 5 (5, 6)) = w3 at hrow1 hrow2 hOn3 ⊢
          refine ⟨trivial, (CallsIn.inRound l (callsIn_wide.2 (hasPrefix_n _ _ _ _ (x.1.2 - k) 5 ((pieceOf d x.1).drop k) fromW w3 hrl rfl (Nat.le_refl _) hrow1 hrow2 hbp (by decide)))).mono ?_⟩
          rintro e w3' ⟨rfl, rfl⟩
          rw [← hif]
          clear hrow1 hrow2 HR hkc hck
          by_cases hf : isFrom (pieceOf d x.1) = true
          · rw [hf]
            obtain ⟨v3, q1, q2, q3, q4⟩ := hOn3.1.2.2
            have c3 : w3'.cell? ⟨w.heap.size, 0, none⟩ = some v3 := by rw [cell_of_row _ _ _ _ _ _ q1]; rfl
            have hOn4 := hOn3.alloc (.cells #[.int .i64 (sm : Int), .int .i64 (k : Int)] 45)
            have hb4 := (Below.refl w3'.heap.size w3').alloc (Nat.le_refl _) (.cells #[.int .i64 (sm : Int), .int .i64 (k : Int)] 45)
            have q14 := (hb4.block _ (lt_of_block q1)).trans q1
            have q24 := Own2.below q2 hb4 (Nat.le_refl _)
            have e0 : (w3'.alloc (.cells #[.int .i64 (sm : Int), .int .i64 (k : Int)] 45)).cell? ⟨w3'.heap.size, 0, none⟩ = some (.int .i64 (sm : Int)) := by rw [cell_of_row _ _ _ _ _ _ (heap_alloc_new w3' _)]; rfl
            have e1 : (w3'.alloc (.cells #[.int .i64 (sm : Int), .int .i64 (k : Int)] 45)).cell? ⟨w3'.heap.size, 1, none⟩ = some (.int .i64 (k : Int)) := by rw [cell_of_row _ _ _ _ _ _ (heap_alloc_new w3' _)]; rfl
            have hz3 := hOn3.2
            have H := hide (And.intro hOn4 (And.intro q14 q24))
            clear hOn3 hOn4 q1 q2 q3 q4 hb4 q14
            gi_wp2_with (gi_at_builtin; refine wpListIn_append_from _ rfl _ _ rfl (w.heap.size + 1 + 1 + 1) v3 _ sm k w3'.heap.size 1 rfl rfl q24 e0 e1 (by omega) (by simp; omega) ?_; intro v5 w5 ho5 hg5; have hbx := (hg5.block _ (lt_of_block H.out.2.1) (fun e => by have := (World.ownsRow.lt q24 _ e.symm).1; omega)).trans H.out.2.1; have hc5 : w5.cell? ⟨w.heap.size, 0, none⟩ = some v3 := (by rw [cell_of_row _ _ _ _ _ _ hbx]; rfl); have hf5 : w5.frozen? ⟨w.heap.size, 0, none⟩ = false := (by simp [World.frozen?, hbx]); have HF := hide (hfin1.out _ k hf hm (OnG.appended H.out.1 H.out.2.1 H.out.2.2 ho5 hg5)); obtain ⟨a5, c5, rfl⟩ := Own2.slice ho5; clear ho5 hg5 hbx; generalize ((fromsTo d 0 (pre.map Subtype.val) ++ [(sm, k)]).map frV).length = n5 at HF ⊢)
            exact HF.out
          · simp only [Bool.not_eq_true] at hf
            rw [hf]
            gi_wp2
            exact hfin0.out _ hf hOn3
      · obtain rfl : k = x.1.2 := by omega
        have hif : isFrom (pieceOf d x.1) = false := isFrom_all _ (fun j hj => hall j hj (by omega))
        clear hall ht2 htw
        gi_wp2
        exact hfin0.out _ hif HOn.out
  case done =>
    rintro D xs W hS ⟨v, h1, h2, h3, h4⟩ hD hK
    have hS' : xs.map Subtype.val = spansOf d := hS
    rw [hS'] at h2
    have hc1 : W.cell? ⟨w.heap.size, 0, none⟩ = some v := by rw [cell_of_row _ _ _ _ _ _ h1]; rfl
    have hK' := hide hK
    have H2 := hide h2
    obtain ⟨a, cap, rfl⟩ := h2.slice
    generalize ((fromsTo d 0 (spansOf d)).map frV).length = nn at hc1 H2
    clear h1 h2 h3 hS hK
    gi_wp2
    refine ⟨by simp, .inl ⟨_, _, rfl, run_takeDeferred hK'.out, ?_⟩⟩
    have hcalm : Calm w.heap.size (w.heap.size + 1 + 1) W (W.putObj D (.deferred none)) := Calm.putObj hK'.out rfl (by omega) _
    refine ⟨_, results_tmp rfl _ _ _, _, rfl, ?_, h4.trans hcalm.below⟩
    have h5 : Own2 (W.putObj D (.deferred none)) (w.heap.size + 1 + 1 + 1) 45 (.slice a nn cap) ((fromsTo d 0 (spansOf d)).map frV) := own_calm H2.out hcalm (by omega)
    refine ⟨h5.1, ?_⟩
    rcases h5.2 with hn | ⟨g, cap', cur, hv, hg0, rest⟩
    · exact .inl hn
    · exact .inr ⟨g, cap', cur, hv, by omega, rest⟩
end Go.Proofs.Ytokcdpamcbpaiab
