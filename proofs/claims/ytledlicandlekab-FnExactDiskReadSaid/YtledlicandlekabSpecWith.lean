import Derived.Test.YtledlicandlekabSpecSame
namespace Go.Proofs.Ytledlicandlekab
open Go.RowKit
theorem two_append (l m : List (Value × Value)) : two (l ++ m) = two l ++ two m := by simp [two]
theorem wpList_append_entry {ops : Array Oper} {rest : List Oper} {o : Oper} {act : Act} {Q : Exit → Act → World → Prop} (w : World) (hgd : o.guard = none) (s x : Operand)
    (ho : o.op = .call { callee := .builtin .append, args := #[s, x], argTypes := #[33, 33] })
    (base : Nat) (v : Value) (es : List (ByteArray × Int)) (e : ByteArray × Int) (g1 c : Nat) (hs : act.eval s = v) (hx : act.eval x = .slice (some ⟨g1, 0, none⟩) 1 c) (hown : OwnE w base v es)
    (h0 : w.cell? ⟨g1, 0, none⟩ = some (.string e.1)) (h1 : w.cell? ⟨g1, 1, none⟩ = some (.int .i64 e.2)) (hlen : es.length ≤ 1048576) (hbase : base ≤ w.heap.size)
    (h : ∀ v' w', OwnE w' base v' (es ++ [e]) → w.grownBy w' v.ownBlock → wpList Try.prog ops Q rest (act.put o.dst v') w') : wpList Try.prog ops Q (o :: rest) act w := by
  obtain ⟨i0, hi, hz0, hz1, hz2⟩ := info_parts Try.infoEntry
  have hown' : w.ownsRow base 58 2 v es.length (two (es.map entP)) := by have := hown; unfold OwnE Own2 at this; rw [List.length_map] at this; exact this
  refine wpList_append_own w hgd s x 33 ho base 58 i0 (.agg #[.string ByteArray.empty, .int .i64 0]) 2 24 Try.underlying33 hi hz0 hz1 hz2 rfl (by decide) v es.length (two (es.map entP)) hs hown' ⟨g1, 0, none⟩ 1 c [.string e.1, .int .i64 e.2] hx (by simp) ?_ ?_ (by unfold maxLen; omega) (by omega) hbase ?_
  · intro j u hj
    rw [addr_add]
    match j with
    | 0 => simp only [List.getElem?_cons_zero, Option.some.injEq] at hj; rw [← hj]; exact h0
    | 1 => simp only [List.getElem?_cons_succ, List.getElem?_cons_zero, Option.some.injEq] at hj; rw [← hj]; exact h1
    | j + 2 => simp at hj
  · intro u hu
    simp only [List.mem_cons, List.not_mem_nil, or_false] at hu
    rcases hu with rfl | rfl <;> rfl
  · intro v' w' hown2 hg _
    refine h v' w' ?_ hg
    unfold OwnE Own2
    rw [List.length_map, List.length_append, List.map_append, two_append]
    exact hown2
theorem l1Without_any (a : Option Addr) (cap : Nat) (es : List (ByteArray × Int)) (nm : ByteArray) (w : World) (hn : es.length ≤ 1048575) (hr : EntAt w a es) :
    Calls Try.prog 72 #[.slice a es.length cap, .string nm] w fun e w' => ∃ v, e = .returned v ∧ OwnE w' w.heap.size v (es.filter fun e => decide (e.1 ≠ nm)) ∧ Below w.heap.size w w' := by
  go_enter Try.func72, Try.ntmps72
  go_wp2
  go_loopw [5, 10] (fun v i wr => ∃ k : Nat, k ≤ es.length ∧ i = .int .i64 k ∧ OwnE wr w.heap.size v ((es.take k).filter fun e => decide (e.1 ≠ nm)) ∧ Below w.heap.size w wr) (fun _ i _ => es.length - (intOf i).toNat)
  case atStart => exact ⟨0, Nat.zero_le _, rfl, World.ownsRow_nil w w.heap.size 58 2, Below.refl _ _⟩
  case round =>
    obtain ⟨k, hk, rfl, hown, hnx⟩ := hrel
    by_cases hlt : k < es.length
    · obtain ⟨b, off, rfl, hc⟩ := (hr.below hnx) (by omega)
      obtain ⟨hc0, hc1⟩ := hc k hlt
      have HTS := hide (List.take_succ_eq_append_getElem hlt)
      have hfl : ((es.take k).filter fun e => decide (e.1 ≠ nm)).length ≤ 1048576 := Nat.le_trans (List.length_filter_le _ _) (by simp; omega)
      have hown2 := (hown.below ((Below.refl _ _).alloc (Nat.le_refl _) (.cells #[.string es[k].1, .int .i64 es[k].2] 58))).below ((Below.refl _ _).alloc (Nat.le_refl _) (.cells #[.string es[k].1, .int .i64 es[k].2] 58))
      have HOW1 := hide (hown.below ((Below.refl _ _).alloc (Nat.le_refl _) (.cells #[.string es[k].1, .int .i64 es[k].2] 58)))
      have hnx1 := hnx.alloc hnx.size (.cells #[.string es[k].1, .int .i64 es[k].2] 58)
      have HN1 := hide hnx1
      have HN2 := hide (hnx1.alloc hnx1.size (.cells #[.string es[k].1, .int .i64 es[k].2] 58))
      have l2 := Laid.new (wr.alloc (.cells #[.string es[k].1, .int .i64 es[k].2] 58)) #[.string es[k].1, .int .i64 es[k].2] 58
      rw [show (wr.alloc (.cells #[.string es[k].1, .int .i64 es[k].2] 58)).heap.size = wr.heap.size + 1 from by simp] at l2
      have HC0 := hide (l2.cell 0)
      have HC1 := hide (l2.cell 1)
      have HLO := hide (World.ownsRow.lt hown)
      have HOW2 := hide hown2
      clear hc hr hown hown2 hnx hnx1 l2
      by_cases hx : es[k].1 = nm
      · have hbq := beq_of_eq hx
        have HF := hide (show ((es.take (k + 1)).filter fun e => decide (e.1 ≠ nm)) = ((es.take k).filter fun e => decide (e.1 ≠ nm)) from by rw [HTS.out, List.filter_append]; simp [hx])
        clear HTS hx
        generalize es[k].1 = x0 at hc0 hbq HN1 HN2 HOW1 HOW2 HC0 HC1
        generalize es[k].2 = x1 at hc1 HN1 HN2 HOW1 HOW2 HC0 HC1
        go_wp2
        go_roundw
        case rel => exact ⟨k + 1, by omega, by go_num, by rw [HF.out]; exact HOW1.out, HN1.out⟩
        case measure => simp [intOf]; omega
      · have hbq := beq_of_ne hx
        have HF := hide (show ((es.take (k + 1)).filter fun e => decide (e.1 ≠ nm)) = ((es.take k).filter fun e => decide (e.1 ≠ nm)) ++ [(es[k].1, es[k].2)] from by rw [HTS.out, List.filter_append]; simp [hx])
        clear HTS hx
        generalize es[k].1 = x0 at hc0 hbq HN1 HN2 HOW1 HOW2 HC0 HC1 HF
        generalize es[k].2 = x1 at hc1 HN1 HN2 HOW1 HOW2 HC0 HC1 HF
        generalize ((es.take k).filter fun e => decide (e.1 ≠ nm)) = fl at hfl HOW1 HOW2 HF
        go_wp2_with (first
          | (at_builtin; refine wpList_append_entry _ rfl (.tmp 18) (.tmp 20) rfl w.heap.size u5 fl (x0, x1) (wr.heap.size + 1) 1 rfl rfl ?_ ?_ ?_ hfl ?_ ?_; (exact HOW2.out); (exact HC0.out); (exact HC1.out); (exact HN2.out.size); intro v3 w3 ho3 hg3)
          | go_in)
        exact ⟨⟨k + 1, by omega, by go_num, by rw [HF.out]; exact ho3, HN2.out.grown hg3 HN2.out.size (fun j hj => (HLO.out j hj).1)⟩, by simp [intOf]; omega⟩
    · have he : es.take k = es := List.take_of_length_le (by omega)
      rw [he] at hown
      have HO := hide hown
      clear hown he
      go_wp2
      go_ret
      exact ⟨_, rfl, HO.out, hnx⟩
end Go.Proofs.Ytledlicandlekab
