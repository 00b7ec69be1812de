import Derived.Test.YtokcdpamcbpaiabImplUnquote
import Derived.Test.YtokcdpamcbpaiabInner
namespace Go.Proofs.Ytokcdpamcbpaiab
open Go.RowKit
def iv (x : Nat) : Value := .int .i64 (x : Int)
/-- v is a slice of ints of the call's own that holds l. -/
def OwnI (w : World) (base : Nat) (v : Value) (l : List Nat) : Prop := w.ownsRow base 3 1 v l.length (l.map iv)
theorem OwnI.slice {w : World} {base : Nat} {v : Value} {l : List Nat} (h : OwnI w base v l) : ∃ a cap, v = .slice a l.length cap := by
  rcases h.2 with ⟨rfl, hn⟩ | ⟨g, cap, cur, rfl, _⟩
  · exact ⟨none, 0, by rw [hn]⟩
  · exact ⟨_, cap, rfl⟩
theorem OwnI.below {B base : Nat} {w w' : World} {v : Value} {l : List Nat} (h : OwnI w base v l) (hb : Below B w w') (hB : w.heap.size ≤ B) : OwnI w' base v l := by
  refine ⟨h.1, ?_⟩
  rcases h.2 with hn | ⟨g, cap, cur, rfl, hbase, hg, rest⟩
  · exact .inl hn
  · exact .inr ⟨g, cap, cur, rfl, hbase, (hb.block g (Nat.lt_of_lt_of_le (lt_of_block hg) hB)).trans hg, rest⟩
theorem OwnI.nil (w : World) (base : Nat) : OwnI w base (.slice none 0 0) [] := World.ownsRow_nil w base 3 1
theorem OwnI.mono {w : World} {base base' : Nat} {v : Value} {l : List Nat} (h : OwnI w base v l) (hb : base' ≤ base) : OwnI w base' v l := by
  refine ⟨h.1, ?_⟩
  rcases h.2 with hn | ⟨g, cap, cur, rfl, hbase, rest⟩
  · exact .inl hn
  · exact .inr ⟨g, cap, cur, rfl, Nat.le_trans hb hbase, rest⟩
theorem OwnI.cell {w : World} {base g n cap : Nat} {l : List Nat} (h : OwnI w base (.slice (some ⟨g, 0, none⟩) n cap) l) (k : Nat) (hk : k < l.length) : w.cell? ⟨g, k, none⟩ = some (.int .i64 (l[k] : Int)) := by
  rcases h.2 with ⟨h', _⟩ | ⟨g', cap', cur, h', _, hg, hc, _, hs, htake⟩
  · simp at h'
  · simp only [Value.slice.injEq, Option.some.injEq, Addr.mk.injEq, and_true] at h'
    obtain ⟨rfl, rfl, rfl⟩ := h'
    rw [cell_of_row _ _ _ _ _ _ hg]
    have h1 : (cur.toList.take (l.length * 1))[k]? = (l.map iv)[k]? := by rw [htake]
    rw [List.getElem?_take, if_pos (by omega)] at h1
    simp [hk, iv] at h1
    simpa using h1
theorem Try.info3 : (Try.prog.info? 3).map (fun i => (i.zero, i.size, i.bytes)) = some (some (.int .i64 0), 1, 8) := by kernel_rfl
theorem wpList_append_int {ops : Array Oper} {rest : List Oper} {o : Oper} {act : Act} {Q : Exit → Act → World → Prop} (w : World) (hgd : o.guard = none) (s x : Operand)
    (ho : o.op = .call { callee := .builtin .append, args := #[s, x], argTypes := #[28, 28] })
    (base : Nat) (v : Value) (l : List Nat) (n : Nat) (g1 c : Nat) (hs : act.eval s = v) (hx : act.eval x = .slice (some ⟨g1, 0, none⟩) 1 c) (hown : OwnI w base v l)
    (h0 : w.cell? ⟨g1, 0, none⟩ = some (.int .i64 (n : Int))) (hlen : l.length ≤ 1048576) (hbase : base ≤ w.heap.size)
    (h : ∀ v' w', OwnI w' base v' (l ++ [n]) → w.grownBy w' v.ownBlock → wpList Try.prog ops Q rest (act.put o.dst v') w') : wpList Try.prog ops Q (o :: rest) act w := by
  obtain ⟨i0, hi, hz0, hz1, hz2⟩ := info_parts Try.info3
  refine wpList_append_own w hgd s x 28 ho base 3 i0 (.int .i64 0) 1 8 Try.underlying28 hi hz0 hz1 hz2 rfl (by decide) v l.length (l.map iv) hs hown ⟨g1, 0, none⟩ 1 c [iv n] hx (by simp) ?_ ?_ (by unfold maxLen; omega) (by omega) hbase ?_
  · intro j u hj
    rw [addr_add]
    match j with
    | 0 => simp only [List.getElem?_cons_zero, Option.some.injEq] at hj; rw [← hj]; exact h0
    | j + 1 => simp at hj
  · intro u hu
    simp only [List.mem_cons, List.not_mem_nil, or_false] at hu
    subst hu; rfl
  · intro v' w' hown2 hg _
    refine h v' w' ?_ hg
    unfold OwnI
    rw [List.length_append, List.map_append]
    exact hown2
/-- Where the entries of a text begin: its "From " lines without a '>'. -/
def startsFrom (fs : List (Nat × Nat)) : List Nat := (fs.filter fun x => decide (x.2 = 0)).map (·.1)
theorem startsFrom_len (fs : List (Nat × Nat)) : (startsFrom fs).length ≤ fs.length := by
  unfold startsFrom; rw [List.length_map]; exact List.length_filter_le ..
set_option maxRecDepth 20000 in
set_option maxHeartbeats 1000000 in
theorem entryStarts_any (b off cap : Nat) (d : List Nat) (w : World) (hd : d.length ≤ 1048575) (hcap : d.length ≤ cap) (hcm : cap ≤ 9223372036854775807) (hT : TextAt w b off d) (hb : ∀ x ∈ d, x < 256) :
    Calls Try.prog 31 #[.slice (some ⟨b, off, none⟩) d.length cap] w fun e w' => ∃ v, e = .returned v ∧ OwnI w' w.heap.size v (startsFrom (fromsOf d)) ∧ Below w.heap.size w w' := by
  go_enter Try.func31, Try.ntmps31
  go_wp2_with fail
  refine (fromLines_any (some ⟨b, off, none⟩) cap d w (by omega) hcap hcm (rowAt_of_text hT) hb).mono ?_
  rintro e w1 ⟨v1, rfl, ho1, hb1⟩
  have hfl := froms_len d
  generalize hfs : fromsOf d = fs at ho1 hfl
  have hsl := startsFrom_len fs
  generalize hRd : startsFrom fs = R at hsl
  obtain ⟨a1, c1, rfl⟩ := ho1.slice
  rw [List.length_map] at ho1 ⊢
  have hQ1 := hide ho1
  have HFS := hide hfs
  clear hT hfs
  go_wp2
  go_loopw [3, 5, 9] (fun v _ i wr => ∃ (k : Nat) (acc : List Nat), k ≤ fs.length ∧ i = .int .i64 (k : Int) ∧ OwnI wr w1.heap.size v acc ∧ acc ++ startsFrom (fs.drop k) = R ∧ Below w1.heap.size w1 wr) (fun _ _ i _ => fs.length - (intOf i).toNat)
  case atStart => exact ⟨0, [], Nat.zero_le _, rfl, OwnI.nil _ _, by simpa using hRd, Below.refl _ _⟩
  case round =>
    obtain ⟨k, acc, hk, rfl, ho, hacc, hB⟩ := hrel
    have hal : acc.length ≤ 1048575 := by rw [← hacc, List.length_append] at hsl; omega
    by_cases hlt : k < fs.length
    · rw [List.drop_eq_getElem_cons hlt] at hacc
      have hown1 : Own2 wr _ _ _ _ := Own2.below hQ1.out hB (Nat.le_refl _)
      obtain ⟨g1, rfl⟩ : ∃ g1, a1 = some ⟨g1, 0, none⟩ := by
        rcases hown1.2 with ⟨_, hn⟩ | ⟨g, cap', cur, h', _⟩
        · rw [List.length_map] at hn; omega
        · simp only [Value.slice.injEq] at h'; exact ⟨g, h'.1⟩
      obtain ⟨hc0, hc1⟩ := Own2.cells hown1 k (by simpa using hlt)
      simp only [List.getElem_map, frV] at hc0 hc1
      have hsz := hB.size
      have hst : startsFrom (fs[k] :: fs.drop (k + 1)) = (if fs[k].2 = 0 then [fs[k].1] else []) ++ startsFrom (fs.drop (k + 1)) := by
        unfold startsFrom
        by_cases h : fs[k].2 = 0
        · rw [List.filter_cons_of_pos (by simpa using h), if_pos h]; rfl
        · rw [List.filter_cons_of_neg (by simpa using h), if_neg h]; rfl
      rw [hst] at hacc
      have HA := hide hacc
      clear hacc hst
      generalize fs[k].1 = st at hc0 HA
      generalize fs[k].2 = mk at hc1 HA
      have hh1 := heap_alloc_new wr (.cells #[.int .i64 (st : Int), .int .i64 (mk : Int)] 45)
      have hb2 := hB.alloc hsz (.cells #[.int .i64 (st : Int), .int .i64 (mk : Int)] 45)
      have ho1' := ho.below ((Below.refl wr.heap.size wr).alloc (Nat.le_refl _) (.cells #[.int .i64 (st : Int), .int .i64 (mk : Int)] 45)) (Nat.le_refl _)
      have hvb : ∀ g, u3.ownBlock = some g → w1.heap.size ≤ g ∧ g < wr.heap.size := fun g h => World.ownsRow.lt ho g h
      clear ho hB hown1
      go_wp2_with fail
      generalize hW2 : wr.alloc (.cells #[.int .i64 (st : Int), .int .i64 (mk : Int)] 45) = wr2 at hh1 hb2 ho1' ⊢
      have hz2 : wr2.heap.size = wr.heap.size + 1 := by rw [← hW2]; simp
      clear hW2
      refine (quoted_any st mk wr2).mono ?_
      rintro e w3 ⟨rfl, hb3⟩
      have hh3 := (hb3.block wr.heap.size (by omega)).trans hh1
      have hcs : w3.cell? ⟨wr.heap.size, 0, none⟩ = some (.int .i64 (st : Int)) := by rw [cell_of_row _ _ _ _ _ _ hh3]; rfl
      have hbb3 := below_trans' hb2 hb3
      have ho3 := ho1'.below hb3 (Nat.le_refl _)
      have hz3 := hb3.size
      by_cases hm : 0 < mk
      · have hmd : decide (0 < mk) = true := decide_eq_true hm
        rw [hmd]
        have hA2 := HA.out
        rw [if_neg (by omega), List.nil_append] at hA2
        have HA2 := hide hA2
        have HO3 := hide ho3
        have HB3 := hide hbb3
        clear hA2 HA ho3 hbb3 hh1 hb2 ho1' hb3 hcs hh3
        go_wp2
        go_roundw
        case rel => exact ⟨k + 1, acc, by omega, by go_num, HO3.out, HA2.out, HB3.out⟩
        case measure => simp [intOf]; omega
      · have hmd : decide (0 < mk) = false := decide_eq_false hm
        rw [hmd]
        have hA2 := HA.out
        rw [if_pos (by omega)] at hA2
        have HA2 := hide hA2
        have hx4 := heap_alloc_new w3 (.cells #[.int .i64 (st : Int)] 3)
        have hc4 : (w3.alloc (.cells #[.int .i64 (st : Int)] 3)).cell? ⟨w3.heap.size, 0, none⟩ = some (.int .i64 (st : Int)) := by rw [cell_of_row _ _ _ _ _ _ hx4]; rfl
        have ho4 := ho3.below ((Below.refl w3.heap.size w3).alloc (Nat.le_refl _) (.cells #[.int .i64 (st : Int)] 3)) (Nat.le_refl _)
        have hb4 := hbb3.alloc (by omega) (.cells #[.int .i64 (st : Int)] 3)
        clear hA2 HA hh1 hb2 ho1' hb3 hx4
        go_wp2_with (at_builtin; refine wpList_append_int _ rfl (.tmp 16) (.tmp 19) rfl w1.heap.size u3 acc st w3.heap.size 1 rfl rfl ho4 hc4 (by omega) (by simp; omega) ?_; intro v5 w5 ho5 hg5; have hb5 : Below w1.heap.size w1 w5 := (hb4.grown hg5 (by simp; omega) (fun g h => (hvb g h).1)))
        go_roundw
        case rel => exact ⟨k + 1, acc ++ [st], by omega, by go_num, ho5, by rw [← HA2.out]; simp, hb5⟩
        case measure => simp [intOf]; omega
    · obtain rfl : k = fs.length := by omega
      rw [List.drop_length] at hacc
      have hacc' : acc = R := by simpa [startsFrom] using hacc
      subst hacc'
      go_wp2
      go_ret
      exact ⟨_, rfl, by rw [HFS.out, hRd]; exact ho.mono hb1.size, hb1.trans (hB.mono hb1.size)⟩
end Go.Proofs.Ytokcdpamcbpaiab
