import Derived.Test.YtokcdpamcbpaiabAppAt
namespace Go.Proofs.Ytokcdpamcbpaiab
open Go.RowKit
theorem cutAt_at (l : List Nat) (k : Nat) (hk : k < l.length) (h1 : ∀ j (h : j < l.length), j < k → l[j] ≠ 10) (h2 : l[k] = 10) : cutAt l = k + 1 := by
  induction l generalizing k with
  | nil => simp at hk
  | cons x r ih =>
    cases k with
    | zero => simp at h2; simp [cutAt, h2]
    | succ k =>
      have hx : x ≠ 10 := h1 0 (by simp) (by omega)
      simp only [cutAt]
      rw [if_neg hx, ih k (by simpa using hk) (fun j hj hjk => by have := h1 (j + 1) (by simp; omega) (by omega); simpa using this) (by simpa using h2)]
theorem Try.infoSl : (Try.prog.info? 22).map (fun i => (i.zero, i.size, i.bytes)) = some (some (.slice none 0 0), 1, 24) := by kernel_rfl
theorem wpList_append_sl {ops : Array Oper} {rest : List Oper} {o : Oper} {act : Act} {Q : Exit → Act → World → Prop} (w : World) (hgd : o.guard = none) (s x : Operand)
    (ho : o.op = .call { callee := .builtin .append, args := #[s, x], argTypes := #[27, 27] })
    (base : Nat) (v : Value) (vs : List Value) (u : Value) (g1 c : Nat) (hs : act.eval s = v) (hx : act.eval x = .slice (some ⟨g1, 0, none⟩) 1 c) (hown : w.ownsRow base 22 1 v vs.length vs)
    (h0 : w.cell? ⟨g1, 0, none⟩ = some u) (hu : u.oneCell' = true) (hlen : vs.length ≤ 1048576) (hbase : base ≤ w.heap.size)
    (h : ∀ v' w', w'.ownsRow base 22 1 v' (vs.length + 1) (vs ++ [u]) → w.grownBy w' v.ownBlock → wpList Try.prog ops Q rest (act.put o.dst v') w') : wpList Try.prog ops Q (o :: rest) act w := by
  obtain ⟨i0, hi, hz0, hz1, hz2⟩ := info_parts Try.infoSl
  refine wpList_append_own w hgd s x 27 ho base 22 i0 (.slice none 0 0) 1 24 Try.underlying27 hi hz0 hz1 hz2 rfl (by decide) v vs.length vs hs hown ⟨g1, 0, none⟩ 1 c [u] hx (by simp) ?_ ?_ (by unfold maxLen; omega) (by omega) hbase ?_
  · intro j y hj
    rw [addr_add]
    match j with
    | 0 => simp only [List.getElem?_cons_zero, Option.some.injEq] at hj; rw [← hj]; exact h0
    | j + 1 => simp at hj
  · intro y hy
    simp only [List.mem_cons, List.not_mem_nil, or_false] at hy
    rw [hy]; exact hu
  · intro v' w' hown2 hg _
    exact h v' w' hown2 hg
/-- The slice of a piece of the text. -/
def lnV (b off cap : Nat) (x : Nat × Nat) : Value := .slice (some ⟨b, off + x.1, none⟩) x.2 (cap - x.1)
theorem row_sl {w : World} {base e n : Nat} {v : Value} {vs : List Value} (h : w.ownsRow base e 1 v n vs) : ∃ a cap, v = .slice a n cap := by
  rcases h.2 with ⟨rfl, hn⟩ | ⟨g, cap, cur, rfl, _⟩
  · exact ⟨none, 0, by rw [hn]⟩
  · exact ⟨_, cap, rfl⟩
theorem own1_below {B base e n : Nat} {w w' : World} {v : Value} {vs : List Value} (h : w.ownsRow base e 1 v n vs) (hb : Below B w w') (hB : w.heap.size ≤ B) : w'.ownsRow base e 1 v n vs := by
  refine ⟨h.1, ?_⟩
  rcases h.2 with hn | ⟨g, cap, cur, hv, hg0, hg, rest⟩
  · exact .inl hn
  · exact .inr ⟨g, cap, cur, hv, hg0, (hb.block g (Nat.lt_of_lt_of_le (lt_of_block hg) hB)).trans hg, rest⟩
set_option maxRecDepth 20000 in
set_option maxHeartbeats 1000000 in
theorem l3Lines_any (b off cap : Nat) (d : List Nat) (w : World) (hd : d.length ≤ 1048576) (hcap : d.length ≤ cap) (hT : TextAt w b off d) (hbw : b < w.heap.size) :
    Calls Try.prog 24 #[.slice (some ⟨b, off, none⟩) d.length cap] w fun e w' => ∃ v, e = .returned v ∧ w'.ownsRow w.heap.size 22 1 v (spansOf d).length ((spansOf d).map (lnV b off cap)) ∧ Below w.heap.size w w' := by
  go_enter Try.func24, Try.ntmps24
  go_wp2
  go_loopw [3, 4, 5, 8] (fun v f _ i wr => ∃ (k p : Nat) (pre : List (Nat × Nat)), k ≤ d.length ∧ p ≤ k ∧ i = .int .i64 (k : Int) ∧ f = .int .i64 (p : Int) ∧ wr.ownsRow w.heap.size 22 1 v pre.length (pre.map (lnV b off cap)) ∧ pre.length ≤ p ∧ pre ++ spansF (d.length - p) p (d.drop p) = spansOf d ∧ (∀ j (h : j < d.length), p ≤ j → j < k → d[j] ≠ 10) ∧ Below w.heap.size w wr) (fun _ _ _ i _ => d.length - (intOf i).toNat)
  case atStart => exact ⟨0, 0, [], Nat.zero_le _, Nat.le_refl _, rfl, rfl, World.ownsRow_nil _ _ _ _, Nat.le_refl _, by simp [spansOf], fun j _ _ h => by omega, Below.refl _ _⟩
  case round =>
    obtain ⟨k, p, pre, hk, hpk, rfl, rfl, ho, hpl, hsp, hno, hB⟩ := hrel
    have HT := hide hT
    by_cases hlt : k < d.length
    · have hck := hT.below hB hbw k hlt
      clear hT
      by_cases h10 : d[k] = 10
      · rw [h10] at hck
        have hcut : cutAt (d.drop p) = k - p + 1 := cutAt_at _ _ (by rw [List.length_drop]; omega) (fun j hj hjk => by rw [List.getElem_drop]; exact hno _ (by rw [List.length_drop] at hj; omega) (by omega) (by omega)) (by rw [List.getElem_drop]; simp only [show p + (k - p) = k from by omega]; exact h10)
        have hst := spans_step (by omega : p < d.length) hcut
        rw [hst, show p + (k - p + 1) = k + 1 from by omega] at hsp
        have HS := hide hsp
        have hi1 : (p : Int) ≤ (k : Int) + 1 := by omega
        have hi2 : (k : Int) + 1 ≤ (cap : Int) := by omega
        have hne : ¬ cap = p := by omega
        have hln : k + 1 - p = k - p + 1 := by omega
        have hal := (Below.refl wr.heap.size wr).alloc (Nat.le_refl _) (.cells #[lnV b off cap (p, k - p + 1)] 22)
        have ho' : (wr.alloc (.cells #[lnV b off cap (p, k - p + 1)] 22)).ownsRow w.heap.size 22 1 u3 (pre.map (lnV b off cap)).length (pre.map (lnV b off cap)) := by rw [List.length_map]; exact own1_below ho hal (Nat.le_refl _)
        have hc0 : (wr.alloc (.cells #[lnV b off cap (p, k - p + 1)] 22)).cell? ⟨wr.heap.size, 0, none⟩ = some (lnV b off cap (p, k - p + 1)) := by rw [cell_of_row _ _ _ _ _ _ (heap_alloc_new wr _)]; rfl
        have hsz := hB.size
        have HB := hide (hB.alloc hsz (.cells #[lnV b off cap (p, k - p + 1)] 22))
        clear hsp hst hB ho hal hno
        simp only [lnV] at hc0 ho' HB
        go_wp2_with (at_builtin; refine wpList_append_sl _ rfl _ _ rfl w.heap.size u3 _ _ wr.heap.size 1 rfl rfl ho' hc0 rfl (by rw [List.length_map]; omega) (by simp; omega) ?_; intro v5 w5 ho5 hg5)
        have hb5 := HB.out.grown hg5 (by simp; omega) (fun g h => (World.ownsRow.lt ho' g h).1)
        go_roundw
        case rel =>
          refine ⟨k + 1, k + 1, pre ++ [(p, k - p + 1)], by omega, Nat.le_refl _, by go_num, by go_num, ?_, by rw [List.length_append]; simp; omega, by rw [List.append_assoc]; exact HS.out, fun j _ h1 h2 => by omega, hb5⟩
          rw [List.length_append, List.map_append]
          rw [List.length_map] at ho5
          exact ho5
        case measure => simp [intOf]; omega
      · have he : ((d[k] : Int) == 10) = false := by simp; omega
        have HS := hide hsp
        have HO := hide ho
        have HB := hide hB
        have HN := hide hno
        clear hsp ho hB hno
        go_wp2
        go_roundw
        case rel =>
          refine ⟨k + 1, p, pre, by omega, by omega, by go_num, rfl, HO.out, hpl, HS.out, fun j hj h1 h2 => ?_, HB.out⟩
          by_cases e : j = k
          · subst e; exact h10
          · exact HN.out j hj h1 (by omega)
        case measure => simp [intOf]; omega
    · obtain rfl : k = d.length := by omega
      by_cases hp : p < d.length
      · have hcut : cutAt (d.drop p) = d.length - p := by
          rw [cutAt_none _ (fun h => by
            obtain ⟨j, hj, e⟩ := List.getElem_of_mem h
            rw [List.getElem_drop] at e
            rw [List.length_drop] at hj
            exact hno (p + j) (by omega) (by omega) (by omega) e), List.length_drop]
        have hst := spans_step hp hcut
        rw [hst, show p + (d.length - p) = d.length from by omega, spansF_nil _ _ _ (by simp)] at hsp
        have HS := hide hsp
        have hi1 : (p : Int) < (d.length : Int) := by omega
        have hi3 : (p : Int) ≤ (d.length : Int) := by omega
        have hne : ¬ cap = p := by omega
        have hal := (Below.refl wr.heap.size wr).alloc (Nat.le_refl _) (.cells #[lnV b off cap (p, d.length - p)] 22)
        have ho' : (wr.alloc (.cells #[lnV b off cap (p, d.length - p)] 22)).ownsRow w.heap.size 22 1 u3 (pre.map (lnV b off cap)).length (pre.map (lnV b off cap)) := by rw [List.length_map]; exact own1_below ho hal (Nat.le_refl _)
        have hc0 : (wr.alloc (.cells #[lnV b off cap (p, d.length - p)] 22)).cell? ⟨wr.heap.size, 0, none⟩ = some (lnV b off cap (p, d.length - p)) := by rw [cell_of_row _ _ _ _ _ _ (heap_alloc_new wr _)]; rfl
        have hsz := hB.size
        have HB := hide (hB.alloc hsz (.cells #[lnV b off cap (p, d.length - p)] 22))
        clear hsp hst hB ho hal hno hT
        simp only [lnV] at hc0 ho' HB
        go_wp2_with (at_builtin; refine wpList_append_sl _ rfl _ _ rfl w.heap.size u3 _ _ wr.heap.size 1 rfl rfl ho' hc0 rfl (by rw [List.length_map]; omega) (by simp; omega) ?_; intro v5 w5 ho5 hg5)
        have hb5 := HB.out.grown hg5 (by simp; omega) (fun g h => (World.ownsRow.lt ho' g h).1)
        go_ret
        refine ⟨_, rfl, ?_, hb5⟩
        rw [← HS.out, List.length_append, List.map_append]
        rw [List.length_map] at ho5
        exact ho5
      · obtain rfl : p = d.length := by omega
        rw [spansF_nil _ _ _ (by simp), List.append_nil] at hsp
        subst hsp
        have HO := hide ho
        clear ho hno hT
        go_wp2
        go_ret
        exact ⟨_, rfl, HO.out, hB⟩
/-- What the specification tells of a line. -/
def marksV (l : List Nat) : Int := if isFrom l then (marksOf l : Int) else -1
theorem fromS : (strB fromW).toList = [70, 114, 111, 109, 32] := by rw [strB_list]; rfl
set_option maxRecDepth 20000 in
set_option maxHeartbeats 1000000 in
theorem l3Marks_any (b off cap : Nat) (l : List Nat) (w : World) (hl : l.length ≤ 1048576) (hcap : l.length ≤ cap) (hT : TextAt w b off l) (hb : ∀ x ∈ l, x < 256) :
    Calls Try.prog 25 #[.slice (some ⟨b, off, none⟩) l.length cap] w fun e w' => e = .returned (.int .i64 (marksV l)) ∧ w' = w := by
  go_enter Try.func25, Try.ntmps25
  go_wp2
  go_loopw [3] (fun i wr => ∃ k : Nat, k ≤ l.length ∧ i = .int .i64 (k : Int) ∧ (∀ j (h : j < l.length), j < k → l[j] = 62) ∧ wr = w) (fun i _ => l.length - (intOf i).toNat)
  case atStart => exact ⟨0, Nat.zero_le _, rfl, fun j _ h => by omega, rfl⟩
  case round =>
    obtain ⟨k, hk, rfl, hall, rfl⟩ := hrel
    by_cases hlt : k < l.length
    · have hck := hT k hlt
      by_cases h62 : l[k] = 62
      · rw [h62] at hck
        have HA := hide hall
        clear hall hT
        go_wp2
        go_roundw
        case rel => exact ⟨k + 1, by omega, by go_num, fun j hj hjk => by
            by_cases e : j = k
            · subst e; exact h62
            · exact HA.out j hj (by omega), by simp⟩
        case measure => simp [intOf]; omega
      · have he : ((l[k] : Int) == 62) = false := by simp; omega
        have hm := marksOf_at l k hlt hall h62
        have hif : isFrom l = decide ((l.drop k).take 5 = fromW) := by unfold isFrom; rw [hm]; rfl
        clear hall
        by_cases h5 : k + 5 ≤ l.length
        · have hl5 := slice_len l k 5 (by omega)
          have hcv := run_string_of wr (some ⟨b, off + k, none⟩) (cap - k) ((l.drop k).take 5) (rowAt_of_text (text_slice hT k 5))
          rw [hl5] at hcv
          have hbq : ((strB ((l.drop k).take 5)).toList == (strB fromW).toList) = isFrom l := by
            rw [hif]
            exact strB_beq (fun x hx => hb x (List.mem_of_mem_drop (List.mem_of_mem_take hx))) (by decide)
          rw [fromS] at hbq
          generalize strB ((l.drop k).take 5) = S at hcv hbq
          have hne : ¬ cap = k := by omega
          have hi1 : (k : Int) + 5 ≤ (l.length : Int) := by omega
          have hi2 : (k : Int) + 5 ≤ (cap : Int) := by omega
          have hi3 : (k : Int) ≤ (k : Int) + 5 := by omega
          clear hif hT
          by_cases hf : isFrom l = true
          · rw [hf] at hbq
            have hv : marksV l = (k : Int) := by unfold marksV; rw [hf, hm]; rfl
            have HV := hide hv
            clear hv
            go_wp2
            go_ret
            exact ⟨by rw [HV.out]; rfl, rfl⟩
          · simp only [Bool.not_eq_true] at hf
            rw [hf] at hbq
            have hv : marksV l = -1 := by unfold marksV; rw [hf]; rfl
            have HV := hide hv
            clear hv
            go_wp2
            go_ret
            exact ⟨by rw [HV.out]; rfl, rfl⟩
        · have hf : isFrom l = false := by
            rw [hif]
            exact decide_eq_false fun e => by have := congrArg List.length e; simp [fromW] at this; omega
          have hv : marksV l = -1 := by unfold marksV; rw [hf]; rfl
          have HV := hide hv
          clear hv
          have hi1 : ¬ (k : Int) + 5 ≤ (l.length : Int) := by omega
          clear hif hT
          go_wp2
          go_ret
          exact ⟨by rw [HV.out]; rfl, rfl⟩
    · obtain rfl : k = l.length := by omega
      have hf : isFrom l = false := isFrom_all l (fun j hj => hall j hj hj)
      have hv : marksV l = -1 := by unfold marksV; rw [hf]; rfl
      have HV := hide hv
      clear hv
      clear hall hT
      go_wp2
      go_ret
      exact ⟨by rw [HV.out]; rfl, rfl⟩
end Go.Proofs.Ytokcdpamcbpaiab
