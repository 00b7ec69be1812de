import Derived.Test.YtokcdpamcbpaiabSplitGo
namespace Go.Proofs.Ytokcdpamcbpaiab
open Go.RowKit
def pairsG (n : Nat) : Nat → List Nat → List (Nat × Nat)
  | cs, [] => [(cs, n)]
  | cs, h :: t => (cs, h) :: pairsG n h t
theorem entAt_succ (s : Nat) (R : List Nat) (n k : Nat) : entAt (s :: R) n (k + 1) = entAt R n k := by
  unfold entAt
  simp [List.getD]
theorem pairs_range (n : Nat) : ∀ (cs : Nat) (H : List Nat), (List.range (cs :: H).length).map (entAt (cs :: H) n) = pairsG n cs H
  | cs, [] => by simp [pairsG, entAt, List.getD]
  | cs, h :: t => by
    rw [List.length_cons, List.range_succ_eq_map, List.map_cons, List.map_map]
    have e : (entAt (cs :: h :: t) n ∘ Nat.succ) = entAt (h :: t) n := by funext k; exact entAt_succ cs (h :: t) n k
    rw [e, pairs_range n h t]
    simp [pairsG, entAt, List.getD]
def evalP (d : List Nat) (ps : List (Nat × Nat)) : Option (List (Nat × Nat × List Nat)) := if ∀ p ∈ ps, okEntry (segB d p.1 p.2) = true then some (ps.map fun p => spanB d p.1 p.2) else none
theorem evalP_cons (d : List Nat) (p : Nat × Nat) (ps : List (Nat × Nat)) : evalP d (p :: ps) = if okEntry (segB d p.1 p.2) = true then (evalP d ps).map (spanB d p.1 p.2 :: ·) else none := by
  unfold evalP
  by_cases h1 : okEntry (segB d p.1 p.2) = true
  · rw [if_pos h1]
    by_cases h2 : ∀ q ∈ ps, okEntry (segB d q.1 q.2) = true
    · rw [if_pos h2, if_pos (fun q hq => (List.mem_cons.1 hq).elim (fun e => e ▸ h1) (h2 q))]
      rfl
    · rw [if_neg h2, if_neg (fun h => h2 fun q hq => h q (List.mem_cons_of_mem _ hq))]
      rfl
  · rw [if_neg h1, if_neg (fun h => h1 (h p (List.mem_cons_self ..)))]
theorem specGo_eq (d : List Nat) : ∀ (xs : List (Nat × Nat)) (cs at_ : Nat), Cover d at_ xs → 0 < at_ → specGo d xs cs at_ = evalP d (pairsG d.length cs ((xs.filter (headL d)).map (·.1)))
  | [], cs, at_, hc, h0 => by
    have e : at_ = d.length := hc
    subst e
    simp only [specGo, List.filter_nil, List.map_nil, pairsG]
    rw [if_pos h0, evalP_cons]
    by_cases h : okEntry (segB d cs d.length) = true
    · rw [if_pos h, if_pos h]; simp [evalP]
    · rw [if_neg h, if_neg h]
  | x :: r, cs, at_, hc, h0 => by
    obtain ⟨h1, h2, h3⟩ := hc
    simp only [specGo]
    by_cases hh : headL d x = true
    · rw [if_pos ⟨hh, h0⟩, List.filter_cons_of_pos hh, List.map_cons, pairsG, evalP_cons, h1, specGo_eq d r at_ (at_ + x.2) h3 (by omega)]
    · rw [if_neg (fun h => hh h.1), List.filter_cons_of_neg hh, specGo_eq d r cs (at_ + x.2) h3 (by omega)]
theorem starts_heads (d : List Nat) : ∀ (xs : List (Nat × Nat)) (s : Nat), Cover d s xs → startsFrom (fromsTo d s xs) = (xs.filter (headL d)).map (·.1)
  | [], s, _ => rfl
  | x :: r, s, hc => by
    obtain ⟨h1, h2, h3⟩ := hc
    have ih := starts_heads d r (s + x.2) h3
    have ha : ∀ a b : List (Nat × Nat), startsFrom (a ++ b) = startsFrom a ++ startsFrom b := fun a b => by unfold startsFrom; rw [List.filter_append, List.map_append]
    rw [fromsTo, ha, ih]
    by_cases hf : isFrom (pieceOf d x) = true
    · rw [if_pos hf]
      by_cases hm : marksOf (pieceOf d x) = 0
      · have hh : headL d x = true := by unfold headL; rw [hf, hm]; rfl
        rw [List.filter_cons_of_pos hh, List.map_cons, h1, hm]
        rfl
      · have hh : ¬ headL d x = true := by unfold headL; rw [hf, decide_eq_false hm]; simp
        rw [List.filter_cons_of_neg hh]
        unfold startsFrom
        rw [List.filter_cons_of_neg (by simpa using hm)]
        rfl
    · have hh : ¬ headL d x = true := by unfold headL; simp [hf]
      rw [if_neg hf, List.filter_cons_of_neg hh]
      rfl
theorem cutAt_head (d : List Nat) (h : d.take 10 = headW) : cutAt d = 10 := by
  obtain ⟨t, rfl⟩ : ∃ t, d = headW ++ t := ⟨d.drop 10, by rw [← h, List.take_append_drop]⟩
  simp [headW, cutAt]
theorem first_head (d : List Nat) (h : d.take 10 = headW) : headL d (0, cutAt d) = true := by
  unfold headL pieceOf
  rw [cutAt_head d h, List.drop_zero]
  show (isFrom (d.take 10) && decide (marksOf (d.take 10) = 0)) = true
  rw [h]
  decide
theorem cover_ge {d : List Nat} {s : Nat} {xs : List (Nat × Nat)} (h : Cover d s xs) : ∀ x ∈ xs, s ≤ x.1 := by
  induction xs generalizing s with
  | nil => intro x hx; cases hx
  | cons y r ih =>
    obtain ⟨h1, h2, h3⟩ := h
    intro x hx
    rcases List.mem_cons.1 hx with rfl | hx
    · omega
    · have := ih h3 x hx; omega
theorem spans_first (d : List Nat) (h : 0 < d.length) : ∃ r, spansOf d = (0, cutAt d) :: r := by
  obtain ⟨n, hn⟩ : ∃ n, d.length = n + 1 := ⟨d.length - 1, by omega⟩
  unfold spansOf
  rw [hn, spansF, if_neg (by omega)]
  exact ⟨_, rfl⟩
theorem evalP_first_no (d : List Nat) (H : List Nat) (h : ¬ headL d (0, cutAt d) = true) : evalP d (pairsG d.length 0 H) = none := by
  have key : ∀ e, ¬ okEntry (segB d 0 e) = true := fun e hok => by
    obtain ⟨h1, h2, _, _⟩ := okEntry_parts hok
    unfold segB at h1 h2
    rw [List.drop_zero, Nat.sub_zero] at h1 h2
    rw [List.length_take] at h1
    rw [List.take_take, Nat.min_eq_left (by omega)] at h2
    exact h (first_head d h2)
  cases H with
  | nil => rw [pairsG, evalP_cons, if_neg (key _)]
  | cons a t => rw [pairsG, evalP_cons, if_neg (key _)]
theorem split_eq (d : List Nat) : specSplit d = splitOf d := by
  unfold specSplit
  by_cases h4 : 40000 < d.length
  · rw [if_pos h4, split_none (Or.inl h4)]
  · rw [if_neg h4]
    have hcov := cover_all d
    have hst : startsFrom (fromsOf d) = ((spansOf d).filter (headL d)).map (·.1) := starts_heads d (spansOf d) 0 hcov
    by_cases h0 : 0 < d.length
    · obtain ⟨r, hr⟩ := spans_first d h0
      rw [hr] at hcov hst ⊢
      obtain ⟨_, hc2, hc3⟩ := hcov
      have hcp := cutAt_pos d h0
      simp only [Nat.zero_add] at hc2 hc3
      have hgo : specGo d ((0, cutAt d) :: r) 0 0 = evalP d (pairsG d.length 0 ((r.filter (headL d)).map (·.1))) := by
        rw [specGo, if_neg (by omega), Nat.zero_add]
        exact specGo_eq d r 0 (cutAt d) hc3 hcp
      rw [hgo]
      by_cases hh : headL d (0, cutAt d) = true
      · rw [List.filter_cons_of_pos hh, List.map_cons] at hst
        generalize (r.filter (headL d)).map (·.1) = H at hst
        have hpr := pairs_range d.length 0 H
        have hst' : startsFrom (fromsOf d) = 0 :: H := hst
        by_cases hall : ∀ p ∈ pairsG d.length 0 H, okEntry (segB d p.1 p.2) = true
        · unfold evalP
          rw [if_pos hall, split_some (by omega) (by rw [hst']; simp) (fun k hk => by
            rw [hst'] at hk ⊢
            exact hall (entAt (0 :: H) d.length k) (by rw [← hpr]; exact List.mem_map.2 ⟨k, List.mem_range.2 hk, rfl⟩)), hst', ← hpr, List.map_map]
          rfl
        · unfold evalP
          rw [if_neg hall]
          obtain ⟨p, hp, hpn⟩ : ∃ p, p ∈ pairsG d.length 0 H ∧ okEntry (segB d p.1 p.2) = false := by
            apply Classical.byContradiction
            intro hn
            refine hall fun p hp => ?_
            cases e : okEntry (segB d p.1 p.2) with
            | true => rfl
            | false => exact absurd ⟨p, hp, e⟩ hn
          rw [← hpr] at hp
          obtain ⟨k, hk, rfl⟩ := List.mem_map.1 hp
          exact (split_none (Or.inr (Or.inr ⟨k, by rw [hst']; exact List.mem_range.1 hk, by rw [hst']; exact hpn⟩))).symm
      · rw [evalP_first_no d _ hh]
        rw [List.filter_cons_of_neg hh] at hst
        refine (split_none (Or.inr (Or.inl ⟨h0, ?_⟩))).symm
        rw [hst]
        intro hd0
        have hm := List.mem_of_head? hd0
        obtain ⟨x, hx, hx0⟩ := List.mem_map.1 hm
        have := cover_ge hc3 x (List.mem_filter.1 hx).1
        omega
    · have hd : d = [] := List.eq_nil_of_length_eq_zero (by omega)
      subst hd
      rw [split_some (by simp) (by simp) (fun k hk => by
        rw [hst] at hk
        simp [spansOf, spansF] at hk), hst]
      simp [spansOf, spansF, specGo]
end Go.Proofs.Ytokcdpamcbpaiab
