import Derived.Test.YtokcdpamcbpaiabUnframeMath
namespace Go.Proofs.Ytokcdpamcbpaiab
/-- Where the frames of the records end. -/
def endsum : List (List Nat) → Nat
  | [] => 0
  | r :: rs => 6 + r.length + endsum rs
def cat : List (List Nat) → List Nat
  | [] => []
  | r :: rs => frameB r ++ cat rs
def Okay (ls : List (List Nat)) : Prop := ∀ r ∈ ls, 1 ≤ r.length ∧ r.length ≤ 2000
theorem cat_length (ls : List (List Nat)) : (cat ls).length = endsum ls := by
  induction ls with
  | nil => rfl
  | cons r rs ih => simp only [cat, endsum, List.length_append, frameB_length, ih]
theorem endsum_append (a b : List (List Nat)) : endsum (a ++ b) = endsum a + endsum b := by
  induction a with
  | nil => simp [endsum]
  | cons r rs ih => simp only [List.cons_append, endsum, ih]; omega
theorem cat_append (a b : List (List Nat)) : cat (a ++ b) = cat a ++ cat b := by
  induction a with
  | nil => simp [cat]
  | cons r rs ih => simp only [List.cons_append, cat, ih, List.append_assoc]
theorem endsum_succ (ls : List (List Nat)) (k : Nat) (h : k < ls.length) : endsum (ls.take (k + 1)) = endsum (ls.take k) + 6 + ls[k].length := by
  rw [List.take_succ_eq_append_getElem h, endsum_append]; simp only [endsum]; omega
theorem endsum_le (ls : List (List Nat)) (k : Nat) : endsum (ls.take k) ≤ endsum ls := by
  have h := endsum_append (ls.take k) (ls.drop k)
  rw [List.take_append_drop] at h; omega
theorem frameGo_some {acc : List Nat} {ls : List (List Nat)} {r : List Nat} (h : frameGo acc ls = some r) : r = acc ++ cat ls ∧ Okay ls := by
  induction ls generalizing acc with
  | nil => simp [frameGo] at h; subst h; exact ⟨by simp [cat], fun r h => by cases h⟩
  | cons x t ih =>
    simp only [frameGo] at h
    split at h
    · cases h
    · next hc =>
      obtain ⟨e, ok⟩ := ih h
      refine ⟨by rw [e]; simp [cat], fun r hr => ?_⟩
      rcases List.mem_cons.1 hr with rfl | hr
      · omega
      · exact ok r hr
theorem frameB_get0 (r t : List Nat) : len2 (frameB r ++ t) = r.length / 256 % 256 * 256 + r.length % 256 := rfl
theorem first_whole (r t : List Nat) (h1 : 1 ≤ r.length) (h2 : r.length ≤ 2000) : firstOf (frameB r ++ t) = some r := by
  have hl : len2 (frameB r ++ t) = r.length := by rw [frameB_get0]; omega
  have hL : (frameB r ++ t).length = 6 + r.length + t.length := by rw [List.length_append, frameB_length]
  have h6 : (frameB r ++ t).drop 6 = r ++ t := rfl
  have ht : (r ++ t).take r.length = r := by simp
  have hf : (frameB r ++ t).take (6 + r.length) = frameB r := by rw [← frameB_length]; simp
  have h := firstOf_yes (d := frameB r ++ t) (by omega) (by rw [hl, hL]; omega) (by rw [hl, h6, ht, hf])
  rw [hl, h6, ht] at h
  exact h
theorem first_part (r t : List Nat) (m : Nat) (h2 : r.length ≤ 2000) (hm : m < 6 + r.length) : firstOf ((frameB r ++ t).take m) = none := by
  have hL : ((frameB r ++ t).take m).length = m := by rw [List.length_take, List.length_append, frameB_length]; omega
  by_cases h : m < 6
  · exact firstOf_short (by omega)
  · have hl : len2 ((frameB r ++ t).take m) = r.length := by
      have e : ∀ i, i < m → ((frameB r ++ t).take m).getD i 0 = (frameB r ++ t).getD i 0 := by
        intro i hi
        simp only [List.getD_eq_getElem?_getD, List.getElem?_take, if_pos hi]
      have e2 : len2 ((frameB r ++ t).take m) = len2 (frameB r ++ t) := by unfold len2; rw [e 0 (by omega), e 1 (by omega)]
      rw [e2, frameB_get0]; omega
    exact firstOf_bad (by omega) (by rw [hl, hL]; omega)
theorem unf_run (D X : List Nat) (rs : List (List Nat)) (hX : firstOf X = none) (ok : Okay rs) : ∀ (f : Nat) (acc : List (List Nat)) (g : Nat), D.drop g = cat rs ++ X → rs.length ≤ f → unfGo D f acc g = (acc ++ rs, g + endsum rs) := by
  induction rs with
  | nil =>
    intro f acc g hd _
    rw [unf_none (by rw [hd]; simpa [cat] using hX)]
    simp [endsum]
  | cons r t ih =>
    intro f acc g hd hf
    cases f with
    | zero => simp at hf
    | succ f =>
      have hr := ok r List.mem_cons_self
      have h1 : firstOf (D.drop g) = some r := by
        rw [hd]
        simp only [cat, List.append_assoc]
        exact first_whole r _ hr.1 hr.2
      have h2 : D.drop (g + (6 + r.length)) = cat t ++ X := by
        rw [← List.drop_drop, hd]
        simp only [cat, List.append_assoc]
        rw [← frameB_length r]
        simp
      simp only [unfGo, h1]
      rw [ih (fun x hx => ok x (List.mem_cons_of_mem _ hx)) f (acc ++ [r]) (g + (6 + r.length)) h2 (by simpa using hf)]
      simp [endsum]
      omega
theorem len_le_end (ls : List (List Nat)) : ls.length ≤ endsum ls := by
  induction ls with
  | nil => simp
  | cons r t ih => simp only [List.length_cons, endsum]; omega
/-- Unframe of a prefix of a log. -/
theorem unf_prefix (ls : List (List Nat)) (ok : Okay ls) (n k : Nat) (hn : n ≤ 40000) (hk : k ≤ ls.length) (h1 : endsum (ls.take k) ≤ n) (hnl : n ≤ endsum ls) (h2 : k < ls.length → n < endsum (ls.take (k + 1))) :
    unfOf ((cat ls).take n) = (ls.take k, endsum (ls.take k)) := by
  have hlen : ((cat ls).take n).length = n := by rw [List.length_take, cat_length]; omega
  unfold unfOf
  rw [if_neg (by omega)]
  have hsplit : (cat ls).take n = cat (ls.take k) ++ (cat (ls.drop k)).take (n - endsum (ls.take k)) := by
    have e : cat ls = cat (ls.take k) ++ cat (ls.drop k) := by rw [← cat_append, List.take_append_drop]
    rw [e, List.take_append, cat_length, List.take_of_length_le (by rw [cat_length]; exact h1)]
  have hX : firstOf ((cat (ls.drop k)).take (n - endsum (ls.take k))) = none := by
    by_cases hlt : k < ls.length
    · rw [List.drop_eq_getElem_cons hlt]
      simp only [cat]
      have := endsum_succ ls k hlt
      have := h2 hlt
      exact first_part _ _ _ (ok _ (List.getElem_mem hlt)).2 (by omega)
    · rw [List.drop_eq_nil_of_le (by omega)]
      exact firstOf_short (by simp [cat])
  have h := unf_run ((cat ls).take n) _ (ls.take k) hX (fun r hr => ok r (List.mem_of_mem_take hr)) ((cat ls).take n).length [] 0 (by rw [List.drop_zero]; exact hsplit) (by
    have := len_le_end (ls.take k)
    omega)
  rw [h]
  simp
end Go.Proofs.Ytokcdpamcbpaiab
