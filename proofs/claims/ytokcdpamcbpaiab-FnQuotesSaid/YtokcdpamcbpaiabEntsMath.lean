import Derived.Test.YtokcdpamcbpaiabLinesOf
namespace Go.Proofs.Ytokcdpamcbpaiab
open Go.RowKit
def fullB (b : List Nat) : List Nat := if bareB b then b ++ [10] else b
theorem marks_end (t : List Nat) : marksOf (t ++ [10]) = marksOf t := by
  induction t with
  | nil => rfl
  | cons x r ih => simp only [List.cons_append, marksOf, ih]
theorem isFrom_end (t : List Nat) : isFrom (t ++ [10]) = isFrom t := by
  unfold isFrom
  rw [marks_end, List.drop_append_of_le_length (marksOf_le t)]
  generalize t.drop (marksOf t) = r
  by_cases h : 5 ≤ r.length
  · rw [List.take_append_of_le_length (by simpa [fromW] using h)]
  · have h1 : ¬ (r ++ [10]).take fromW.length = fromW := by
      intro e
      rw [List.take_of_length_le (by simp [fromW]; omega)] at e
      have hm : 10 ∈ fromW := by rw [← e]; simp
      simp [fromW] at hm
    have h2 : ¬ r.take fromW.length = fromW := by
      intro e
      have := congrArg List.length e
      rw [List.length_take] at this
      simp [fromW] at this
      omega
    rw [decide_eq_false h1, decide_eq_false h2]
theorem qL_end (t : List Nat) : qL (t ++ [10]) = qL t ++ [10] := by
  unfold qL
  rw [isFrom_end]
  split <;> rfl
theorem bare_last (m : List Nat) (x : Nat) : bareB (m ++ [x]) = decide (x ≠ 10) := by
  unfold bareB
  rw [dif_pos (by simp)]
  simp
theorem bare_full (ls : List (List Nat)) (h : ∀ l ∈ ls, Full l) : bareB ls.flatten = false := by
  rcases List.eq_nil_or_concat ls with rfl | ⟨l', x, rfl⟩
  · rfl
  · obtain ⟨m, rfl, hm⟩ := h x (by simp)
    rw [List.concat_eq_append, List.flatten_append, show List.flatten [m ++ [10]] = m ++ [10] from by simp, ← List.append_assoc, bare_last]
    rfl
theorem bare_tail (a t : List Nat) (h : ¬ 10 ∈ t) (h0 : 0 < t.length) : bareB (a ++ t) = true := by
  rcases List.eq_nil_or_concat t with rfl | ⟨t', x, rfl⟩
  · simp at h0
  · rw [List.concat_eq_append] at h ⊢
    rw [← List.append_assoc, bare_last, decide_eq_true]
    intro e
    subst e
    exact h (by simp)
theorem body_lines (b : List Nat) : ∃ ms, (∀ l ∈ ms, Full l) ∧ fullB b = List.flatten ms ∧ quoteOf b ++ (if bareB b then [10] else []) = (ms.map qL).flatten := by
  obtain ⟨ls, t, rfl, h1, h2⟩ := lines_parts b
  by_cases h0 : 0 < t.length
  · have hb := bare_tail ls.flatten t h2 h0
    refine ⟨ls ++ [t ++ [10]], ?_, ?_, ?_⟩
    · intro l hl
      rcases List.mem_append.1 hl with hl | hl
      · exact h1 l hl
      · obtain rfl : l = t ++ [10] := by simpa using hl
        exact ⟨t, rfl, h2⟩
    · unfold fullB
      rw [hb]
      simp
    · rw [hb, quote_lines, lines_full ls t h1, lines_tail t h2 h0, List.flatMap_append, List.flatMap_def]
      simp [qL_end]
  · have : t = [] := List.eq_nil_of_length_eq_zero (by omega)
    subst this
    have hb : bareB (ls.flatten ++ []) = false := by rw [List.append_nil]; exact bare_full ls h1
    refine ⟨ls, h1, ?_, ?_⟩
    · unfold fullB
      rw [hb]
      simp
    · rw [hb, quote_lines, lines_full ls [] h1, lines_nil, List.append_nil, List.flatMap_def]
      simp
def entL (ms : List (List Nat)) : List (List Nat) := headW :: (ms.map qL ++ [[10]])
theorem entL_flat (ms : List (List Nat)) : (entL ms).flatten = headW ++ ((ms.map qL).flatten ++ [10]) := by simp [entL]
theorem entL_full {ms : List (List Nat)} (h : ∀ l ∈ ms, Full l) : ∀ l ∈ entL ms, Full l := by
  intro l hl
  rcases List.mem_cons.1 hl with rfl | hl
  · exact ⟨[70, 114, 111, 109, 32, 109, 97, 105, 108], rfl, by decide⟩
  · rcases List.mem_append.1 hl with hl | hl
    · obtain ⟨m, hm, rfl⟩ := List.mem_map.1 hl
      exact full_q (h m hm)
    · obtain rfl : l = [10] := by simpa using hl
      exact ⟨[], rfl, by simp⟩
theorem entry_lines (b : List Nat) (hb : b.length ≤ 8000) : ∃ ms, (∀ l ∈ ms, Full l) ∧ fullB b = List.flatten ms ∧ entryOf b = (entL ms).flatten := by
  obtain ⟨ms, h1, h2, h3⟩ := body_lines b
  refine ⟨ms, h1, h2, ?_⟩
  rw [entL_flat, ← h3]
  unfold entryOf
  rw [if_neg (by omega)]
  simp
def headP (l : List Nat) : Bool := isFrom l && decide (marksOf l = 0)
theorem headP_w : headP headW = true := by decide
theorem headP_n : headP [10] = false := by decide
theorem headP_q (l : List Nat) : headP (qL l) = false := by
  unfold qL
  by_cases h : isFrom l = true
  · rw [if_pos h]
    unfold headP
    simp [marksOf]
  · rw [if_neg h]
    unfold headP
    simp only [Bool.not_eq_true] at h
    rw [h]
    rfl
theorem ent_inner (ms : List (List Nat)) : innerOf (entL ms).flatten = (ms.map qL).flatten := by
  rw [entL_flat]
  generalize (ms.map qL).flatten = Q
  unfold innerOf
  have e1 : (headW ++ (Q ++ [10])).length - 11 = Q.length := by simp [headW]
  rw [List.drop_append_of_le_length (by simp [headW]), e1]
  show ([] ++ (Q ++ [10])).take Q.length = Q
  simp
theorem ent_ok {ms : List (List Nat)} (h : ∀ l ∈ ms, Full l) : okEntry (entL ms).flatten = true := by
  have hin := ent_inner ms
  have hb : bareB (ms.map qL).flatten = false := bare_full _ fun l hl => by
    obtain ⟨m, hm, rfl⟩ := List.mem_map.1 hl
    exact full_q (h m hm)
  unfold okEntry
  rw [hin, hb, entL_flat]
  generalize (ms.map qL).flatten = Q
  rw [decide_eq_true]
  · rfl
  · refine ⟨by simp [headW], ?_, ?_⟩
    · rw [List.take_append_of_le_length (by simp [headW])]; rfl
    · have e1 : ((headW ++ Q) ++ [10]).length - 1 = (headW ++ Q).length := by simp
      rw [← List.append_assoc, e1, List.drop_left]
theorem ent_body {ms : List (List Nat)} (h : ∀ l ∈ ms, Full l) : unquoteOf (innerOf (entL ms).flatten) = ms.flatten := by
  rw [ent_inner, unquote_lines]
  have hq : ∀ l ∈ ms.map qL, Full l := fun l hl => by
    obtain ⟨m, hm, rfl⟩ := List.mem_map.1 hl
    exact full_q (h m hm)
  have e := lines_full (ms.map qL) [] hq
  rw [List.append_nil, lines_nil, List.append_nil] at e
  rw [e, List.flatMap_map]
  simp only [uq_line]
  exact List.flatMap_id'
theorem go_plain (d : List Nat) (X : List (Nat × Nat)) (cs : Nat) : ∀ (r : List (List Nat)) (at_ : Nat) (rest : List Nat), (∀ l ∈ r, headP l = false) → d.drop at_ = r.flatten ++ rest → specGo d (posL at_ r ++ X) cs at_ = specGo d X cs (at_ + r.flatten.length)
  | [], at_, rest, _, _ => by simp [posL]
  | x :: r, at_, rest, h, hd => by
    rw [List.flatten_cons, List.append_assoc] at hd
    have hp : pieceOf d (at_, x.length) = x := by unfold pieceOf; simp only; rw [hd]; simp
    have hh : headL d (at_, x.length) = false := by
      show headP (pieceOf d (at_, x.length)) = false
      rw [hp]; exact h x (List.mem_cons_self ..)
    rw [posL, List.cons_append, specGo, if_neg (by rw [hh]; simp)]
    rw [go_plain d X cs r (at_ + x.length) rest (fun l hl => h l (List.mem_cons_of_mem _ hl)) (by rw [← List.drop_drop, hd]; simp)]
    rw [List.flatten_cons, List.length_append, Nat.add_assoc]
def spansM : Nat → List (List (List Nat)) → List (Nat × Nat × List Nat)
  | _, [] => []
  | p, ms :: r => (p, p + (entL ms).flatten.length, ms.flatten) :: spansM (p + (entL ms).flatten.length) r
theorem rest_plain (ms : List (List Nat)) : ∀ l ∈ ms.map qL ++ [[10]], headP l = false := by
  intro l hl
  rcases List.mem_append.1 hl with hl | hl
  · obtain ⟨m, _, rfl⟩ := List.mem_map.1 hl
    exact headP_q m
  · obtain rfl : l = [10] := by simpa using hl
    exact headP_n
theorem ent_span {d : List Nat} {ms : List (List Nat)} {p : Nat} {rest : List Nat} (h : ∀ l ∈ ms, Full l) (hd : d.drop p = (entL ms).flatten ++ rest) : okEntry (segB d p (p + (entL ms).flatten.length)) = true ∧ spanB d p (p + (entL ms).flatten.length) = (p, p + (entL ms).flatten.length, ms.flatten) := by
  have e : segB d p (p + (entL ms).flatten.length) = (entL ms).flatten := by
    unfold segB
    rw [hd, show p + (entL ms).flatten.length - p = (entL ms).flatten.length from by omega, List.take_left]
  refine ⟨by rw [e]; exact ent_ok h, ?_⟩
  unfold spanB
  rw [e, ent_body h]
theorem go_rest {d : List Nat} {ms : List (List Nat)} {p cs : Nat} {rest : List Nat} (hd : d.drop p = (entL ms).flatten ++ rest) (L : List (List Nat)) :
    specGo d (posL (p + headW.length) (ms.map qL ++ [[10]] ++ L)) cs (p + headW.length) = specGo d (posL (p + (entL ms).flatten.length) L) cs (p + (entL ms).flatten.length) := by
  have hd2 : d.drop (p + headW.length) = (ms.map qL ++ [[10]]).flatten ++ rest := by
    rw [← List.drop_drop, hd, entL, List.flatten_cons, List.append_assoc, List.drop_left]
  rw [posL_append, go_plain d _ cs _ _ rest (rest_plain ms) hd2]
  have e : p + headW.length + (ms.map qL ++ [[10]]).flatten.length = p + (entL ms).flatten.length := by
    rw [entL, List.flatten_cons, List.length_append]; omega
  rw [e]
theorem go_entries (d : List Nat) : ∀ (es : List (List (List Nat))) (cs at_ : Nat), 0 < at_ → okEntry (segB d cs at_) = true → (∀ ms ∈ es, ∀ l ∈ ms, Full l) → d.drop at_ = (es.flatMap entL).flatten → specGo d (posL at_ (es.flatMap entL)) cs at_ = some (spanB d cs at_ :: spansM at_ es)
  | [], cs, at_, h0, hok, _, _ => by
    simp only [List.flatMap_nil, posL, specGo, spansM]
    rw [if_pos h0, if_pos hok]
  | ms :: r, cs, at_, h0, hok, hf, hd => by
    rw [List.flatMap_cons, List.flatten_append] at hd
    have hms := hf ms (List.mem_cons_self ..)
    obtain ⟨k1, k2⟩ := ent_span hms hd
    have hp : pieceOf d (at_, headW.length) = headW := by
      unfold pieceOf
      simp only
      rw [hd, entL, List.flatten_cons, List.append_assoc, List.take_left]
    have hh : headL d (at_, headW.length) = true := by
      show headP (pieceOf d (at_, headW.length)) = true
      rw [hp]; exact headP_w
    have e1 : posL at_ ((ms :: r).flatMap entL) = (at_, headW.length) :: posL (at_ + headW.length) (ms.map qL ++ [[10]] ++ r.flatMap entL) := by
      rw [List.flatMap_cons, entL, List.cons_append, posL]
    rw [e1, specGo, if_pos ⟨hh, h0⟩, if_pos hok]
    simp only
    rw [go_rest hd, go_entries d r at_ (at_ + (entL ms).flatten.length) (by omega) k1 (fun m hm => hf m (List.mem_cons_of_mem _ hm)) (by rw [← List.drop_drop, hd, List.drop_left]), k2]
    rfl
def spansE : Nat → List (List Nat) → List (Nat × Nat × List Nat)
  | _, [] => []
  | p, b :: r => (p, p + (entryOf b).length, fullB b) :: spansE (p + (entryOf b).length) r
theorem ents_of (bs : List (List Nat)) (h : ∀ b ∈ bs, b.length ≤ 8000) : ∃ es : List (List (List Nat)), (∀ ms ∈ es, ∀ l ∈ ms, Full l) ∧ bs.flatMap entryOf = (es.flatMap entL).flatten ∧ ∀ p, spansM p es = spansE p bs := by
  induction bs with
  | nil => exact ⟨[], (fun m hm => by cases hm), rfl, fun p => rfl⟩
  | cons b r ih =>
    obtain ⟨es, h1, h2, h3⟩ := ih (fun x hx => h x (List.mem_cons_of_mem _ hx))
    obtain ⟨ms, k1, k2, k3⟩ := entry_lines b (h b (List.mem_cons_self ..))
    refine ⟨ms :: es, ?_, ?_, ?_⟩
    · intro m hm
      rcases List.mem_cons.1 hm with rfl | hm
      · exact k1
      · exact h1 m hm
    · rw [List.flatMap_cons, List.flatMap_cons, List.flatten_append, h2, k3]
    · intro p
      rw [spansM, spansE, h3, k2, k3]
theorem split_entries (bs : List (List Nat)) (h : ∀ b ∈ bs, b.length ≤ 8000) (hl : (bs.flatMap entryOf).length ≤ 40000) : splitOf (bs.flatMap entryOf) = some (spansE 0 bs) := by
  obtain ⟨es, h1, h2, h3⟩ := ents_of bs h
  rw [← split_eq, ← h3, h2]
  rw [h2] at hl
  unfold specSplit
  rw [if_neg (by omega), spans_lines]
  have hlines : linesOf (es.flatMap entL).flatten = es.flatMap entL := by
    have e := lines_full (es.flatMap entL) [] (fun l hl => by
      obtain ⟨ms, hm, hl⟩ := List.mem_flatMap.1 hl
      exact entL_full (h1 ms hm) l hl)
    rw [List.append_nil, lines_nil, List.append_nil] at e
    exact e
  rw [hlines]
  cases es with
  | nil => simp [posL, specGo, spansM]
  | cons ms r =>
    have hd : ((ms :: r).flatMap entL).flatten.drop 0 = (entL ms).flatten ++ (r.flatMap entL).flatten := by
      rw [List.drop_zero, List.flatMap_cons, List.flatten_append]
    generalize hD : ((ms :: r).flatMap entL).flatten = D at hd
    have e1 : posL 0 ((ms :: r).flatMap entL) = (0, headW.length) :: posL (0 + headW.length) (ms.map qL ++ [[10]] ++ r.flatMap entL) := by
      rw [List.flatMap_cons, entL, List.cons_append, posL]
    have hms := h1 ms (List.mem_cons_self ..)
    obtain ⟨k1, k2⟩ := ent_span hms hd
    rw [e1, specGo, if_neg (by simp)]
    simp only
    rw [go_rest hd, go_entries D r 0 (0 + (entL ms).flatten.length) (by rw [entL, List.flatten_cons, List.length_append]; simp [headW]; omega) k1 (fun m hm => h1 m (List.mem_cons_of_mem _ hm)) (by rw [← List.drop_drop, hd, List.drop_left]), k2]
    rfl
end Go.Proofs.Ytokcdpamcbpaiab
