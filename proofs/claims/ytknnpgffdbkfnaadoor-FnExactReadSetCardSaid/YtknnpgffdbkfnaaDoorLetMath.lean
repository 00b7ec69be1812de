import Derived.Test.YtknnpgffdbkfnaaDoorFlagIx
namespace Go.Proofs.YtknnpgffdbkfnaaDoor
open Go.RowKit
/-- Places in the table, rising. -/
def Good (is : List Nat) : Prop := is.Pairwise (· < ·) ∧ ∀ i ∈ is, i < 31
def orB (is : List Nat) : Nat := is.foldl (fun f i => f ||| 2 ^ fBit i) 0
theorem fLet_mono : ∀ i, i < 31 → ∀ j, j < 31 → (i < j ↔ fLet i < fLet j) := by decide
theorem fBit_inj : ∀ i, i < 31 → ∀ j, j < 31 → fBit i = fBit j → i = j := by decide
theorem fLet_inj {i j : Nat} (hi : i < 31) (hj : j < 31) (h : fLet i = fLet j) : i = j := by
  rcases Nat.lt_trichotomy i j with h' | h' | h'
  · have := (fLet_mono i hi j hj).1 h'; omega
  · exact h'
  · have := (fLet_mono j hj i hi).1 h'; omega
theorem or_lt {a b : Nat} (ha : a < 4294967296) (hb : b < 4294967296) : a ||| b < 4294967296 := Nat.or_lt_two_pow (n := 32) ha hb
theorem foldOr_lt (is : List Nat) (f : Nat) (hf : f < 4294967296) (h : ∀ i ∈ is, i < 31) : is.foldl (fun f i => f ||| 2 ^ fBit i) f < 4294967296 := by
  induction is generalizing f with
  | nil => exact hf
  | cons i r ih => exact ih _ (or_lt hf (pow_lt31 (fBit_lt i (h i (List.mem_cons_self ..))))) (fun j hj => h j (List.mem_cons_of_mem _ hj))
theorem orB_lt {is : List Nat} (h : Good is) : orB is < 4294967296 := foldOr_lt is 0 (by decide) h.2
theorem foldOr_bit (is : List Nat) (f b : Nat) : (is.foldl (fun f i => f ||| 2 ^ fBit i) f).testBit b = (f.testBit b || is.any fun i => decide (fBit i = b)) := by
  induction is generalizing f with
  | nil => simp
  | cons i r ih =>
    rw [List.foldl_cons, ih, Nat.testBit_or, Nat.testBit_two_pow, List.any_cons, Bool.or_assoc]
theorem orB_bit (is : List Nat) (b : Nat) : (orB is).testBit b = is.any fun i => decide (fBit i = b) := by
  unfold orB; rw [foldOr_bit]; simp
theorem sorted_ext (a b : List Nat) (ha : a.Pairwise (· < ·)) (hb : b.Pairwise (· < ·)) (h : ∀ x, x ∈ a ↔ x ∈ b) : a = b := by
  induction a generalizing b with
  | nil =>
    cases b with
    | nil => rfl
    | cons y r => have := (h y).2 (List.mem_cons_self ..); cases this
  | cons x r ih =>
    cases b with
    | nil => have := (h x).1 (List.mem_cons_self ..); cases this
    | cons y s =>
      have hx : ∀ {z}, z ∈ r → x < z := fun hz => List.rel_of_pairwise_cons ha hz
      have hy : ∀ {z}, z ∈ s → y < z := fun hz => List.rel_of_pairwise_cons hb hz
      have exy : x = y := by
        rcases List.mem_cons.1 ((h x).1 (List.mem_cons_self ..)) with e | e
        · exact e
        · rcases List.mem_cons.1 ((h y).2 (List.mem_cons_self ..)) with e' | e'
          · exact e'.symm
          · have := hy e; have := hx e'; omega
      subst exy
      congr 1
      refine ih s ha.of_cons hb.of_cons (fun z => ⟨fun hz => ?_, fun hz => ?_⟩)
      · rcases List.mem_cons.1 ((h z).1 (List.mem_cons_of_mem _ hz)) with e | e
        · subst e; have := hx hz; omega
        · exact e
      · rcases List.mem_cons.1 ((h z).2 (List.mem_cons_of_mem _ hz)) with e | e
        · subst e; have := hy hz; omega
        · exact e
theorem range_up (n : Nat) : (List.range n).Pairwise (· < ·) := List.pairwise_lt_range
theorem letters_orB {is : List Nat} (h : Good is) : lettersOf (orB is) = is.map fLet := by
  unfold lettersOf lettersTo
  congr 1
  refine sorted_ext _ _ ((range_up 31).filter _) h.1 (fun x => ?_)
  rw [List.mem_filter, List.mem_range, orB_bit, List.any_eq_true]
  constructor
  · rintro ⟨hx, i, hi, e⟩
    rw [← fBit_inj i (h.2 i hi) x hx (of_decide_eq_true e)]
    exact hi
  · intro hx
    exact ⟨h.2 x hx, x, hx, by simp⟩
theorem letters_good (f : Nat) : ∃ is, Good is ∧ lettersOf f = is.map fLet := by
  refine ⟨(List.range 31).filter fun i => f.testBit (fBit i), ⟨(range_up 31).filter _, fun i hi => ?_⟩, rfl⟩
  have := (List.mem_filter.1 hi).1
  simpa using this
/-- What a text of letters tells. -/
def AnsIs (t : List Nat) (ok : Bool) (f : Nat) : Prop := (ok = true ∧ ∃ is, Good is ∧ t = is.map fLet ∧ f = orB is) ∨ (ok = false ∧ f = 0 ∧ ¬ ∃ is, Good is ∧ t = is.map fLet)
theorem map_inj {a b : List Nat} (ha : ∀ i ∈ a, i < 31) (hb : ∀ i ∈ b, i < 31) (h : a.map fLet = b.map fLet) : a = b := by
  induction a generalizing b with
  | nil => cases b with
    | nil => rfl
    | cons y s => simp at h
  | cons x r ih =>
    cases b with
    | nil => simp at h
    | cons y s =>
      simp only [List.map_cons, List.cons.injEq] at h
      rw [fLet_inj (ha x (List.mem_cons_self ..)) (hb y (List.mem_cons_self ..)) h.1, ih (fun i hi => ha i (List.mem_cons_of_mem _ hi)) (fun i hi => hb i (List.mem_cons_of_mem _ hi)) h.2]
theorem ans_same {t : List Nat} {ok ok' : Bool} {f f' : Nat} (h : AnsIs t ok f) (h' : AnsIs t ok' f') : ok = ok' ∧ f = f' := by
  rcases h with ⟨rfl, is, hg, ht, rfl⟩ | ⟨rfl, rfl, hn⟩ <;> rcases h' with ⟨rfl, js, hg', ht', rfl⟩ | ⟨rfl, rfl, hn'⟩
  · have := map_inj hg.2 hg'.2 (ht.symm.trans ht'); subst this; exact ⟨rfl, rfl⟩
  · exact absurd ⟨is, hg, ht⟩ hn'
  · exact absurd ⟨js, hg', ht'⟩ hn
  · exact ⟨rfl, rfl⟩
/-- The bits that the specification sets for a byte. -/
def bitOf (x k : Nat) : Nat := (List.range k).foldl (fun f j => if l4 j = x then f ||| 2 ^ j else f) 0
def orAll (l : List Nat) : Nat := l.foldl (fun f x => f ||| bitOf x 31) 0
theorem bitOf_succ (x k : Nat) : bitOf x (k + 1) = if l4 k = x then bitOf x k ||| 2 ^ k else bitOf x k := by
  unfold bitOf; rw [List.range_succ, List.foldl_append]; rfl
theorem bitOf_lt (x k : Nat) (hk : k ≤ 31) : bitOf x k < 4294967296 := by
  induction k with
  | zero => simp [bitOf]
  | succ k ih =>
    rw [bitOf_succ]
    split
    · exact or_lt (ih (by omega)) (pow_lt31 (by omega))
    · exact ih (by omega)
theorem bitOf_let : ∀ i, i < 31 → bitOf (fLet i) 31 = 2 ^ fBit i := by decide +kernel
theorem orAll_snoc (l : List Nat) (x : Nat) : orAll (l ++ [x]) = orAll l ||| bitOf x 31 := by unfold orAll; rw [List.foldl_append]; rfl
theorem orAll_lt (l : List Nat) : orAll l < 4294967296 := by
  have h : ∀ (l : List Nat) (f : Nat), f < 4294967296 → l.foldl (fun f x => f ||| bitOf x 31) f < 4294967296 := by
    intro l
    induction l with
    | nil => intro f hf; exact hf
    | cons x r ih => intro f hf; exact ih _ (or_lt hf (bitOf_lt x 31 (Nat.le_refl _)))
  exact h l 0 (by decide)
theorem orAll_map (is : List Nat) (h : ∀ i ∈ is, i < 31) : orAll (is.map fLet) = orB is := by
  have hg : ∀ (is : List Nat) (f : Nat), (∀ i ∈ is, i < 31) → (is.map fLet).foldl (fun f x => f ||| bitOf x 31) f = is.foldl (fun f i => f ||| 2 ^ fBit i) f := by
    intro is
    induction is with
    | nil => intro f _; rfl
    | cons i r ih =>
      intro f hf
      simp only [List.map_cons, List.foldl_cons]
      rw [bitOf_let i (hf i (List.mem_cons_self ..))]
      exact ih _ (fun j hj => hf j (List.mem_cons_of_mem _ hj))
  exact hg is 0 h
theorem good_len {is : List Nat} (h : Good is) : is.length ≤ 31 := by
  have e := congrArg List.length (letters_orB h)
  rw [List.length_map] at e
  have := lettersTo_len (orB is) 31
  unfold lettersOf at e
  omega
/-- The specification's answer is the answer. -/
theorem spec_ans_yes {t : List Nat} (h : lettersOf (orAll t) = t) : AnsIs t true (orAll t) := by
  obtain ⟨is, hg, e⟩ := letters_good (orAll t)
  have ht : t = is.map fLet := by rw [← e, h]
  exact .inl ⟨rfl, is, hg, ht, by rw [ht, orAll_map is hg.2]⟩
theorem spec_ans_no {t : List Nat} (h : ¬ lettersOf (orAll t) = t) : AnsIs t false 0 := by
  refine .inr ⟨rfl, rfl, fun ⟨is, hg, e⟩ => h ?_⟩
  rw [e, orAll_map is hg.2, letters_orB hg]
theorem long_ans_no {t : List Nat} (h : 31 < t.length) : AnsIs t false 0 := by
  refine .inr ⟨rfl, rfl, fun ⟨is, hg, e⟩ => ?_⟩
  have := good_len hg
  rw [e, List.length_map] at h
  omega
end Go.Proofs.YtknnpgffdbkfnaaDoor
