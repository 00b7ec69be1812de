import Derived.Test.YtknnpgffdbkfnaaDoorRfDef
import Derived.Test.YtknnpgffdbkfnaaDoorFlMath
import Derived.Test.YtknnpgffdbkfnaaDoorReadForm
namespace Go.Proofs.YtknnpgffdbkfnaaDoor
open Go.RowKit
theorem split_join (b : UInt8) : ∀ xs : List (List UInt8), xs ≠ [] → (∀ x ∈ xs, b ∉ x) → splitOf b (Lib.join xs [b]) = xs
  | [], h, _ => absurd rfl h
  | [x], _, hx => by rw [Lib.join_one, splitOf_no (hx x List.mem_cons_self)]
  | x :: y :: r, _, hx => by
    have ih := split_join b (y :: r) (by simp) (fun z hz => hx z (List.mem_cons_of_mem _ hz))
    have e : Lib.join (x :: y :: r) [b] = x ++ b :: Lib.join (y :: r) [b] := by
      rw [Lib.join_cons, Lib.join_cons]
      simp [Lib.joinTail]
    rw [e, splitOf_at (hx x List.mem_cons_self), ih]
theorem name_no32 (i : Nat) (hi : i < 31) : (32 : UInt8) ∉ (strB (nameL i)).data.toList := by
  have h : ∀ i, i < 31 → (32 : UInt8) ∉ (nameL i).map UInt8.ofNat := by decide
  exact h i hi
theorem acc_names (f : Nat) : ∀ (is : List Nat) (g : Nat), (∀ i ∈ is, i < 31) → (is.map nameL).foldl accS (some g) = some (is.foldl (fun f i => f ||| 2 ^ i) g)
  | [], _, _ => rfl
  | i :: r, g, h => by
    rw [List.map_cons, List.foldl_cons, List.foldl_cons]
    have e : accS (some g) (nameL i) = some (g ||| 2 ^ i) := by
      unfold accS
      rw [findK_some (h i List.mem_cons_self) (fits_eq rfl)]
    rw [e]
    exact acc_names f r _ (fun j hj => h j (List.mem_cons_of_mem _ hj))
theorem fold_bit (is : List Nat) (g b : Nat) : (is.foldl (fun f i => f ||| 2 ^ i) g).testBit b = (g.testBit b || is.any fun i => decide (i = b)) := by
  induction is generalizing g with
  | nil => simp
  | cons i r ih => rw [List.foldl_cons, ih, Nat.testBit_or, Nat.testBit_two_pow, List.any_cons, Bool.or_assoc]
theorem bit_lt31 {f b : Nat} (hf : f < 2147483648) (h : f.testBit b = true) : b < 31 := by
  rcases Nat.lt_or_ge b 31 with h' | h'
  · exact h'
  · rw [Nat.testBit_lt_two_pow (Nat.lt_of_lt_of_le hf (Nat.pow_le_pow_right (by decide) h' : 2 ^ 31 ≤ 2 ^ b))] at h
    cases h
theorem fold_back (f : Nat) (hf : f < 2147483648) : ((List.range 31).filter fun i => f.testBit i).foldl (fun f i => f ||| 2 ^ i) 0 = f := by
  apply Nat.eq_of_testBit_eq
  intro b
  rw [fold_bit, Nat.zero_testBit, Bool.false_or]
  cases h : f.testBit b with
  | true =>
    rw [List.any_eq_true]
    exact ⟨b, List.mem_filter.2 ⟨List.mem_range.2 (bit_lt31 hf h), h⟩, by simp⟩
  | false =>
    rw [List.any_eq_false]
    intro i hi e
    have e' : i = b := of_decide_eq_true e
    subst e'
    have h2 := (List.mem_filter.1 hi).2
    rw [h] at h2
    cases h2
theorem map_setN (f : Nat) : ((setN f 31).map (·.data.toList)).map (fun l => l.map UInt8.toNat) = ((List.range 31).filter fun i => f.testBit i).map nameL := by
  unfold setN
  rw [List.map_map, List.map_map]
  refine List.map_congr_left fun i hi => ?_
  have h31 := List.mem_range.1 (List.mem_filter.1 hi).1
  show ((nameL i).map UInt8.ofNat).map UInt8.toNat = nameL i
  exact map_back _ (nameL_lt i h31)
/-- What FlagList writes is read back. -/
theorem rf_back (f : Nat) (hf : f < 2147483648) : rfOf ((⟨#[40]⟩ ++ flS f 31) ++ ⟨#[41]⟩ : ByteArray).data.toList = some f := by
  obtain ⟨h1, h2⟩ := setN_join f 31
  have e : ((⟨#[40]⟩ ++ flS f 31) ++ ⟨#[41]⟩ : ByteArray).data.toList = 40 :: ((flS f 31).data.toList ++ [41]) := by
    rw [ByteArray.data_append, ByteArray.data_append, Array.toList_append, Array.toList_append]
    rfl
  rw [e]
  have hb : brk (40 :: ((flS f 31).data.toList ++ [41])) = some (flS f 31).data.toList := by
    unfold brk
    rw [if_pos ⟨by simp, rfl, List.getLast?_concat (l := 40 :: (flS f 31).data.toList)⟩]
    simp
  unfold rfOf
  rw [hb]
  simp only
  have hfb := fold_back f hf
  have hacc := acc_names f ((List.range 31).filter fun i => f.testBit i) 0 (fun i hi => List.mem_range.1 (List.mem_filter.1 hi).1)
  rw [hfb, ← map_setN] at hacc
  by_cases hz : (flS f 31).data.toList = []
  · rw [if_pos hz]
    rw [h2.1 hz] at hacc
    exact hacc
  · rw [if_neg hz, h1, split_join]
    · exact hacc
    · intro h
      exact hz (h2.2 (by simpa using h))
    · intro x hx
      simp only [setN, List.map_map, List.mem_map, List.mem_filter, List.mem_range, Function.comp] at hx
      obtain ⟨i, ⟨hi, _⟩, rfl⟩ := hx
      exact name_no32 i hi
theorem fBit_onto : ∀ b, b < 31 → ∃ i, i < 31 ∧ fBit i = b := by
  have h : ∀ b, b < 31 → (List.range 31).any (fun i => decide (fBit i = b)) = true := by decide +kernel
  intro b hb
  obtain ⟨i, hi, e⟩ := List.any_eq_true.1 (h b hb)
  exact ⟨i, List.mem_range.1 hi, of_decide_eq_true e⟩
theorem letters_is (f : Nat) (hf : f < 2147483648) : ∃ is, Good is ∧ lettersOf f = is.map fLet ∧ orB is = f := by
  refine ⟨(List.range 31).filter fun i => f.testBit (fBit i), ⟨(range_up 31).filter _, fun i hi => List.mem_range.1 (List.mem_filter.1 hi).1⟩, rfl, ?_⟩
  apply Nat.eq_of_testBit_eq
  intro b
  rw [orB_bit]
  cases h : f.testBit b with
  | true =>
    obtain ⟨i, hi, e⟩ := fBit_onto b (bit_lt31 hf h)
    rw [List.any_eq_true]
    exact ⟨i, List.mem_filter.2 ⟨List.mem_range.2 hi, by rw [e]; exact h⟩, by simp [e]⟩
  | false =>
    rw [List.any_eq_false]
    intro i hi e
    have e' : fBit i = b := of_decide_eq_true e
    have h2 := (List.mem_filter.1 hi).2
    rw [e', h] at h2
    cases h2
/-- What FlagLetters writes is read back. -/
theorem let_back {f f' : Nat} {ok : Bool} (hf : f < 2147483648) (h : AnsIs (lettersOf f) ok f') : ok = true ∧ f' = f := by
  obtain ⟨is, hg, e, eo⟩ := letters_is f hf
  obtain ⟨h1, h2⟩ := ans_same h (Or.inl ⟨rfl, is, hg, e, rfl⟩)
  exact ⟨h1, h2.trans eo⟩
/-- What MailName writes is read back. -/
theorem name_back {u f u' s' f' : Nat} {s : Nat} {ok : Bool} (hu : 1 ≤ u) (hu2 : u < 4294967296) (hs : s ≤ 1000000000000) (hf : f < 2147483648) (h : AnsM (nameOf u (s : Int) f).data.toList ok u' s' f') : ok = true ∧ u' = u ∧ s' = s ∧ f' = f := by
  obtain ⟨is, hg, _, eo⟩ := letters_is f hf
  rw [← eo, nameOf_nm hu hs hg] at h
  obtain ⟨h1, h2, h3, h4⟩ := ansM_same h (Or.inl ⟨rfl, is, ⟨hg, hu, hu2, hs, rfl⟩, rfl⟩)
  exact ⟨h1, h2, h3, h4.trans eo⟩
theorem empty_no {u' s' f' : Nat} {ok : Bool} (h : AnsM [] ok u' s' f') : ok = false := by
  rcases h with ⟨_, is, hi, _⟩ | ⟨h, _⟩
  · have := hi.eq
    unfold nm at this
    simp at this
  · exact h
end Go.Proofs.YtknnpgffdbkfnaaDoor
