import Derived.Test.YtledlicandlekaaDoorSpecRd
import Derived.Test.YtledlicandlekaaDoorStrB
namespace Go.Proofs.YtledlicandlekaaDoor
open Go.RowKit
/-- The place of the first line end. -/
def findEnd : List Nat → Option Nat
  | [] => none
  | x :: r => if x = 13 ∧ r.head? = some 10 then some 0 else (findEnd r).map (· + 1)
theorem findEnd_hit {d : List Nat} {i : Nat} (h1 : i + 1 < d.length) (h2 : d[i] = 13) (h3 : d[i + 1] = 10) : findEnd (d.drop i) = some 0 := by
  rw [List.drop_eq_getElem_cons (by omega), List.drop_eq_getElem_cons h1, findEnd, if_pos ⟨h2, by rw [List.head?_cons, h3]⟩]
theorem findEnd_miss {d : List Nat} {i : Nat} (h1 : i + 1 < d.length) (h : ¬ (d[i] = 13 ∧ d[i + 1] = 10)) : findEnd (d.drop i) = (findEnd (d.drop (i + 1))).map (· + 1) := by
  rw [List.drop_eq_getElem_cons (by omega), findEnd, if_neg]
  rintro ⟨a, b⟩
  rw [List.drop_eq_getElem_cons h1, List.head?_cons] at b
  exact h ⟨a, by simpa using b⟩
theorem findEnd_short {d : List Nat} (h : d.length ≤ 1) : findEnd d = none := by
  match d, h with
  | [], _ => rfl
  | [x], _ => simp [findEnd]
theorem findEnd_lt : ∀ {d : List Nat} {e : Nat}, findEnd d = some e → e + 2 ≤ d.length ∧ d.getD e 0 = 13 ∧ d.getD (e + 1) 0 = 10
  | [], _, h => by simp [findEnd] at h
  | x :: r, e, h => by
    rw [findEnd] at h
    split at h
    · next hc =>
      simp only [Option.some.injEq] at h
      subst h
      cases r with
      | nil => simp at hc
      | cons y r => simp at hc; simp [hc]
    · cases hr : findEnd r with
      | none => rw [hr] at h; cases h
      | some j =>
        rw [hr] at h
        simp only [Option.map_some, Option.some.injEq] at h
        subst h
        obtain ⟨h1, h2, h3⟩ := findEnd_lt hr
        exact ⟨by simp; omega, by simpa using h2, by simpa using h3⟩
/-- The last place of a byte. -/
def lastIx (c : Nat) : List Nat → Option Nat
  | [] => none
  | x :: r => match lastIx c r with
    | some j => some (j + 1)
    | none => if x = c then some 0 else none
theorem lastIx_none {c : Nat} : ∀ {l : List Nat}, lastIx c l = none ↔ c ∉ l
  | [] => by simp [lastIx]
  | x :: r => by
    rw [lastIx]
    cases h : lastIx c r with
    | some j =>
      have hm : c ∈ r := by
        rcases Classical.em (c ∈ r) with h' | h'
        · exact h'
        · rw [lastIx_none.2 h'] at h; cases h
      simp [hm]
    | none =>
      have hm := lastIx_none.1 h
      by_cases e : x = c
      · simp [e]
      · simp [e, hm, Ne.symm e]
theorem lastIx_at {c : Nat} {l : List Nat} {i : Nat} (hi : i < l.length) (he : l[i] = c) (hn : c ∉ l.drop (i + 1)) : lastIx c l = some i := by
  induction l generalizing i with
  | nil => simp at hi
  | cons x r ih =>
    cases i with
    | zero =>
      have h1 : lastIx c r = none := lastIx_none.2 (by simpa using hn)
      rw [lastIx, h1]
      simp at he
      simp [he]
    | succ i =>
      have h1 := ih (i := i) (by simpa using hi) (by simpa using he) (by simpa using hn)
      rw [lastIx, h1]
theorem lastIx_lt {c : Nat} : ∀ {l : List Nat} {i : Nat}, lastIx c l = some i → i < l.length
  | [], _, h => by simp [lastIx] at h
  | x :: r, i, h => by
    rw [lastIx] at h
    cases hr : lastIx c r with
    | some j => rw [hr] at h; simp at h; have := lastIx_lt hr; simp; omega
    | none => rw [hr] at h; simp at h; simp; omega
/-- The number that a literal's word tells. -/
def litN (x : List UInt8) : Option Nat := if x = Lib.decDigits (valD 0 x) ∧ valD 0 x ≤ 999999999 then some (valD 0 x) else none
theorem litN_yes {x : List UInt8} {n : Nat} (e : x = Lib.decDigits n) (h : n ≤ 999999999) : litN x = some n := by
  subst e
  unfold litN
  rw [dec_val, if_pos ⟨rfl, h⟩]
theorem litN_no {x : List UInt8} (h : ∀ m, m ≤ 999999999 → x ≠ Lib.decDigits m) : litN x = none := by
  unfold litN
  rw [if_neg]
  rintro ⟨e, h2⟩
  exact h _ h2 e
theorem litN_ne {x : List UInt8} {n : Nat} (h : litN x = some n) : x ≠ [] ∧ n ≤ 999999999 := by
  unfold litN at h
  split at h
  · next e =>
    simp only [Option.some.injEq] at h
    subst h
    exact ⟨by rw [e.1]; exact dec_ne _, e.2⟩
  · cases h
/-- The word between the last '{' and the line's end. -/
def wordOf (l : List Nat) (i : Nat) : List Nat := (l.drop (i + 1)).take (l.length - 1 - (i + 1))
/-- The literal that a line announces: its size, and where its '{' stands. -/
def litOf (l : List Nat) : Option (Nat × Nat) :=
  if l.getLast? = some 125 then
    match lastIx 123 l with
    | some i => (litN ((wordOf l i).map UInt8.ofNat)).map fun n => (n, i)
    | none => none
  else none
theorem litOf_last {l : List Nat} (h : l.getLast? ≠ some 125) : litOf l = none := if_neg h
theorem litOf_none {l : List Nat} (h : 123 ∉ l) : litOf l = none := by
  unfold litOf
  rw [lastIx_none.2 h]
  split <;> rfl
theorem litOf_short {l : List Nat} (h : l.length < 3) : litOf l = none := by
  unfold litOf
  split
  · cases hi : lastIx 123 l with
    | none => rfl
    | some i =>
      have h1 := lastIx_lt hi
      have hw : wordOf l i = [] := by
        unfold wordOf
        rw [show l.length - 1 - (i + 1) = 0 from by omega, List.take_zero]
      have : litN ((wordOf l i).map UInt8.ofNat) = none := by
        cases hq : litN ((wordOf l i).map UInt8.ofNat) with
        | none => rfl
        | some n => exact absurd (by rw [hw]; rfl) (litN_ne hq).1
      simp only [this]
      rfl
  · rfl
theorem litOf_at {l : List Nat} {i : Nat} (hl : l.getLast? = some 125) (hi : i < l.length) (he : l[i] = 123) (hn : 123 ∉ l.drop (i + 1)) : litOf l = (litN ((wordOf l i).map UInt8.ofNat)).map fun n => (n, i) := by
  unfold litOf
  rw [if_pos hl, lastIx_at hi he hn]
theorem litOf_lt {l : List Nat} {n i : Nat} (h : litOf l = some (n, i)) : i < l.length ∧ n ≤ 999999999 := by
  unfold litOf at h
  split at h
  · cases hi : lastIx 123 l with
    | none => rw [hi] at h; cases h
    | some j =>
      rw [hi] at h
      cases hq : litN ((wordOf l j).map UInt8.ofNat) with
      | none => simp only [hq] at h; cases h
      | some m =>
        simp only [hq, Option.map_some, Option.some.injEq, Prod.mk.injEq] at h
        obtain ⟨rfl, rfl⟩ := h
        exact ⟨lastIx_lt hi, (litN_ne hq).2⟩
  · cases h
/-- A unit: its line, its body, Has, Bad. -/
abbrev UnitM := List Nat × List Nat × Bool × Bool
def badU : UnitM := ([], [], false, true)
/-- The unit that a stream begins with, and how many bytes it takes; none if it is not all there. -/
def oneOf (lits : Bool) (d : List Nat) : Option (UnitM × Nat) :=
  match findEnd d with
  | none => none
  | some e =>
    if 300 < e then some (badU, e + 2) else
    match (if lits then litOf (d.take e) else none) with
    | none => some ((d.take e, [], false, false), e + 2)
    | some (n, i) =>
      if 8000 < n then some (badU, e + 2) else
      if d.length < e + 2 + n + 2 then none else
      if d.getD (e + 2 + n) 0 = 13 ∧ d.getD (e + 2 + n + 1) 0 = 10 then some ((d.take i, (d.drop (e + 2)).take n, true, false), e + 2 + n + 2) else some (badU, e + 2 + n)
theorem oneOf_size {lits : Bool} {d : List Nat} {u : UnitM} {k : Nat} (h : oneOf lits d = some (u, k)) : 2 ≤ k ∧ k ≤ d.length := by
  unfold oneOf at h
  cases he : findEnd d with
  | none => rw [he] at h; cases h
  | some e =>
    obtain ⟨h1, _, _⟩ := findEnd_lt he
    rw [he] at h
    simp only at h
    repeat' split at h
    all_goals first
      | (cases h; done)
      | (simp only [Option.some.injEq, Prod.mk.injEq] at h; omega)
/-- The units of a stream, and what is left. -/
def cutOf (lits : Bool) : Nat → List Nat → List UnitM × List Nat
  | 0, d => ([], d)
  | f + 1, d => match oneOf lits d with
    | none => ([], d)
    | some (u, k) => let r := cutOf lits f (d.drop k); (u :: r.1, r.2)
end Go.Proofs.YtledlicandlekaaDoor
