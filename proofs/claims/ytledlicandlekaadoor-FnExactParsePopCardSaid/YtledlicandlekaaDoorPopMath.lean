import Derived.Test.YtledlicandlekaaDoorPopCmd
import Derived.Test.YtledlicandlekaaDoorSpecN5
namespace Go.Proofs.YtledlicandlekaaDoor
open Go.RowKit Go.Lib
def numOf (x : List UInt8) : Option Nat := if x = decDigits (valD 0 x) ∧ 1 ≤ valD 0 x ∧ valD 0 x ≤ 4294967295 then some (valD 0 x) else none
theorem numOf_yes {x : List UInt8} {n : Nat} (e : x = decDigits n) (h1 : 1 ≤ n) (h2 : n ≤ 4294967295) : numOf x = some n := by
  subst e
  unfold numOf
  rw [dec_val, if_pos ⟨rfl, h1, h2⟩]
theorem numOf_no {x : List UInt8} (h : ∀ m, 1 ≤ m → m ≤ 4294967295 → x ≠ decDigits m) : numOf x = none := by
  unfold numOf
  rw [if_neg]
  rintro ⟨e, h1, h2⟩
  exact h _ h1 h2 e
theorem numOf_len {x : List UInt8} {n : Nat} (h : numOf x = some n) : x.length ≤ 10 ∧ 1 ≤ n ∧ n ≤ 4294967295 := by
  unfold numOf at h
  split at h
  · next e =>
    simp only [Option.some.injEq] at h
    subst h
    have h3 := nd_le 9 (valD 0 x) (by have := e.2.2; omega)
    have h4 := decDigits_length (valD 0 x)
    rw [← e.1] at h4
    exact ⟨by omega, e.2.1, e.2.2⟩
  · cases h
def upL (x : List UInt8) : ByteArray := upB ⟨x.toArray⟩
/-- What a line of POP tells: its kind and its number. -/
def popA (t : List UInt8) : Int × Int :=
  match splitOf 32 t with
  | [x] => match vbOf (upL x) with
    | some (m, k) => if m = 1 then (0, 0) else (k, 0)
    | none => (0, 0)
  | [x, y] => match vbOf (upL x), numOf y with
    | some (m, k), some n => if m = 0 then (0, 0) else (k, (n : Int))
    | _, _ => (0, 0)
  | _ => (0, 0)
theorem vbOf_len {x : List UInt8} {m : Nat} {k : Int} (h : vbOf (upL x) = some (m, k)) : x.length = 4 := by
  have hl : (upL x).size = x.length := by
    unfold upL upB
    rw [strB_size, List.length_map, bytesL_len]
    show x.toArray.size = _
    simp
  have h4 : (upL x).size = 4 := by
    unfold vbOf at h
    generalize upL x = u at h
    repeat' split at h
    all_goals first
      | (cases h; done)
      | (rename_i e; rw [e]; rfl)
  omega
theorem popA_long {t : List UInt8} (h : 40 < t.length) : popA t = (0, 0) := by
  by_cases hm : (32 : UInt8) ∈ t
  · obtain ⟨a, c, e, hn⟩ := List.eq_append_cons_of_mem hm
    subst e
    unfold popA
    rw [splitOf_at hn]
    by_cases hm2 : (32 : UInt8) ∈ c
    · obtain ⟨a2, c2, e2, hn2⟩ := List.eq_append_cons_of_mem hm2
      subst e2
      rw [splitOf_at hn2]
      cases hs : splitOf 32 c2 with
      | nil => exact absurd hs (splitOf_ne _ _)
      | cons z r => rfl
    · rw [splitOf_no hm2]
      simp only
      cases hv : vbOf (upL a) with
      | none => rfl
      | some p =>
        obtain ⟨m, k⟩ := p
        cases hq : numOf c with
        | none => rfl
        | some n =>
          have h1 := vbOf_len hv
          have h2 := (numOf_len hq).1
          rw [List.length_append, List.length_cons] at h
          omega
  · unfold popA
    rw [splitOf_no hm]
    simp only
    cases hv : vbOf (upL t) with
    | none => rfl
    | some p =>
      obtain ⟨m, k⟩ := p
      have h1 := vbOf_len hv
      omega
theorem whole_no {s : ByteArray} {f : Bool} {K N : Int} (h : f = true ∨ s.data.toList ≠ []) : whole s f K N = cmP 0 0 := by
  unfold whole
  rw [if_neg]
  rintro ⟨h1, h2⟩
  rcases h with h | h
  · rw [h1] at h; cases h
  · exact h h2
theorem whole_yes {s : ByteArray} {K N : Int} (h : s.data.toList = []) : whole s false K N = cmP K N := if_pos ⟨rfl, h⟩
theorem bl_nil {s : ByteArray} (h : s.data.toList = []) : blOk s = false := by unfold blOk; rw [h]; rfl
theorem bl_cons {s : ByteArray} {c : List UInt8} (h : s.data.toList = 32 :: c) : blOk s = true ∧ (blB s).data.toList = c := by
  have h1 : Lib.hasPrefix (32 :: c) [32] = true := by unfold Lib.hasPrefix; simp [List.isPrefixOf]
  refine ⟨by unfold blOk; rw [h]; exact h1, ?_⟩
  show Lib.trimPrefix s.data.toList [32] = c
  rw [h]
  unfold Lib.trimPrefix
  first | rw [if_pos h1]; rfl | (simp [h1])
theorem impop_is {s : ByteArray} {cs : Array Value} (h : ImPop s cs) : cs = cmP (popA s.data.toList).1 (popA s.data.toList).2 := by
  have hu : upB (pcB s) = upL (pcL s.data.toList) := rfl
  have hb : (bhB s).data.toList = bhL s.data.toList := rfl
  unfold ImPop at h
  rw [hu] at h
  by_cases hm : (32 : UInt8) ∈ s.data.toList
  · obtain ⟨a, c, e, hn⟩ := List.eq_append_cons_of_mem hm
    obtain ⟨hp, hq⟩ := pc_at (c := c) hn
    have hbc : (bhB s).data.toList = 32 :: c := by rw [hb, e]; exact hq
    obtain ⟨ho, hc⟩ := bl_cons hbc
    have hpa : pcL s.data.toList = a := by rw [e]; exact hp
    rw [hpa] at h
    have hsp : splitOf 32 s.data.toList = a :: splitOf 32 c := by rw [e, splitOf_at hn]
    have hA : popA s.data.toList = match a :: splitOf 32 c with
      | [x] => (match vbOf (upL x) with
        | some (m, k) => if m = 1 then (0, 0) else (k, 0)
        | none => (0, 0))
      | [x, y] => (match vbOf (upL x), numOf y with
        | some (m, k), some n => if m = 0 then (0, 0) else (k, (n : Int))
        | _, _ => (0, 0))
      | _ => (0, 0) := by unfold popA; rw [hsp]
    have hz : (m : Nat) → (k : Int) → vbOf (upL a) = some (m, k) → m = 0 → popA s.data.toList = (0, 0) := fun m k hv h0 => by
      rw [hA]
      cases hs : splitOf 32 c with
      | nil => exact absurd hs (splitOf_ne _ _)
      | cons y r =>
        cases r with
        | nil =>
          simp only [hv]
          cases numOf y with
          | none => rfl
          | some n => simp only; rw [if_pos h0]
        | cons z r => rfl
    rcases h with ⟨hv, rfl⟩ | ⟨m, k, hv, h1, h2, rfl⟩ | ⟨m, k, n, ok, hv, h0, h2, hN, rfl⟩
    · have : popA s.data.toList = (0, 0) := by
        rw [hA]
        cases hs : splitOf 32 c with
        | nil => exact absurd hs (splitOf_ne _ _)
        | cons y r =>
          cases r with
          | nil => simp only [hv]
          | cons z r => rfl
      rw [this]
    · have h0 : m = 0 := by
        rcases h2 with h2 | h2
        · exact h2
        · rw [hbc] at h2; cases h2
      rw [hz m k hv h0, whole_no (.inr (by rw [hbc]; simp))]
    · rw [ho]
      have hb2 : (bhB (blB (bhB s))).data.toList = bhL c := by show bhL (blB (bhB s)).data.toList = _; rw [hc]
      rw [hc] at hN
      by_cases hm2 : (32 : UInt8) ∈ c
      · obtain ⟨a2, c2, e2, hn2⟩ := List.eq_append_cons_of_mem hm2
        have : popA s.data.toList = (0, 0) := by
          rw [hA, e2, splitOf_at hn2]
          cases hs : splitOf 32 c2 with
          | nil => exact absurd hs (splitOf_ne _ _)
          | cons z r => rfl
        rw [this, whole_no (.inr (by rw [hb2, e2, (pc_at hn2).2]; simp))]
      · have hsc : splitOf 32 c = [c] := splitOf_no hm2
        rw [hsc] at hA
        simp only [hv] at hA
        rw [(pc_no hm2).1] at hN
        rcases hN with ⟨rfl, hd, l1, l2⟩ | ⟨rfl, _, hd⟩
        · rw [numOf_yes hd l1 l2] at hA
          simp only [h0, if_false] at hA
          rw [hA]
          exact whole_yes (by rw [hb2]; exact (pc_no hm2).2)
        · rw [numOf_no hd] at hA
          rw [hA]
          exact whole_no (.inl rfl)
  · obtain ⟨hp, hq⟩ := pc_no hm
    have hbc : (bhB s).data.toList = [] := by rw [hb]; exact hq
    rw [hp] at h
    have hA : popA s.data.toList = match vbOf (upL s.data.toList) with
      | some (m, k) => if m = 1 then (0, 0) else (k, 0)
      | none => (0, 0) := by unfold popA; rw [splitOf_no hm]
    rcases h with ⟨hv, rfl⟩ | ⟨m, k, hv, h1, h2, rfl⟩ | ⟨m, k, n, ok, hv, h0, h2, hN, rfl⟩
    · rw [hA, hv]
    · rw [hA, hv]
      simp only [h1, if_false]
      exact whole_yes hbc
    · have h1 : m = 1 := by
        rcases h2 with h2 | h2
        · exact h2
        · exact absurd hbc h2
      rw [hA, hv]
      simp only [h1, if_true]
      rw [whole_no (.inl (by rw [bl_nil hbc]; rfl))]
end Go.Proofs.YtledlicandlekaaDoor
