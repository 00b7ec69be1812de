import Derived.Test.YtledlicandlekaaDoorPka
namespace Go.Proofs.YtledlicandlekaaDoor
open Go.RowKit
theorem nd_le (k m : Nat) (h : m < 10 ^ (k + 1)) : Lib.nDigits m ≤ k + 1 := by
  induction k generalizing m with
  | zero => rw [Lib.nDigits_small (by simpa using h)]; omega
  | succ k ih =>
    by_cases h10 : m < 10
    · rw [Lib.nDigits_small h10]; omega
    · rw [Lib.nDigits_big h10]
      have := ih (m / 10) (by rw [Nat.pow_succ] at h; omega)
      omega
theorem valD_lt (l : List UInt8) (h : ∀ c ∈ l, isDig c) (acc k : Nat) (ha : acc < 10 ^ k) : valD acc l < 10 ^ (k + l.length) := by
  induction l generalizing acc k with
  | nil => simpa [valD] using ha
  | cons c r ih =>
    have hc := h c (List.mem_cons_self ..)
    have := ih (fun x hx => h x (List.mem_cons_of_mem _ hx)) (acc * 10 + (c.toNat - 48)) (k + 1) (by
      rw [Nat.pow_succ]
      have := hc.2
      omega)
    show valD (acc * 10 + (c.toNat - 48)) r < _
    rw [List.length_cons, show k + (r.length + 1) = k + 1 + r.length from by omega]
    exact this
/-- What l4Number answers. -/
def NumIs (t : List UInt8) (n : Nat) (ok : Bool) : Prop := (ok = true ∧ t = Lib.decDigits n ∧ n < 10000000000000) ∨ (ok = false ∧ ∀ m, m < 10000000000000 → t ≠ Lib.decDigits m)
theorem num_len {t : List UInt8} (h : t.length < 1 ∨ 13 < t.length) : NumIs t 0 false := Or.inr ⟨rfl, fun m hm e => by
  have h1 := Lib.decDigits_length m
  have h2 := Lib.nDigits_pos m
  have h3 := nd_le 12 m (by simpa using hm)
  rw [← e] at h1
  omega⟩
theorem num_dig {t : List UInt8} {c : UInt8} (hc : c ∈ t) (h : ¬ isDig c) : NumIs t 0 false := Or.inr ⟨rfl, fun m _ e => h (dec_digits m c (e ▸ hc))⟩
theorem take_next {t : List UInt8} {i : Nat} (h : i < t.length) : valD 0 (t.take (i + 1)) = valD 0 (t.take i) * 10 + (t[i].toNat - 48) := by
  rw [List.take_succ_eq_append_getElem h, valD_snoc]
def NumPost (s : ByteArray) (w : World) (e : Ending) (w' : World) : Prop := ∃ (n : Nat) (ok : Bool), e = .returned (.tuple #[.int .i64 (n : Int), .bool ok]) ∧ NumIs s.data.toList n ok ∧ Below w.heap.size w w'
set_option maxRecDepth 20000 in
theorem l4Number_any (s : ByteArray) (w : World) (hs : s.size ≤ 1048576) :
    Calls Tryd.prog 48 #[.string s] w (NumPost s w) := by
  have hsz : s.data.toList.length = s.size := rfl
  by_cases h1 : s.size < 1
  · have hi : (s.size : Int) < 1 := by omega
    go_enter Tryd.func48, Tryd.ntmps48
    go_wp2
    go_ret2
    exact ⟨0, false, rfl, num_len (by omega), Below.refl _ _⟩
  · have hi : ¬ (s.size : Int) < 1 := by omega
    by_cases h2 : 13 < s.size
    · have hi2 : (13 : Int) < (s.size : Int) := by omega
      go_enter Tryd.func48, Tryd.ntmps48
      go_wp2
      go_ret2
      exact ⟨0, false, rfl, num_len (by omega), Below.refl _ _⟩
    · have hi2 : ¬ (13 : Int) < (s.size : Int) := by omega
      go_enter Tryd.func48, Tryd.ntmps48
      go_wp2
      go_loopw [4, 5] (fun v i wr => ∃ k : Nat, k ≤ s.size ∧ i = .int .i64 (k : Int) ∧ v = .int .i64 ((valD 0 (s.data.toList.take k) : Nat) : Int) ∧ Hid (∀ c ∈ s.data.toList.take k, isDig c) ∧ ∃ n, wr = w.drewN n) (fun _ i _ => s.size - (RowKit.intOf i).toNat)
      case atStart => exact ⟨0, Nat.zero_le _, rfl, rfl, by show ∀ c ∈ _, _; simp, 0, rfl⟩
      case round =>
        obtain ⟨i, hi', rfl, rfl, HD, n, rfl⟩ := hrel
        by_cases hlt : i < s.size
        · have hl : i < s.data.toList.length := by omega
          have hv := valD_lt _ HD.out 0 0 (by decide)
          have hp : (10 : Nat) ^ (0 + (s.data.toList.take i).length) ≤ 10 ^ 12 := Nat.pow_le_pow_right (by omega) (by rw [List.length_take]; omega)
          have HN := hide (take_next hl)
          have hbe : s.data.toList[i] = s[i] := rfl
          have hv12 : valD 0 (s.data.toList.take i) < 1000000000000 := Nat.lt_of_lt_of_le hv (by simpa using hp)
          clear hv hp
          generalize valD 0 (s.data.toList.take i) = v at HN hv12 ⊢
          by_cases hd : isDig s[i]
          · obtain ⟨hd1, hd2⟩ := hd
            have e1 : ¬ (s[i].toNat : Int) < 48 := by omega
            have e2 : ¬ (57 : Int) < (s[i].toNat : Int) := by omega
            obtain ⟨d, hd9⟩ : ∃ d, s[i].toNat = 48 + d := ⟨s[i].toNat - 48, by omega⟩
            have hd1' : (48 : Int) ≤ (s[i].toNat : Int) := by omega
            go_wp2
            go_roundw
            case rel =>
              refine ⟨i + 1, by omega, by go_num, ?_, ?_, n, rfl⟩
              · rw [HN.out, hbe]
                congr 1
                omega
              · show ∀ c ∈ s.data.toList.take (i + 1), isDig c
                rw [List.take_succ_eq_append_getElem hl]
                intro c hc
                rcases List.mem_append.1 hc with hc | hc
                · exact HD.out c hc
                · rw [List.mem_singleton] at hc
                  rw [hc, hbe]
                  exact ⟨hd1, hd2⟩
            case measure => simp [RowKit.intOf]; omega
          · have hno := hide (num_dig (t := s.data.toList) (c := s[i]) (by rw [← hbe]; exact List.getElem_mem hl) hd)
            by_cases e1 : s[i].toNat < 48
            · have e1' : (s[i].toNat : Int) < 48 := by omega
              go_wp2
              go_ret2
              exact ⟨0, false, rfl, hno.out, below_drewN (Below.refl _ _) n⟩
            · have e2 : 57 < s[i].toNat := by unfold isDig at hd; omega
              have e1' : ¬ (s[i].toNat : Int) < 48 := by omega
              have e2' : (57 : Int) < (s[i].toNat : Int) := by omega
              go_wp2
              go_ret2
              exact ⟨0, false, rfl, hno.out, below_drewN (Below.refl _ _) n⟩
        · have hie : i = s.size := by omega
          subst hie
          have hD := HD.out
          rw [List.take_of_length_le (Nat.le_of_eq (sz_list s))] at hD ⊢
          have hv := valD_lt _ hD 0 0 (by decide)
          have hp : (10 : Nat) ^ (0 + s.data.toList.length) ≤ 10 ^ 13 := Nat.pow_le_pow_right (by omega) (by omega)
          have hv13 : valD 0 s.data.toList < 10000000000000 := Nat.lt_of_lt_of_le hv (by simpa using hp)
          have D := hide (fun w => l1Dec_any (valD 0 s.data.toList) w (by omega))
          have hbq : ((decS (valD 0 s.data.toList)).toList == s.toList) = decide (Lib.decDigits (valD 0 s.data.toList) = s.data.toList) := by
            rw [ByteArray.toList_eq, ByteArray.toList_eq]
            show (Lib.decDigits (valD 0 s.data.toList) == s.data.toList) = _
            by_cases h : Lib.decDigits (valD 0 s.data.toList) = s.data.toList
            · rw [decide_eq_true h, h]; simp
            · rw [decide_eq_false h]; exact beq_eq_false_iff_ne.2 h
          have hno : ∀ m, s.data.toList = Lib.decDigits m → Lib.decDigits (valD 0 s.data.toList) = s.data.toList := fun m e => by rw [e, dec_val]
          have HF := hide (And.intro hbq hno)
          clear hv hp hbq hno hD
          generalize decS (valD 0 s.data.toList) = z at D HF
          generalize hvv : valD 0 s.data.toList = v at D HF hv13 ⊢
          clear hvv
          go_wp2_with fail
          refine (D.out _).mono ?_
          rintro e w1 ⟨rfl, hb1⟩
          go_wp2
          go_ret2
          have hbb : Below w.heap.size w w1 := (below_drewN (Below.refl _ _) n).trans (hb1.mono (Nat.le_refl _))
          obtain ⟨hq, hno⟩ := HF.out
          refine ⟨v, z.toList == s.toList, rfl, ?_, hbb⟩
          by_cases h : Lib.decDigits v = s.data.toList
          · rw [hq, decide_eq_true h]
            exact Or.inl ⟨rfl, h.symm, hv13⟩
          · rw [hq, decide_eq_false h]
            exact Or.inr ⟨rfl, fun m _ e => h (hno m e)⟩
end Go.Proofs.YtledlicandlekaaDoor
namespace Go.Proofs.YtledlicandlekaaDoor
open Go.RowKit
/-- The place of the first line end. -/
def findEnd : List Nat → Option Nat
  | [] => none
  | x :: r => if x = 13 ∧ r.head? = some 10 then some 0 else (findEnd r).map (· + 1)
theorem findEnd_hit {d : List Nat} {i : Nat} (h1 : i + 1 < d.length) (h2 : d[i] = 13) (h3 : d[i + 1] = 10) : findEnd (d.drop i) = some 0 := by
  rw [List.drop_eq_getElem_cons (by omega), List.drop_eq_getElem_cons h1, findEnd, if_pos ⟨h2, by rw [List.head?_cons, h3]⟩]
theorem findEnd_miss {d : List Nat} {i : Nat} (h1 : i + 1 < d.length) (h : ¬ (d[i] = 13 ∧ d[i + 1] = 10)) : findEnd (d.drop i) = (findEnd (d.drop (i + 1))).map (· + 1) := by
  rw [List.drop_eq_getElem_cons (by omega), findEnd, if_neg]
  rintro ⟨a, b⟩
  rw [List.drop_eq_getElem_cons h1, List.head?_cons] at b
  exact h ⟨a, by simpa using b⟩
theorem findEnd_short {d : List Nat} (h : d.length ≤ 1) : findEnd d = none := by
  match d, h with
  | [], _ => rfl
  | [x], _ => simp [findEnd]
theorem findEnd_lt : ∀ {d : List Nat} {e : Nat}, findEnd d = some e → e + 2 ≤ d.length ∧ d.getD e 0 = 13 ∧ d.getD (e + 1) 0 = 10
  | [], _, h => by simp [findEnd] at h
  | x :: r, e, h => by
    rw [findEnd] at h
    split at h
    · next hc =>
      simp only [Option.some.injEq] at h
      subst h
      cases r with
      | nil => simp at hc
      | cons y r => simp at hc; simp [hc]
    · cases hr : findEnd r with
      | none => rw [hr] at h; cases h
      | some j =>
        rw [hr] at h
        simp only [Option.map_some, Option.some.injEq] at h
        subst h
        obtain ⟨h1, h2, h3⟩ := findEnd_lt hr
        exact ⟨by simp; omega, by simpa using h2, by simpa using h3⟩
/-- The last place of a byte. -/
def lastIx (c : Nat) : List Nat → Option Nat
  | [] => none
  | x :: r => match lastIx c r with
    | some j => some (j + 1)
    | none => if x = c then some 0 else none
theorem lastIx_none {c : Nat} : ∀ {l : List Nat}, lastIx c l = none ↔ c ∉ l
  | [] => by simp [lastIx]
  | x :: r => by
    rw [lastIx]
    cases h : lastIx c r with
    | some j =>
      have hm : c ∈ r := by
        rcases Classical.em (c ∈ r) with h' | h'
        · exact h'
        · rw [lastIx_none.2 h'] at h; cases h
      simp [hm]
    | none =>
      have hm := lastIx_none.1 h
      by_cases e : x = c
      · simp [e]
      · simp [e, hm, Ne.symm e]
theorem lastIx_at {c : Nat} {l : List Nat} {i : Nat} (hi : i < l.length) (he : l[i] = c) (hn : c ∉ l.drop (i + 1)) : lastIx c l = some i := by
  induction l generalizing i with
  | nil => simp at hi
  | cons x r ih =>
    cases i with
    | zero =>
      have h1 : lastIx c r = none := lastIx_none.2 (by simpa using hn)
      rw [lastIx, h1]
      simp at he
      simp [he]
    | succ i =>
      have h1 := ih (i := i) (by simpa using hi) (by simpa using he) (by simpa using hn)
      rw [lastIx, h1]
theorem lastIx_lt {c : Nat} : ∀ {l : List Nat} {i : Nat}, lastIx c l = some i → i < l.length
  | [], _, h => by simp [lastIx] at h
  | x :: r, i, h => by
    rw [lastIx] at h
    cases hr : lastIx c r with
    | some j => rw [hr] at h; simp at h; have := lastIx_lt hr; simp; omega
    | none => rw [hr] at h; simp at h; simp; omega
/-- The number that a literal's word tells. -/
def litN (x : List UInt8) : Option Nat := if x = Lib.decDigits (valD 0 x) ∧ valD 0 x ≤ 999999999 then some (valD 0 x) else none
theorem litN_yes {x : List UInt8} {n : Nat} (e : x = Lib.decDigits n) (h : n ≤ 999999999) : litN x = some n := by
  subst e
  unfold litN
  rw [dec_val, if_pos ⟨rfl, h⟩]
theorem litN_no {x : List UInt8} (h : ∀ m, m ≤ 999999999 → x ≠ Lib.decDigits m) : litN x = none := by
  unfold litN
  rw [if_neg]
  rintro ⟨e, h2⟩
  exact h _ h2 e
theorem litN_ne {x : List UInt8} {n : Nat} (h : litN x = some n) : x ≠ [] ∧ n ≤ 999999999 := by
  unfold litN at h
  split at h
  · next e =>
    simp only [Option.some.injEq] at h
    subst h
    exact ⟨by rw [e.1]; exact dec_ne _, e.2⟩
  · cases h
/-- The word between the last '{' and the line's end. -/
def wordOf (l : List Nat) (i : Nat) : List Nat := (l.drop (i + 1)).take (l.length - 1 - (i + 1))
/-- The literal that a line announces: its size, and where its '{' stands. -/
def litOf (l : List Nat) : Option (Nat × Nat) :=
  if l.getLast? = some 125 then
    match lastIx 123 l with
    | some i => (litN ((wordOf l i).map UInt8.ofNat)).map fun n => (n, i)
    | none => none
  else none
theorem litOf_last {l : List Nat} (h : l.getLast? ≠ some 125) : litOf l = none := if_neg h
theorem litOf_none {l : List Nat} (h : 123 ∉ l) : litOf l = none := by
  unfold litOf
  rw [lastIx_none.2 h]
  split <;> rfl
theorem litOf_short {l : List Nat} (h : l.length < 3) : litOf l = none := by
  unfold litOf
  split
  · cases hi : lastIx 123 l with
    | none => rfl
    | some i =>
      have h1 := lastIx_lt hi
      have hw : wordOf l i = [] := by
        unfold wordOf
        rw [show l.length - 1 - (i + 1) = 0 from by omega, List.take_zero]
      have : litN ((wordOf l i).map UInt8.ofNat) = none := by
        cases hq : litN ((wordOf l i).map UInt8.ofNat) with
        | none => rfl
        | some n => exact absurd (by rw [hw]; rfl) (litN_ne hq).1
      simp only [this]
      rfl
  · rfl
theorem litOf_at {l : List Nat} {i : Nat} (hl : l.getLast? = some 125) (hi : i < l.length) (he : l[i] = 123) (hn : 123 ∉ l.drop (i + 1)) : litOf l = (litN ((wordOf l i).map UInt8.ofNat)).map fun n => (n, i) := by
  unfold litOf
  rw [if_pos hl, lastIx_at hi he hn]
theorem litOf_lt {l : List Nat} {n i : Nat} (h : litOf l = some (n, i)) : i < l.length ∧ n ≤ 999999999 := by
  unfold litOf at h
  split at h
  · cases hi : lastIx 123 l with
    | none => rw [hi] at h; cases h
    | some j =>
      rw [hi] at h
      cases hq : litN ((wordOf l j).map UInt8.ofNat) with
      | none => simp only [hq] at h; cases h
      | some m =>
        simp only [hq, Option.map_some, Option.some.injEq, Prod.mk.injEq] at h
        obtain ⟨rfl, rfl⟩ := h
        exact ⟨lastIx_lt hi, (litN_ne hq).2⟩
  · cases h
/-- A unit: its line, its body, Has, Bad. -/
abbrev UnitM := List Nat × List Nat × Bool × Bool
def badU : UnitM := ([], [], false, true)
/-- The unit that a stream begins with, and how many bytes it takes; none if it is not all there. -/
def oneOf (lits : Bool) (d : List Nat) : Option (UnitM × Nat) :=
  match findEnd d with
  | none => none
  | some e =>
    if 300 < e then some (badU, e + 2) else
    match (if lits then litOf (d.take e) else none) with
    | none => some ((d.take e, [], false, false), e + 2)
    | some (n, i) =>
      if 8000 < n then some (badU, e + 2) else
      if d.length < e + 2 + n + 2 then none else
      if d.getD (e + 2 + n) 0 = 13 ∧ d.getD (e + 2 + n + 1) 0 = 10 then some ((d.take i, (d.drop (e + 2)).take n, true, false), e + 2 + n + 2) else some (badU, e + 2 + n)
theorem oneOf_size {lits : Bool} {d : List Nat} {u : UnitM} {k : Nat} (h : oneOf lits d = some (u, k)) : 2 ≤ k ∧ k ≤ d.length := by
  unfold oneOf at h
  cases he : findEnd d with
  | none => rw [he] at h; cases h
  | some e =>
    obtain ⟨h1, _, _⟩ := findEnd_lt he
    rw [he] at h
    simp only at h
    repeat' split at h
    all_goals first
      | (cases h; done)
      | (simp only [Option.some.injEq, Prod.mk.injEq] at h; omega)
/-- The units of a stream, and what is left. -/
def cutOf (lits : Bool) : Nat → List Nat → List UnitM × List Nat
  | 0, d => ([], d)
  | f + 1, d => match oneOf lits d with
    | none => ([], d)
    | some (u, k) => let r := cutOf lits f (d.drop k); (u :: r.1, r.2)
end Go.Proofs.YtledlicandlekaaDoor
namespace Go.Proofs.YtledlicandlekaaDoor
open Go.RowKit
/-- The bytes d lie in block b from off on. -/
def Tx (w : World) (b off : Nat) (d : List Nat) : Prop := ∀ i (h : i < d.length), w.cell? ⟨b, off + i, none⟩ = some (.int .u8 (d[i] : Int))
theorem Tx.below {w w' : World} {b off : Nat} {d : List Nat} (h : Tx w b off d) (hb : Below w.heap.size w w') : Tx w' b off d := fun i hi => by rw [hb.cell (p := ⟨b, off + i, none⟩) (lt_of_cell0 (h i hi))]; exact h i hi
theorem Tx.row {w : World} {b off : Nat} {d : List Nat} (h : Tx w b off d) : RowAt w (some ⟨b, off, none⟩) d := fun _ => ⟨b, off, rfl, h⟩
theorem Tx.take {w : World} {b off : Nat} {d : List Nat} (h : Tx w b off d) (n : Nat) : Tx w b off (d.take n) := fun i hi => by
  rw [List.length_take] at hi
  rw [List.getElem_take]
  exact h i (by omega)
theorem Tx.drop {w : World} {b off : Nat} {d : List Nat} (h : Tx w b off d) (n : Nat) : Tx w b (off + n) (d.drop n) := fun i hi => by
  rw [List.length_drop] at hi
  rw [List.getElem_drop, Nat.add_assoc]
  exact h (n + i) (by omega)
def endV (r : Option Nat) : Int := match r with
  | some e => (e : Int)
  | none => -1
theorem l6End_any (b off cap : Nat) (d : List Nat) (w : World) (hd : d.length ≤ 1048576) (hT : Tx w b off d) :
    Calls Tryd.prog 41 #[.slice (some ⟨b, off, none⟩) d.length cap, .int .i64 0] w fun e w' => e = .returned (.int .i64 (endV (findEnd d))) ∧ Below w.heap.size w w' := by
  have HT := hide hT
  clear hT
  go_enter Tryd.func41, Tryd.ntmps41
  go_wp2
  go_loopw [5] (fun i wr => ∃ k : Nat, k ≤ d.length ∧ i = .int .i64 (k : Int) ∧ findEnd d = (findEnd (d.drop k)).map (· + k) ∧ Below w.heap.size w wr) (fun i _ => d.length - (intOf i).toNat)
  case atStart => exact ⟨0, Nat.zero_le _, rfl, by cases h : findEnd d <;> simp [h], Below.refl _ _⟩
  case round =>
    obtain ⟨k, hk, rfl, hf, hb⟩ := hrel
    have HB := hide hb
    have HF := hide hf
    by_cases hlt : k + 1 < d.length
    · have hT2 := HT.out.below hb
      have c0 := hT2 k (by omega)
      have c1 := hT2 (k + 1) hlt
      have HIT := hide (findEnd_hit (d := d) (i := k) hlt)
      have HMISS := hide (findEnd_miss (d := d) (i := k) hlt)
      have hlti : (k : Int) + 1 < (d.length : Int) := by omega
      generalize d[k] = x at c0 HIT HMISS
      generalize d[k + 1] = y at c1 HIT HMISS
      clear hb hf hT2
      by_cases h13 : x = 13
      · subst h13
        by_cases h10 : y = 10
        · subst h10
          have HR := hide (show endV (findEnd d) = (k : Int) by rw [HF.out, HIT.out rfl rfl]; simp [endV])
          clear HIT HMISS
          go_wp2
          go_ret
          exact ⟨by rw [HR.out]; rfl, HB.out⟩
        · have hy : ((y : Int) == 10) = false := beq_eq_false_iff_ne.2 (by omega)
          have HR := hide (show findEnd d = (findEnd (d.drop (k + 1))).map (· + (k + 1)) by
            rw [HF.out, HMISS.out (fun h => h10 h.2)]
            cases findEnd (d.drop (k + 1)) <;> simp <;> omega)
          clear HIT HMISS
          go_wp2
          go_roundw
          case rel => exact ⟨k + 1, by omega, by go_num, HR.out, HB.out⟩
          case measure => simp [intOf]; omega
      · have hx : ((x : Int) == 13) = false := beq_eq_false_iff_ne.2 (by omega)
        have HR := hide (show findEnd d = (findEnd (d.drop (k + 1))).map (· + (k + 1)) by
          rw [HF.out, HMISS.out (fun h => h13 h.1)]
          cases findEnd (d.drop (k + 1)) <;> simp <;> omega)
        clear HIT HMISS
        go_wp2
        go_roundw
        case rel => exact ⟨k + 1, by omega, by go_num, HR.out, HB.out⟩
        case measure => simp [intOf]; omega
    · have hlti : ¬ (k : Int) + 1 < (d.length : Int) := by omega
      have HR := hide (show endV (findEnd d) = -1 by
        rw [HF.out, findEnd_short (d := d.drop k) (by rw [List.length_drop]; omega)]
        rfl)
      clear hb hf
      go_wp2
      go_ret
      exact ⟨by rw [HR.out]; rfl, HB.out⟩
/-- What l6Literal answers. -/
def litV (r : Option (Nat × Nat)) : Value := match r with
  | some (n, i) => .tuple #[.int .i64 (n : Int), .int .i64 (i : Int)]
  | none => .tuple #[.int .i64 (-1), .int .i64 0]
theorem word_row {w : World} {b off : Nat} {d : List Nat} (h : Tx w b off d) (i : Nat) : RowAt w (some ⟨b, off + (i + 1), none⟩) (wordOf d i) := ((h.drop (i + 1)).take _).row
theorem word_len (d : List Nat) (i : Nat) : (wordOf d i).length = d.length - 1 - (i + 1) := by unfold wordOf; rw [List.length_take, List.length_drop]; omega
theorem litN_spec {x : List UInt8} {n : Nat} {ok : Bool} (h : NumIs x n ok) : ((ok = true ∧ x.length ≤ 9) → litN x = some n) ∧ (¬ (ok = true ∧ x.length ≤ 9) → litN x = none) := by
  constructor
  · rintro ⟨rfl, hl⟩
    rcases h with ⟨_, e, hn⟩ | ⟨h, _⟩
    · refine litN_yes e ?_
      rcases Nat.lt_or_ge n 1000000000 with h9 | h9
      · omega
      · have hd := Lib.decDigits_length n
        rw [← e] at hd
        have : 10 ≤ Lib.nDigits n := by
          have hpow : ∀ k m, 10 ^ k ≤ m → k + 1 ≤ Lib.nDigits m := by
            intro k
            induction k with
            | zero => intro m _; exact Lib.nDigits_pos m
            | succ k ih =>
              intro m hm
              have h10 : ¬ m < 10 := by
                have : 10 ^ 1 ≤ 10 ^ (k + 1) := Nat.pow_le_pow_right (by omega) (by omega)
                omega
              rw [Lib.nDigits_big h10]
              have := ih (m / 10) (by rw [Nat.pow_succ] at hm; omega)
              omega
          exact hpow 9 n (by omega)
        omega
    · cases h
  · intro hn
    refine litN_no fun m hm e => ?_
    rcases h with ⟨rfl, e2, _⟩ | ⟨rfl, h⟩
    · have hd := Lib.decDigits_length m
      have h9 := nd_le 8 m (by omega)
      rw [← e] at hd
      exact hn ⟨rfl, by omega⟩
    · exact h m (by omega) e
end Go.Proofs.YtledlicandlekaaDoor
namespace Go.Proofs.YtledlicandlekaaDoor
open Go.RowKit
theorem last_at {d : List Nat} (h : 0 < d.length) : d.getLast? = some (d[d.length - 1]'(by omega)) := by
  rw [List.getLast?_eq_getElem?, List.getElem?_eq_getElem (by omega)]
theorem drop_more {c : Nat} {d : List Nat} {i : Nat} (hi : i < d.length) (hn : c ∉ d.drop (i + 1)) (hne : d[i] ≠ c) : c ∉ d.drop i := by
  rw [List.drop_eq_getElem_cons hi]
  intro hm
  rcases List.mem_cons.1 hm with e | hm
  · exact hne e.symm
  · exact hn hm
set_option maxRecDepth 20000 in
set_option maxHeartbeats 1000000 in
theorem l6Literal_any (b off cap : Nat) (d : List Nat) (w : World) (hd : d.length ≤ 1048576) (hcap : d.length ≤ cap) (hT : Tx w b off d) :
    Calls Tryd.prog 42 #[.slice (some ⟨b, off, none⟩) d.length cap] w fun e w' => e = .returned (litV (litOf d)) ∧ Below w.heap.size w w' := by
  by_cases h3 : d.length < 3
  · have h3i : (d.length : Int) < 3 := by omega
    rw [litOf_short h3]
    clear hT
    go_enter Tryd.func42, Tryd.ntmps42
    go_wp2
    go_ret2
    exact ⟨rfl, Below.refl _ _⟩
  · have h3i : ¬ (d.length : Int) < 3 := by omega
    have hcl := hT (d.length - 1) (by omega)
    have hgl := last_at (d := d) (by omega)
    obtain ⟨m, hm⟩ : ∃ m, d.length = m + 1 := ⟨d.length - 1, by omega⟩
    have hsub : (d.length : Int) - 1 = (m : Int) := by omega
    by_cases h125 : d[d.length - 1]'(by omega) = 125
    · have HGL := hide (show d.getLast? = some 125 by rw [hgl, h125])
      have H125 := hide (show ∀ i (h : i < d.length), d[i] = 123 → i < m from fun i h e => by
        rcases Nat.lt_or_ge i m with h' | h'
        · exact h'
        · have e2 : i = d.length - 1 := by omega
          subst e2
          rw [h125] at e
          cases e)
      rw [h125, hm, Nat.add_sub_cancel] at hcl
      have HT := hide hT
      clear hgl h125 hT
      have hlm : m < d.length := by omega
      have hml : m ≤ 1048576 := by omega
      have hcm : m + 1 ≤ cap := by omega
      have HM := hide hm
      rw [hm]
      rw [hm] at h3i hsub
      clear hm
      go_enter Tryd.func42, Tryd.ntmps42
      go_wp2
      go_loopw [4, 5, 6, 7] (fun i _ _ _ wr => ∃ k : Nat, k ≤ m + 1 ∧ i = .int .i64 ((k : Int) - 1) ∧ 123 ∉ d.drop k ∧ Below w.heap.size w wr) (fun i _ _ _ _ => (intOf i + 1).toNat)
      case atStart => exact ⟨m + 1, Nat.le_refl _, by congr 1; omega, by rw [← HM.out, List.drop_length]; simp, Below.refl _ _⟩
      case round =>
        obtain ⟨k, hk, rfl, hn, hb⟩ := hrel
        have HB := hide hb
        cases k with
        | zero =>
          have HR := hide (litOf_none (l := d) (by simpa using hn))
          have h0 : ¬ (0 : Int) ≤ ((0 : Nat) : Int) - 1 := by omega
          clear hn hb
          go_wp2
          go_ret2
          exact ⟨by rw [HR.out]; rfl, HB.out⟩
        | succ i =>
          have hi : i < d.length := by have := HM.out; omega
          have hci := (HT.out.below hb) i hi
          have he : ((i + 1 : Nat) : Int) - 1 = (i : Int) := by omega
          rw [he]
          have hil : (i : Int) < (m : Int) + 1 := by omega
          have him : i ≤ m := by omega
          by_cases h123 : d[i] = 123
          · have HL := hide (litOf_at HGL.out hi h123 hn)
            rw [h123] at hci
            have hrow := word_row (HT.out.below hb) i
            have hwl := word_len d i
            rw [HM.out, Nat.add_sub_cancel] at hwl
            have him2 := H125.out i hi h123
            have hcv := run_string_of wr _ (cap - (i + 1)) _ hrow
            rw [hwl] at hcv
            have hsz : (strB (wordOf d i)).size = m - (i + 1) := by
              rw [← hwl]
              show ((wordOf d i).map UInt8.ofNat).toArray.size = _
              simp
            have HLN := hide (fun n ok (h : NumIs ((wordOf d i).map UInt8.ofNat) n ok) => litN_spec h)
            have hll : ((wordOf d i).map UInt8.ofNat).length = m - (i + 1) := by rw [List.length_map, hwl]
            have HLL := hide hll
            have hne : ¬ cap = i + 1 := by omega
            have hi1 : (i : Int) + 1 ≤ (m : Int) := by omega
            have hi2 : (m : Int) ≤ (cap : Int) := by omega
            have HNU := hide (fun W => l4Number_any (strB (wordOf d i)) W (by omega))
            have HND := hide (show (strB (wordOf d i)).data.toList = (wordOf d i).map UInt8.ofNat from rfl)
            generalize strB (wordOf d i) = S at hcv hsz HNU HND
            clear hrow hwl hb hn h123 hll
            go_wp2_with fail
            refine (HNU.out wr).mono ?_
            rintro e w2 ⟨n, ok, rfl, hN, hb2⟩
            rw [HND.out] at hN
            obtain ⟨hy, hno⟩ := HLN.out n ok hN
            have HB2 := hide (HB.out.trans (hb2.mono HB.out.size))
            rw [HLL.out] at hy hno
            clear hN hb2 hcv hci
            cases ok with
            | false =>
              have HR := hide (show litOf d = none by rw [HL.out, hno (by simp)]; rfl)
              clear hy hno
              go_wp2
              go_ret2
              exact ⟨by rw [HR.out]; rfl, HB2.out⟩
            | true =>
              by_cases h9 : m - (i + 1) ≤ 9
              · have h9i : ¬ (9 : Int) < (S.size : Int) := by omega
                have HR := hide (show litOf d = some (n, i) by rw [HL.out, hy ⟨rfl, h9⟩]; rfl)
                clear hy hno hsz
                go_wp2
                go_ret2
                exact ⟨by rw [HR.out]; rfl, HB2.out⟩
              · have h9i : (9 : Int) < (S.size : Int) := by omega
                have HR := hide (show litOf d = none by rw [HL.out, hno (fun h => h9 h.2)]; rfl)
                clear hy hno hsz
                go_wp2
                go_ret2
                exact ⟨by rw [HR.out]; rfl, HB2.out⟩
          · have HN := hide (drop_more hi hn h123)
            generalize d[i] = x at hci h123
            have hx : ((x : Int) != 123) = true := by simp; omega
            clear hb hn
            go_wp2
            go_roundw
            case rel => exact ⟨i, by omega, by congr 1, HN.out, HB.out⟩
            case measure => simp [intOf]
    · have HR := hide (litOf_last (l := d) (by rw [hgl]; simpa using h125))
      rw [hm] at h3i hsub ⊢
      have hcl2 : w.cell? ⟨b, off + m, none⟩ = some (.int .u8 ((d[d.length - 1]'(by omega) : Nat) : Int)) := by
        have : d.length - 1 = m := by omega
        simp only [this] at hcl ⊢
        exact hcl
      generalize d[d.length - 1]'(by omega) = x at hcl2 h125
      have hx : ((x : Int) != 125) = true := by simp; omega
      have hml : m ≤ 1048576 := by omega
      clear hcl hgl hT
      go_enter Tryd.func42, Tryd.ntmps42
      go_wp2
      go_ret2
      exact ⟨by rw [HR.out]; rfl, Below.refl _ _⟩
end Go.Proofs.YtledlicandlekaaDoor
namespace Go.Proofs.YtledlicandlekaaDoor
open Go.RowKit
/-- What LastIndexByte answers. -/
def lastI (c : Nat) (d : List Nat) : Int := match lastIx c d with
  | some i => (i : Int)
  | none => -1
set_option maxRecDepth 20000 in
set_option maxHeartbeats 1000000 in
theorem lastIndexIn_any (q b off cap : Nat) (d : List Nat) (w : World) (hd : d.length ≤ 1048576) (hT : Tx w b off d) :
    Calls Tryd.prog 78 #[.slice (some ⟨b, off, none⟩) d.length cap, .int .u8 (q : Int)] w fun e w' => e = .returned (.int .i64 (lastI q d)) ∧ w' = w := by
  generalize hm : d.length = m at hd
  have HM := hide hm
  have HT := hide hT
  clear hm hT
  go_enter Tryd.func78, Tryd.ntmps78
  go_wp2
  go_loopw [5] (fun i wr => ∃ k : Nat, k ≤ m ∧ i = .int .i64 ((k : Int) - 1) ∧ q ∉ d.drop k ∧ wr = w) (fun i _ => (intOf i + 1).toNat)
  case atStart => exact ⟨m, Nat.le_refl _, rfl, by rw [← HM.out, List.drop_length]; simp, rfl⟩
  case round =>
    obtain ⟨k, hk, rfl, hn, rfl⟩ := hrel
    cases k with
    | zero =>
      have HR := hide (lastIx_none.2 (show q ∉ d by simpa using hn))
      have h0 : ¬ (0 : Int) ≤ ((0 : Nat) : Int) - 1 := by omega
      clear hn
      go_wp2
      go_ret
      exact ⟨by simp only [lastI, HR.out]; rfl, rfl⟩
    | succ i =>
      have hi : i < d.length := by have := HM.out; omega
      have hci := HT.out i hi
      have he : ((i + 1 : Nat) : Int) - 1 = (i : Int) := by omega
      rw [he]
      have hil : (i : Int) < (m : Int) := by omega
      have him : i < m := by omega
      by_cases hq : d[i] = q
      · have HL := hide (lastIx_at hi hq hn)
        rw [hq] at hci
        clear hn
        go_wp2
        go_ret
        exact ⟨by simp only [lastI, HL.out]; rfl, rfl⟩
      · have HN := hide (drop_more hi hn hq)
        have hqb : ((d[i] : Int) == (q : Int)) = false := by simp; omega
        clear hn
        go_wp2
        exact ⟨⟨i, by omega, by go_num, HN.out, trivial⟩, by simp [intOf]⟩
theorem lastIndex_any (q b off cap : Nat) (d : List Nat) (w : World) (hd : d.length ≤ 1048576) (hT : Tx w b off d) :
    Calls Tryd.prog 60 #[.slice (some ⟨b, off, none⟩) d.length cap, .int .u8 (q : Int)] w fun e w' => e = .returned (.int .i64 (lastI q d)) ∧ w' = w := by
  have HL := hide (lastIndexIn_any q b off cap d w hd hT)
  clear hT
  go_enter Tryd.func60, Tryd.ntmps60
  go_wp2_with fail
  refine HL.out.mono ?_
  rintro e w2 ⟨rfl, rfl⟩
  go_wp2
  go_ret
  exact ⟨rfl, rfl⟩
end Go.Proofs.YtledlicandlekaaDoor
