import Derived.Test.YtledlicandlekaaDoorCutMath
namespace Go.Proofs.YtledlicandlekaaDoor
open Go.RowKit
/-- The bytes d lie in block b from off on. -/
def Tx (w : World) (b off : Nat) (d : List Nat) : Prop := ∀ i (h : i < d.length), w.cell? ⟨b, off + i, none⟩ = some (.int .u8 (d[i] : Int))
theorem Tx.below {w w' : World} {b off : Nat} {d : List Nat} (h : Tx w b off d) (hb : Below w.heap.size w w') : Tx w' b off d := fun i hi => by rw [hb.cell (p := ⟨b, off + i, none⟩) (lt_of_cell0 (h i hi))]; exact h i hi
theorem Tx.row {w : World} {b off : Nat} {d : List Nat} (h : Tx w b off d) : RowAt w (some ⟨b, off, none⟩) d := fun _ => ⟨b, off, rfl, h⟩
theorem Tx.take {w : World} {b off : Nat} {d : List Nat} (h : Tx w b off d) (n : Nat) : Tx w b off (d.take n) := fun i hi => by
  rw [List.length_take] at hi
  rw [List.getElem_take]
  exact h i (by omega)
theorem Tx.drop {w : World} {b off : Nat} {d : List Nat} (h : Tx w b off d) (n : Nat) : Tx w b (off + n) (d.drop n) := fun i hi => by
  rw [List.length_drop] at hi
  rw [List.getElem_drop, Nat.add_assoc]
  exact h (n + i) (by omega)
def endV (r : Option Nat) : Int := match r with
  | some e => (e : Int)
  | none => -1
theorem l6End_any (b off cap : Nat) (d : List Nat) (w : World) (hd : d.length ≤ 1048576) (hT : Tx w b off d) :
    Calls Tryd.prog 41 #[.slice (some ⟨b, off, none⟩) d.length cap, .int .i64 0] w fun e w' => e = .returned (.int .i64 (endV (findEnd d))) ∧ Below w.heap.size w w' := by
  have HT := hide hT
  clear hT
  go_enter Tryd.func41, Tryd.ntmps41
  go_wp2
  go_loopw [5] (fun i wr => ∃ k : Nat, k ≤ d.length ∧ i = .int .i64 (k : Int) ∧ findEnd d = (findEnd (d.drop k)).map (· + k) ∧ Below w.heap.size w wr) (fun i _ => d.length - (intOf i).toNat)
  case atStart => exact ⟨0, Nat.zero_le _, rfl, by cases h : findEnd d <;> simp [h], Below.refl _ _⟩
  case round =>
    obtain ⟨k, hk, rfl, hf, hb⟩ := hrel
    have HB := hide hb
    have HF := hide hf
    by_cases hlt : k + 1 < d.length
    · have hT2 := HT.out.below hb
      have c0 := hT2 k (by omega)
      have c1 := hT2 (k + 1) hlt
      have HIT := hide (findEnd_hit (d := d) (i := k) hlt)
      have HMISS := hide (findEnd_miss (d := d) (i := k) hlt)
      have hlti : (k : Int) + 1 < (d.length : Int) := by omega
      generalize d[k] = x at c0 HIT HMISS
      generalize d[k + 1] = y at c1 HIT HMISS
      clear hb hf hT2
      by_cases h13 : x = 13
      · subst h13
        by_cases h10 : y = 10
        · subst h10
          have HR := hide (show endV (findEnd d) = (k : Int) by rw [HF.out, HIT.out rfl rfl]; simp [endV])
          clear HIT HMISS
          go_wp2
          go_ret
          exact ⟨by rw [HR.out]; rfl, HB.out⟩
        · have hy : ((y : Int) == 10) = false := beq_eq_false_iff_ne.2 (by omega)
          have HR := hide (show findEnd d = (findEnd (d.drop (k + 1))).map (· + (k + 1)) by
            rw [HF.out, HMISS.out (fun h => h10 h.2)]
            cases findEnd (d.drop (k + 1)) <;> simp <;> omega)
          clear HIT HMISS
          go_wp2
          go_roundw
          case rel => exact ⟨k + 1, by omega, by go_num, HR.out, HB.out⟩
          case measure => simp [intOf]; omega
      · have hx : ((x : Int) == 13) = false := beq_eq_false_iff_ne.2 (by omega)
        have HR := hide (show findEnd d = (findEnd (d.drop (k + 1))).map (· + (k + 1)) by
          rw [HF.out, HMISS.out (fun h => h13 h.1)]
          cases findEnd (d.drop (k + 1)) <;> simp <;> omega)
        clear HIT HMISS
        go_wp2
        go_roundw
        case rel => exact ⟨k + 1, by omega, by go_num, HR.out, HB.out⟩
        case measure => simp [intOf]; omega
    · have hlti : ¬ (k : Int) + 1 < (d.length : Int) := by omega
      have HR := hide (show endV (findEnd d) = -1 by
        rw [HF.out, findEnd_short (d := d.drop k) (by rw [List.length_drop]; omega)]
        rfl)
      clear hb hf
      go_wp2
      go_ret
      exact ⟨by rw [HR.out]; rfl, HB.out⟩
/-- What l6Literal answers. -/
def litV (r : Option (Nat × Nat)) : Value := match r with
  | some (n, i) => .tuple #[.int .i64 (n : Int), .int .i64 (i : Int)]
  | none => .tuple #[.int .i64 (-1), .int .i64 0]
theorem word_row {w : World} {b off : Nat} {d : List Nat} (h : Tx w b off d) (i : Nat) : RowAt w (some ⟨b, off + (i + 1), none⟩) (wordOf d i) := ((h.drop (i + 1)).take _).row
theorem word_len (d : List Nat) (i : Nat) : (wordOf d i).length = d.length - 1 - (i + 1) := by unfold wordOf; rw [List.length_take, List.length_drop]; omega
theorem litN_spec {x : List UInt8} {n : Nat} {ok : Bool} (h : NumIs x n ok) : ((ok = true ∧ x.length ≤ 9) → litN x = some n) ∧ (¬ (ok = true ∧ x.length ≤ 9) → litN x = none) := by
  constructor
  · rintro ⟨rfl, hl⟩
    rcases h with ⟨_, e, hn⟩ | ⟨h, _⟩
    · refine litN_yes e ?_
      rcases Nat.lt_or_ge n 1000000000 with h9 | h9
      · omega
      · have hd := Lib.decDigits_length n
        rw [← e] at hd
        have : 10 ≤ Lib.nDigits n := by
          have hpow : ∀ k m, 10 ^ k ≤ m → k + 1 ≤ Lib.nDigits m := by
            intro k
            induction k with
            | zero => intro m _; exact Lib.nDigits_pos m
            | succ k ih =>
              intro m hm
              have h10 : ¬ m < 10 := by
                have : 10 ^ 1 ≤ 10 ^ (k + 1) := Nat.pow_le_pow_right (by omega) (by omega)
                omega
              rw [Lib.nDigits_big h10]
              have := ih (m / 10) (by rw [Nat.pow_succ] at hm; omega)
              omega
          exact hpow 9 n (by omega)
        omega
    · cases h
  · intro hn
    refine litN_no fun m hm e => ?_
    rcases h with ⟨rfl, e2, _⟩ | ⟨rfl, h⟩
    · have hd := Lib.decDigits_length m
      have h9 := nd_le 8 m (by omega)
      rw [← e] at hd
      exact hn ⟨rfl, by omega⟩
    · exact h m (by omega) e
end Go.Proofs.YtledlicandlekaaDoor
