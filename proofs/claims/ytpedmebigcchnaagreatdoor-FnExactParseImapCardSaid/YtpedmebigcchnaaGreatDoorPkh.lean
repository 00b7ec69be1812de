import Derived.Test.YtpedmebigcchnaaGreatDoorPkf
import Derived.Test.YtpedmebigcchnaaGreatDoorPkg
import Derived.Test.YtpedmebigcchnaaGreatDoorPke
namespace Go.Proofs.YtpedmebigcchnaaGreatDoor
open Go.RowKit
set_option maxRecDepth 20000 in
set_option maxHeartbeats 1000000 in
theorem lower_any (l : List Nat) (w : World) (hl : l.length ≤ 1048576) (hb : ∀ x ∈ l, x < 256) :
    Calls Tryz.prog 16 #[.string (strB l)] w fun e w' => e = .returned (.string (strB (l.map loN))) ∧ Below w.heap.size w w' := by
  have hconv := Lib.run_convert_string_bytes (P := Tryz.prog) w 9 22 5 (strB l) Tryz.underlying9 Tryz.underlying22 Tryz.underlying5
  rw [strB_size] at hconv
  have HF := hide (rowF_new w l hb)
  have HB := hide (bytesW_below w (strB l))
  go_enter Tryz.func16, Tryz.ntmps16
  generalize Lib.bytesWorld w 5 (strB l) = w1 at hconv HF HB
  generalize (Lib.bytesCells w 5 (strB l)).size = cc at HF
  generalize grownCap w l.length 0 5 = gc at hconv
  generalize strB l = sl at hconv ⊢
  go_wp2
  clear hconv
  go_loopw [4, 5, 10] (fun _ _ i wr => ∃ k : Nat, k ≤ l.length ∧ i = .int .i64 (k : Int) ∧ RowF wr w.heap.size cc (mapTo loN l k) ∧ Below w.heap.size w wr) (fun _ _ i _ => l.length - (intOf i).toNat)
  case atStart => exact ⟨0, Nat.zero_le _, rfl, HF.out, HB.out⟩
  case round =>
    obtain ⟨k, hk, rfl, hF, hB⟩ := hrel
    clear HF HB
    by_cases hlt : k < l.length
    · have hml := mapTo_len loN l k hk
      have hc := hF.cell k (by omega)
      rw [mapTo_at loN l k hlt] at hc
      have hfz := hF.frozen k (by omega)
      have hx : l[k] < 256 := hb _ (List.getElem_mem hlt)
      have HST := hide (mapTo_set loN l k hlt)
      have HSM := hide (mapTo_same loN l k hlt)
      have HF := hide hF
      have HB := hide hB
      generalize l[k] = x at hc hx HST HSM
      clear hF hB hml hb
      by_cases h1 : 65 ≤ x
      · by_cases h2 : x ≤ 90
        · have hfx : loN x = x + 32 := by unfold loN; rw [if_pos ⟨h1, h2⟩]
          have HS2 := hide (show RowF (wr.setCell ⟨w.heap.size, k, none⟩ (.int .u8 (((x + 32 : Nat)) : Int))) w.heap.size cc (mapTo loN l (k + 1)) from by
            have h := HF.out.set k (x + 32)
            have e := HST.out
            rw [hfx] at e
            rw [e] at h
            exact h)
          have HB2 := hide (HB.out.setCell (p := ⟨w.heap.size, k, none⟩) (Nat.le_refl _) (.int .u8 (((x + 32 : Nat)) : Int)))
          have hi1 : (65 : Int) ≤ (x : Int) := by omega
          have hi2 : (x : Int) ≤ 90 := by omega
          have he : ((x + 32 : Nat) : Int) = (x : Int) + 32 := by omega
          rw [he] at HS2 HB2
          clear HF HB HST HSM hfx he
          go_wp2
          go_roundw
          case rel => exact ⟨k + 1, by omega, by go_num, HS2.out, HB2.out⟩
          case measure => simp [intOf]; omega
        · have hi1 : (65 : Int) ≤ (x : Int) := by omega
          have hi2 : ¬ (x : Int) ≤ 90 := by omega
          have hfx : loN x = x := by unfold loN; rw [if_neg (fun h => h2 h.2)]
          have HS2 := hide (show RowF wr w.heap.size cc (mapTo loN l (k + 1)) by rw [HSM.out hfx]; exact HF.out)
          clear HF HST HSM hfx
          go_wp2
          go_roundw
          case rel => exact ⟨k + 1, by omega, by go_num, HS2.out, HB.out⟩
          case measure => simp [intOf]; omega
      · have hi1 : ¬ (65 : Int) ≤ (x : Int) := by omega
        have hfx : loN x = x := by unfold loN; rw [if_neg (fun h => h1 h.1)]
        have HS2 := hide (show RowF wr w.heap.size cc (mapTo loN l (k + 1)) by rw [HSM.out hfx]; exact HF.out)
        clear HF HST HSM hfx
        go_wp2
        go_roundw
        case rel => exact ⟨k + 1, by omega, by go_num, HS2.out, HB.out⟩
        case measure => simp [intOf]; omega
    · obtain rfl : k = l.length := by omega
      rw [mapTo_end] at hF
      have hcv : (convert 22 9 (.slice (some ⟨w.heap.size, 0, none⟩) l.length gc)).run Tryz.prog wr = .ok (.string (strB (l.map loN))) wr := by
        have h := run_string_of wr (some ⟨w.heap.size, 0, none⟩) gc (l.map loN) hF.row
        rw [List.length_map] at h
        exact h
      have HB := hide hB
      clear hF hB hb
      generalize hsr : strB (l.map loN) = sr at hcv
      have HSR := hide hsr
      clear hsr
      go_wp2
      go_ret
      exact ⟨by rw [HSR.out]; rfl, HB.out⟩
end Go.Proofs.YtpedmebigcchnaaGreatDoor
namespace Go.Proofs.YtpedmebigcchnaaGreatDoor
open Go.RowKit Go.Lib
def loB (s : ByteArray) : ByteArray := strB ((bytesL s).map loN)
theorem up_lt {l : List Nat} (h : ∀ x ∈ l, x < 256) : ∀ x ∈ l.map upN, x < 256 := by
  intro x hx
  obtain ⟨n, hn, rfl⟩ := List.mem_map.1 hx
  have := h n hn
  unfold upN
  split <;> omega
theorem lo_lt' {l : List Nat} (h : ∀ x ∈ l, x < 256) : ∀ x ∈ l.map loN, x < 256 := by
  intro x hx
  obtain ⟨n, hn, rfl⟩ := List.mem_map.1 hx
  have := h n hn
  unfold loN
  split <;> omega
theorem lo_up (y : ByteArray) (c d : List Nat) (hc : c.map upN = c) (hd : c.map loN = d) (bc : ∀ x ∈ c, x < 256) (bd : ∀ x ∈ d, x < 256) : loB y = strB d ↔ upB y = strB c := by
  unfold loB upB
  constructor
  · intro h
    have h1 := strB_inj (lo_lt' (bytesL_lt y)) bd h
    rw [← hd] at h1
    have h2 := (fold_list (bytesL y) c).2 h1
    rw [h2, hc]
  · intro h
    have h1 := strB_inj (up_lt (bytesL_lt y)) bc h
    rw [← hc] at h1
    have h2 := (fold_list (bytesL y) c).1 h1
    rw [h2, hd]
theorem lo_yes {y : ByteArray} {c d : List Nat} {e : List UInt8} (h : upB y = strB c) (hc : c.map upN = c) (hd : c.map loN = d) (bc : ∀ x ∈ c, x < 256) (bd : ∀ x ∈ d, x < 256) (he : (strB d).data.toList = e) : ((loB y).toList == e) = true := by
  rw [(lo_up y c d hc hd bc bd).2 h, ByteArray.toList_eq, he]
  simp
theorem lo_no {y : ByteArray} {c d : List Nat} {e : List UInt8} (h : ¬ upB y = strB c) (hc : c.map upN = c) (hd : c.map loN = d) (bc : ∀ x ∈ c, x < 256) (bd : ∀ x ∈ d, x < 256) (he : (strB d).data.toList = e) : ((loB y).toList == e) = false := by
  rw [ByteArray.toList_eq, ← he]
  refine beq_eq_false_iff_ne.2 fun e2 => h ((lo_up y c d hc hd bc bd).1 ?_)
  exact ByteArray.ext (Array.toList_inj.1 e2)
theorem loB_any (y : ByteArray) (w : World) (hy : y.size ≤ 1048576) :
    Calls Tryz.prog 16 #[.string y] w fun e w' => e = .returned (.string (loB y)) ∧ Below w.heap.size w w' := by
  have h := lower_any (bytesL y) w (by rw [bytesL_len]; exact hy) (bytesL_lt y)
  rw [strB_bytesL] at h
  exact h
end Go.Proofs.YtpedmebigcchnaaGreatDoor
namespace Go.Proofs.YtpedmebigcchnaaGreatDoor
open Go.Lib
/-- The place that a text tells; 0 is '*'. -/
def plOf (t : List UInt8) : Option Nat := if t = [42] then some 0 else if t = decDigits (valD 0 t) ∧ 1 ≤ valD 0 t ∧ valD 0 t ≤ 4294967295 then some (valD 0 t) else none
theorem plOf_star : plOf [42] = some 0 := rfl
theorem plOf_num {t : List UInt8} {n : Nat} (e : t = decDigits n) (h1 : 1 ≤ n) (h2 : n ≤ 4294967295) : plOf t = some n := by
  subst e
  unfold plOf
  have hne : decDigits n ≠ [42] := fun e => by
    have h := dec_digits n 42 (by rw [e]; simp)
    unfold isDig at h
    have h42 : (42 : UInt8).toNat = 42 := rfl
    omega
  rw [if_neg hne, dec_val, if_pos ⟨rfl, h1, h2⟩]
theorem plOf_none {t : List UInt8} (h0 : t ≠ [42]) (h : ∀ m, 1 ≤ m → m ≤ 4294967295 → t ≠ decDigits m) : plOf t = none := by
  unfold plOf
  rw [if_neg h0, if_neg]
  rintro ⟨e, h1, h2⟩
  exact h _ h1 h2 e
theorem plOf_len {t : List UInt8} {n : Nat} (h : plOf t = some n) : t.length ≤ 10 ∧ n ≤ 4294967295 ∧ (58 : UInt8) ∉ t := by
  unfold plOf at h
  split at h
  · next e => rw [e]; simp only [Option.some.injEq] at h; subst h; exact ⟨by decide, by omega, by decide⟩
  · split at h
    · next e =>
      simp only [Option.some.injEq] at h
      subst h
      have h3 := nd_le 9 (valD 0 t) (by have := e.2.2; omega)
      have h4 := decDigits_length (valD 0 t)
      rw [← e.1] at h4
      exact ⟨by omega, e.2.2, by rw [e.1]; exact dec_not not58⟩
    · cases h
def both (a b : Option Nat) : Option (Nat × Nat) := match a, b with
  | some x, some y => some (x, y)
  | _, _ => none
theorem both_some {a b : Option Nat} {p : Nat × Nat} (h : both a b = some p) : a = some p.1 ∧ b = some p.2 := by
  cases a <;> cases b <;> simp [both] at h
  subst h; exact ⟨rfl, rfl⟩
/-- The pair that a part of a set tells. -/
def prOf (t : List UInt8) : Option (Nat × Nat) :=
  match splitOf 58 t with
  | [a] => both (plOf a) (plOf a)
  | [a, b] => both (plOf a) (plOf b)
  | _ => none
theorem prOf_len {t : List UInt8} {p : Nat × Nat} (h : prOf t = some p) : t.length ≤ 21 ∧ p.1 ≤ 4294967295 ∧ p.2 ≤ 4294967295 := by
  by_cases hm : (58 : UInt8) ∈ t
  · obtain ⟨a, c, e, hn⟩ := List.eq_append_cons_of_mem hm
    subst e
    unfold prOf at h
    rw [splitOf_at hn] at h
    cases hc : splitOf 58 c with
    | nil => exact absurd hc (splitOf_ne _ _)
    | cons x r =>
      rw [hc] at h
      cases r with
      | nil =>
        simp only at h
        obtain ⟨h1, h2⟩ := both_some h
        obtain ⟨l1, b1, _⟩ := plOf_len h1
        obtain ⟨l2, b2, _⟩ := plOf_len h2
        have hcx : c = x := by
          by_cases hm2 : (58 : UInt8) ∈ c
          · obtain ⟨a2, c2, e2, hn2⟩ := List.eq_append_cons_of_mem hm2
            rw [e2, splitOf_at hn2] at hc
            simp only [List.cons.injEq] at hc
            exact absurd hc.2 (splitOf_ne _ _)
          · rw [splitOf_no hm2] at hc
            simpa using hc
        subst hcx
        exact ⟨by rw [List.length_append, List.length_cons]; omega, b1, b2⟩
      | cons y r => simp only at h; cases h
  · unfold prOf at h
    rw [splitOf_no hm] at h
    simp only at h
    obtain ⟨h1, h2⟩ := both_some h
    obtain ⟨l1, b1, _⟩ := plOf_len h1
    obtain ⟨l2, b2, _⟩ := plOf_len h2
    exact ⟨by omega, b1, b2⟩
theorem splitOf_sum (b : UInt8) : ∀ t : List UInt8, ((splitOf b t).map fun w => w.length + 1).sum = t.length + 1
  | [] => rfl
  | x :: r => by
    have ih := splitOf_sum b r
    rw [splitOf]
    split
    · rw [List.map_cons, List.sum_cons, ih]; simp; omega
    · split
      · next w ws e => rw [e, List.map_cons, List.sum_cons] at ih; rw [List.map_cons, List.sum_cons]; simp at ih ⊢; omega
      · next e => exact absurd e (splitOf_ne _ _)
theorem sum_le (k : Nat) : ∀ l : List Nat, (∀ x ∈ l, x ≤ k) → l.sum ≤ k * l.length
  | [], _ => by simp
  | x :: r, h => by
    have ih := sum_le k r (fun y hy => h y (List.mem_cons_of_mem _ hy))
    have hx := h x List.mem_cons_self
    rw [List.sum_cons, List.length_cons, Nat.mul_succ]; omega
def isPr (t : List UInt8) : Bool := (prOf t).isSome
def prV (t : List UInt8) : Nat × Nat := (prOf t).getD (0, 0)
/-- The pairs that a text of a set tells. -/
def setOf (t : List UInt8) : Option (List (Nat × Nat)) := if (splitOf 44 t).length ≤ 50 ∧ (splitOf 44 t).all isPr = true then some ((splitOf 44 t).map prV) else none
theorem setOf_long {t : List UInt8} (h : 1100 < t.length) : setOf t = none := by
  unfold setOf
  rw [if_neg]
  rintro ⟨h1, h2⟩
  have hs := splitOf_sum 44 t
  have hl := sum_le 22 ((splitOf 44 t).map fun w => w.length + 1) (fun x hx => by
    obtain ⟨w, hw, rfl⟩ := List.mem_map.1 hx
    have hp := List.all_eq_true.1 h2 w hw
    unfold isPr at hp
    obtain ⟨p, hp⟩ := Option.isSome_iff_exists.1 hp
    have := (prOf_len hp).1
    omega)
  rw [hs, List.length_map] at hl
  omega
theorem setOf_many {t : List UInt8} (h : 50 < (splitOf 44 t).length) : setOf t = none := by
  unfold setOf; rw [if_neg]; rintro ⟨h1, _⟩; omega
theorem setOf_bad {t : List UInt8} {i : Nat} (hi : i < (splitOf 44 t).length) (h : isPr (splitOf 44 t)[i] = false) : setOf t = none := by
  unfold setOf
  rw [if_neg]
  rintro ⟨_, h2⟩
  rw [List.all_eq_true.1 h2 _ (List.getElem_mem hi)] at h
  cases h
theorem setOf_good {t : List UInt8} (h : (splitOf 44 t).length ≤ 50) (h2 : ∀ x ∈ splitOf 44 t, isPr x = true) : setOf t = some ((splitOf 44 t).map prV) := if_pos ⟨h, List.all_eq_true.2 h2⟩
theorem prV_lt (t : List UInt8) : (prV t).1 ≤ 4294967295 ∧ (prV t).2 ≤ 4294967295 := by
  unfold prV
  cases h : prOf t with
  | none => exact ⟨by decide, by decide⟩
  | some p => exact (prOf_len h).2
end Go.Proofs.YtpedmebigcchnaaGreatDoor
