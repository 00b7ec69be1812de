import Derived.Test.YtknnpgffdbkfnaaListWalks
import Derived.Test.YtknnpgffdbkfnaaMarks
namespace Go.Proofs.Ytknnpgffdbkfnaa
open Go.RowKit
/-- What marking a list of rows writes. -/
def marksS : Nat → List (List Nat) → List (List Nat)
  | _, [] => []
  | k, l :: ls => marks k l.length :: marksS (k + l.length) ls
theorem marksS_length (k : Nat) (ls : List (List Nat)) : (marksS k ls).length = ls.length := by
  induction ls generalizing k with
  | nil => rfl
  | cons l r ih => simp [marksS, ih]
theorem marksS_snoc (k : Nat) (ls : List (List Nat)) (l : List Nat) : marksS k (ls ++ [l]) = marksS k ls ++ [marks (k + sumL ls) l.length] := by
  induction ls generalizing k with
  | nil => simp [marksS, sumL]
  | cons x r ih => simp only [List.cons_append, marksS, sumL, ih, Nat.add_assoc]
theorem marksS_at (k : Nat) (ls : List (List Nat)) (j : Nat) (h : j < ls.length) (h' : j < (marksS k ls).length) : (marksS k ls)[j] = marks (k + sumL (ls.take j)) ls[j].length := by
  induction ls generalizing k j with
  | nil => simp at h
  | cons x r ih =>
    cases j with
    | zero => simp [marksS, sumL]
    | succ j =>
      simp only [marksS, List.getElem_cons_succ, List.take_succ_cons, sumL]
      rw [ih (k + x.length) j (by simpa using h) (by rw [marksS_length]; simpa using h), Nat.add_assoc]
theorem sumL_marksS (k : Nat) (ls : List (List Nat)) : sumL (marksS k ls) = sumL ls := by
  induction ls generalizing k with
  | nil => rfl
  | cons x r ih => simp [marksS, sumL, ih, marks_length]
def markedS (k : Nat) (ls : List (List Nat)) (i : Nat) : List (List Nat) := marksS k (ls.take i) ++ ls.drop i
theorem markedS_length (k : Nat) (ls : List (List Nat)) (i : Nat) (h : i ≤ ls.length) : (markedS k ls i).length = ls.length := by simp [markedS, marksS_length]; omega
theorem markedS_zero (k : Nat) (ls : List (List Nat)) : markedS k ls 0 = ls := by simp [markedS, marksS]
theorem markedS_len (k : Nat) (ls : List (List Nat)) : markedS k ls ls.length = marksS k ls := by simp [markedS]
theorem markedS_at (k : Nat) (ls : List (List Nat)) (i : Nat) (h : i < ls.length) (h' : i < (markedS k ls i).length) : (markedS k ls i)[i] = ls[i] := by
  have e : (markedS k ls i)[i]? = some ls[i] := by
    unfold markedS
    rw [List.getElem?_append_right (by simp [marksS_length]; omega)]
    have e2 : i - (marksS k (ls.take i)).length = 0 := by simp [marksS_length]; omega
    rw [e2, List.drop_eq_getElem_cons h]; rfl
  rw [List.getElem?_eq_getElem h'] at e
  simpa using e
theorem markedS_set (k : Nat) (ls : List (List Nat)) (i : Nat) (h : i < ls.length) : (markedS k ls i).set i (marks (k + sumL (ls.take i)) ls[i].length) = markedS k ls (i + 1) := by
  unfold markedS
  rw [List.set_append_right _ _ (by simp [marksS_length]; omega)]
  have e : i - (marksS k (ls.take i)).length = 0 := by simp [marksS_length]; omega
  rw [e, List.drop_eq_getElem_cons h, List.set_cons_zero, List.take_succ_eq_append_getElem h, marksS_snoc]
  simp
theorem own_range {w w' : World} {lo hi : Nat} {x : Value} {l : List Nat} (ho : OwnB w lo x l) (hs : ∀ g, x.ownBlock = some g → g < hi) (hg : w.grownBy w' x.ownBlock) : Out lo hi w w' :=
  Out.of_grown hg fun k hk => ⟨(World.ownsRow.lt ho k hk).1, hs k hk⟩
theorem markByteSS_any (lo hi k : Nat) (a : Option Addr) (cap : Nat) (ls : List (List Nat)) (vs : List Value) (w : World) (hk : k + sumL ls ≤ 4503599627370496) (hl : ls.length ≤ 4503599627370496) (hown : OwnBV w lo (.slice a ls.length cap) vs ls) (hin : ∀ x ∈ vs, ∀ g, x.ownBlock = some g → g < hi) :
    Calls Try.prog 12 #[.slice a ls.length cap, .int .i64 (k : Int)] w fun e w' => e = .returned (.int .i64 ((k + sumL ls : Nat) : Int)) ∧ OwnBV w' lo (.slice a ls.length cap) vs (marksS k ls) ∧ Out lo hi w w' ∧ w'.heap.size = w.heap.size := by
  go_enter Try.func12, Try.ntmps12
  go_wp2
  go_loopw [1, 5] (fun s i wr => ∃ j : Nat, j ≤ ls.length ∧ i = .int .i64 j ∧ s = .int .i64 ((k + sumL (ls.take j) : Nat) : Int) ∧ OwnBV wr lo (.slice a ls.length cap) vs (markedS k ls j) ∧ Out lo hi w wr ∧ wr.heap.size = w.heap.size) (fun _ i _ => ls.length - (intOf i).toNat)
  case atStart => exact ⟨0, Nat.zero_le _, rfl, val_int (by simp [sumL]), by rw [markedS_zero]; exact hown, Out.refl _ _ _, rfl⟩
  case round =>
    obtain ⟨j, hj, rfl, rfl, hown', hout, hsz⟩ := hrel
    clear hown
    by_cases hlt : j < ls.length
    · have hml := markedS_length k ls j hj
      obtain ⟨h1, h2, h3⟩ := hown'
      rw [hml] at h1
      obtain ⟨g, rfl, hc⟩ := outer_cell h1 (by omega)
      obtain ⟨x, hx, ho⟩ := h2 j (by omega)
      have hat := markedS_at k ls j hlt (by omega)
      rw [hat] at ho
      obtain ⟨ai, ci, rfl⟩ := ho.slice
      have hcell := hc j _ hx
      have hs1 := sumL_take_le ls (j + 1)
      have HS : Hid (sumL (ls.take (j + 1)) = sumL (ls.take j) + ls[j].length) := sumL_take_succ ls j hlt
      have hs2 : k + sumL (ls.take j) ≤ 4503599627370496 := by have := HS.out; omega
      have hs3 : ls[j].length ≤ 4503599627370496 := by have := HS.out; omega
      have HW : Hid (∀ w1, OwnB w1 lo (.slice ai ls[j].length ci) (marks (k + sumL (ls.take j)) ls[j].length) → wr.grownBy w1 (Value.slice ai ls[j].length ci).ownBlock → w1.heap.size = wr.heap.size → OwnBV w1 lo (.slice (some ⟨g, 0, none⟩) ls.length cap) vs (markedS k ls (j + 1)) ∧ Out lo hi w w1 ∧ w1.heap.size = w.heap.size) := by
        intro w1 o1 g1 z1
        refine ⟨?_, hout.trans (own_range ho (hin _ (List.mem_of_getElem? hx)) g1), by omega⟩
        rw [← markedS_set k ls j hlt]
        exact OwnBV.set_row (by rw [hml]; exact h1) h2 h3 (by omega) hx (by rw [hat]; exact ho) o1 g1
      have HO : Hid (OwnB wr lo (.slice ai ls[j].length ci) ls[j]) := ho
      clear h1 h2 h3 hc hx hat ho hout hml hsz hs1
      generalize sumL (ls.take j) = s0 at *
      go_wp2_with fail
      refine (markByteS_any lo ai ci (k + s0) ls[j] wr hs2 hs3 HO.out).mono ?_
      rintro e w1 ⟨rfl, o1, g1, z1⟩
      have HN := HW.out w1 o1 g1 z1
      have HX : Hid (OwnBV w1 lo (.slice (some ⟨g, 0, none⟩) ls.length cap) vs (markedS k ls (j + 1)) ∧ Out lo hi w w1 ∧ w1.heap.size = w.heap.size) := HN
      clear HN HW HO o1 g1 z1
      go_wp2
      go_roundw
      case rel => exact ⟨j + 1, by omega, by go_num, val_int (by rw [HS.out]; omega), HX.out.1, HX.out.2.1, HX.out.2.2⟩
      case measure => simp [intOf]; omega
    · obtain rfl : j = ls.length := by omega
      rw [markedS_len] at hown'
      go_wp2
      go_ret
      exact ⟨ret_int (by simp), hown', hout, hsz⟩
end Go.Proofs.Ytknnpgffdbkfnaa
