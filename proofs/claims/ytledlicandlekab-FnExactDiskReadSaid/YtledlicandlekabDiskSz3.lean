import Derived.Test.YtledlicandlekabDiskSz2
import Derived.Test.YtledlicandlekabSzB
namespace Go.Proofs.Ytledlicandlekab
open Go.RowKit
/-- The nodes 'es' (bytes, safe) lie at 'a'. -/
def NodeAt (w : World) (a : Option Addr) (es : List (List Nat × Int)) : Prop :=
  0 < es.length → ∃ b off, a = some ⟨b, off, none⟩ ∧ ∀ i (h : i < es.length), ∃ ai ci, w.cell? ⟨b, off + i * 2, none⟩ = some (.slice ai es[i].1.length ci) ∧ w.cell? ⟨b, off + i * 2 + 1, none⟩ = some (.int .i64 es[i].2) ∧ RowAt w ai es[i].1
theorem NodeAt.below {w w' : World} {a : Option Addr} {es : List (List Nat × Int)} (h : NodeAt w a es) (hb : Below w.heap.size w w') : NodeAt w' a es := fun hp => by
  obtain ⟨b, off, rfl, hc⟩ := h hp
  refine ⟨b, off, rfl, fun i hi => ?_⟩
  obtain ⟨ai, ci, h1, h2, h3⟩ := hc i hi
  exact ⟨ai, ci, by rw [hb.cell (p := ⟨b, off + i * 2, none⟩) (lt_of_cell0 h1)]; exact h1, by rw [hb.cell (p := ⟨b, off + i * 2 + 1, none⟩) (lt_of_cell0 h2)]; exact h2, h3.below hb⟩
theorem szNode_any (a : Option Addr) (n cap : Nat) (sf left : Int) (w : World) (hs : n ≤ 9223372036854775807) (h0 : 0 ≤ left) (h1 : left ≤ 1048576) :
    Calls Try.prog 52 #[.agg #[.slice a n cap, .int .i64 sf], .int .i64 left] w fun e w' => e = .returned (.int .i64 (if left < n then -1 else left - n)) ∧ Below w.heap.size w w' := by
  by_cases h : left < n
  · rw [if_pos h]
    go_enter Try.func52, Try.ntmps52
    go_wp2_with fail
    refine (szByteS_any a n cap _ _ (by omega) (by omega) hs).mono ?_
    rintro e w' ⟨rfl, rfl⟩
    rw [if_pos (by omega)]
    go_wp2
    go_ret
    exact ⟨rfl, (Below.refl _ _).alloc (Nat.le_refl _) _⟩
  · rw [if_neg h]
    go_enter Try.func52, Try.ntmps52
    go_wp2_with fail
    refine (szByteS_any a n cap _ _ (by omega) (by omega) hs).mono ?_
    rintro e w' ⟨rfl, rfl⟩
    rw [if_neg (by omega)]
    go_wp2
    go_ret
    exact ⟨rfl, (Below.refl _ _).alloc (Nat.le_refl _) _⟩
def sumN : List (List Nat × Int) → Nat
  | [] => 0
  | e :: es => e.1.length + sumN es
theorem sumN_append (a b : List (List Nat × Int)) : sumN (a ++ b) = sumN a + sumN b := by
  induction a with
  | nil => simp [sumN]
  | cons x r ih => simp [sumN, ih]; omega
theorem sumN_take_succ (es : List (List Nat × Int)) (k : Nat) (h : k < es.length) : sumN (es.take (k + 1)) = sumN (es.take k) + es[k].1.length := by
  rw [List.take_succ_eq_append_getElem h, sumN_append]; simp [sumN]
theorem sumN_take_le (es : List (List Nat × Int)) (k : Nat) : sumN (es.take k) ≤ sumN es := by
  have h := sumN_append (es.take k) (es.drop k)
  rw [List.take_append_drop] at h; omega
theorem szNodeS_any (a : Option Addr) (cap : Nat) (es : List (List Nat × Int)) (left : Nat) (w : World) (hl : left ≤ 1048576) (hn : es.length ≤ 9223372036854775807) (hes : ∀ e ∈ es, e.1.length ≤ 9223372036854775807) (hr : NodeAt w a es) :
    Calls Try.prog 20 #[.slice a es.length cap, .int .i64 (left : Int)] w fun e w' => e = .returned (.int .i64 (szRest left (es.length + sumN es))) ∧ Below w.heap.size w w' := by
  by_cases hbig : left < es.length
  · rw [szRest_neg (by omega)]
    go_enter Try.func20, Try.ntmps20
    go_wp2
    go_ret
    exact ⟨rfl, Below.refl _ _⟩
  · go_enter Try.func20, Try.ntmps20
    go_wp2
    go_loopw [1, 5] (fun s i wr => ∃ k : Nat, k ≤ es.length ∧ i = .int .i64 k ∧ es.length + sumN (es.take k) ≤ left ∧ s = .int .i64 ((left : Int) - (es.length : Int) - (sumN (es.take k) : Int)) ∧ Below w.heap.size w wr) (fun _ i _ => es.length - (intOf i).toNat)
    case atStart => exact ⟨0, Nat.zero_le _, rfl, by simp [sumN]; omega, val_int (by simp [sumN]), Below.refl _ _⟩
    case round =>
      obtain ⟨k, hk, rfl, hs, rfl, hnx⟩ := hrel
      by_cases hlt : k < es.length
      · obtain ⟨b, off, rfl, hc⟩ := (hr.below hnx) (by omega)
        obtain ⟨ai, ci, hc0, hc1, _⟩ := hc k hlt
        have hkl := hes _ (List.getElem_mem hlt)
        have HS := hide (sumN_take_succ es k hlt)
        have HT := hide (sumN_take_le es (k + 1))
        generalize sumN (es.take k) = s0 at hs HS ⊢
        clear hc hr hes
        generalize es[k].1.length = n0 at hc0 hkl HS
        generalize es[k].2 = nd at hc1
        by_cases hfit : es.length + s0 + n0 ≤ left
        · go_wp2_with fail
          refine (szNode_any ai n0 ci nd _ wr hkl (by omega) (by omega)).mono ?_
          rintro e w' ⟨rfl, hb⟩
          rw [if_neg (by omega)]
          have hnx' := hnx.trans (hb.mono hnx.size)
          clear hc0 hc1
          go_wp2
          go_round
          case rel => exact ⟨k + 1, by omega, by go_num, by rw [HS.out]; omega, val_int (by rw [HS.out]; omega), hnx'⟩
          case measure => simp [intOf]; omega
        · go_wp2_with fail
          refine (szNode_any ai n0 ci nd _ wr hkl (by omega) (by omega)).mono ?_
          rintro e w' ⟨rfl, hb⟩
          rw [if_pos (by omega)]
          have hnx' := hnx.trans (hb.mono hnx.size)
          clear hc0 hc1
          go_wp2
          go_ret
          exact ⟨by rw [szRest_neg (by have := HS.out; have := HT.out; omega)]; rfl, hnx'⟩
      · have he : es.take k = es := List.take_of_length_le (by omega)
        rw [he] at hs ⊢
        clear he
        go_wp2
        go_ret
        exact ⟨by rw [szRest_pos hs]; exact congrArg Ending.returned (val_int (by omega)), hnx⟩
end Go.Proofs.Ytledlicandlekab
