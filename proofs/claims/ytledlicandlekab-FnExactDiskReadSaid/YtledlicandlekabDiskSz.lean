import Derived.Test.YtledlicandlekabLists
namespace Go.Proofs.Ytledlicandlekab
open Go.RowKit
/-- The entries 'es' (name, node) lie at 'a'. -/
def EntAt (w : World) (a : Option Addr) (es : List (ByteArray × Int)) : Prop :=
  0 < es.length → ∃ b off, a = some ⟨b, off, none⟩ ∧ ∀ i (h : i < es.length), w.cell? ⟨b, off + i * 2, none⟩ = some (.string es[i].1) ∧ w.cell? ⟨b, off + i * 2 + 1, none⟩ = some (.int .i64 es[i].2)
theorem EntAt.below {w w' : World} {a : Option Addr} {es : List (ByteArray × Int)} (h : EntAt w a es) (hb : Below w.heap.size w w') : EntAt w' a es := fun hp => by
  obtain ⟨b, off, rfl, hc⟩ := h hp
  refine ⟨b, off, rfl, fun i hi => ?_⟩
  obtain ⟨h1, h2⟩ := hc i hi
  exact ⟨by rw [hb.cell (p := ⟨b, off + i * 2, none⟩) (lt_of_cell0 h1)]; exact h1, by rw [hb.cell (p := ⟨b, off + i * 2 + 1, none⟩) (lt_of_cell0 h2)]; exact h2⟩
theorem szEntry_any (s : ByteArray) (n left : Int) (w : World) (hs : s.size ≤ 9223372036854775807) (h0 : 0 ≤ left) (h1 : left ≤ 1048576) :
    Calls Try.prog 53 #[.agg #[.string s, .int .i64 n], .int .i64 left] w fun e w' => e = .returned (.int .i64 (if left < s.size then -1 else left - s.size)) ∧ Below w.heap.size w w' := by
  by_cases h : left < s.size
  · rw [if_pos h]
    go_enter Try.func53, Try.ntmps53
    go_wp2
    go_ret
    exact ⟨rfl, (Below.refl _ _).alloc (Nat.le_refl _) _⟩
  · rw [if_neg h]
    go_enter Try.func53, Try.ntmps53
    go_wp2
    go_ret
    exact ⟨rfl, (Below.refl _ _).alloc (Nat.le_refl _) _⟩
/-- What is left of 'left' behind 'n'. -/
def szRest (left n : Nat) : Int := if left < n then -1 else ((left - n : Nat) : Int)
theorem szRest_neg {left n : Nat} (h : left < n) : szRest left n = -1 := if_pos h
theorem szRest_pos {left n : Nat} (h : n ≤ left) : szRest left n = (left : Int) - (n : Int) := by rw [szRest, if_neg (by omega)]; omega
def sumE : List (ByteArray × Int) → Nat
  | [] => 0
  | e :: es => e.1.size + sumE es
theorem sumE_append (a b : List (ByteArray × Int)) : sumE (a ++ b) = sumE a + sumE b := by
  induction a with
  | nil => simp [sumE]
  | cons x r ih => simp [sumE, ih]; omega
theorem sumE_take_succ (es : List (ByteArray × Int)) (k : Nat) (h : k < es.length) : sumE (es.take (k + 1)) = sumE (es.take k) + es[k].1.size := by
  rw [List.take_succ_eq_append_getElem h, sumE_append]; simp [sumE]
theorem sumE_take_le (es : List (ByteArray × Int)) (k : Nat) : sumE (es.take k) ≤ sumE es := by
  have h := sumE_append (es.take k) (es.drop k)
  rw [List.take_append_drop] at h; omega
theorem szEntryS_any (a : Option Addr) (cap : Nat) (es : List (ByteArray × Int)) (left : Nat) (w : World) (hl : left ≤ 1048576) (hn : es.length ≤ 9223372036854775807) (hes : ∀ e ∈ es, e.1.size ≤ 9223372036854775807) (hr : EntAt w a es) :
    Calls Try.prog 21 #[.slice a es.length cap, .int .i64 (left : Int)] w fun e w' => e = .returned (.int .i64 (szRest left (es.length + sumE es))) ∧ Below w.heap.size w w' := by
  by_cases hbig : left < es.length
  · rw [szRest_neg (by omega)]
    go_enter Try.func21, Try.ntmps21
    go_wp2
    go_ret
    exact ⟨rfl, Below.refl _ _⟩
  · go_enter Try.func21, Try.ntmps21
    go_wp2
    go_loopw [1, 5] (fun s i wr => ∃ k : Nat, k ≤ es.length ∧ i = .int .i64 k ∧ es.length + sumE (es.take k) ≤ left ∧ s = .int .i64 ((left : Int) - (es.length : Int) - (sumE (es.take k) : Int)) ∧ Below w.heap.size w wr) (fun _ i _ => es.length - (intOf i).toNat)
    case atStart => exact ⟨0, Nat.zero_le _, rfl, by simp [sumE]; omega, val_int (by simp [sumE]), Below.refl _ _⟩
    case round =>
      obtain ⟨k, hk, rfl, hs, rfl, hnx⟩ := hrel
      by_cases hlt : k < es.length
      · obtain ⟨b, off, rfl, hc⟩ := (hr.below hnx) (by omega)
        obtain ⟨hc0, hc1⟩ := hc k hlt
        have hkl := hes _ (List.getElem_mem hlt)
        have HS := hide (sumE_take_succ es k hlt)
        have HT := hide (sumE_take_le es (k + 1))
        generalize sumE (es.take k) = s0 at hs HS ⊢
        clear hc hr hes
        generalize es[k] = e0 at hc0 hc1 hkl HS
        obtain ⟨nm, nd⟩ := e0
        simp only at hc0 hc1 hkl HS
        by_cases hfit : es.length + s0 + nm.size ≤ left
        · go_wp2_with fail
          refine (szEntry_any nm nd _ wr hkl (by omega) (by omega)).mono ?_
          rintro e w' ⟨rfl, hb⟩
          rw [if_neg (by omega)]
          have hnx' := hnx.trans (hb.mono hnx.size)
          clear hc0 hc1
          go_wp2
          go_round
          case rel => exact ⟨k + 1, by omega, by go_num, by rw [HS.out]; omega, val_int (by rw [HS.out]; omega), hnx'⟩
          case measure => simp [intOf]; omega
        · go_wp2_with fail
          refine (szEntry_any nm nd _ wr hkl (by omega) (by omega)).mono ?_
          rintro e w' ⟨rfl, hb⟩
          rw [if_pos (by omega)]
          have hnx' := hnx.trans (hb.mono hnx.size)
          clear hc0 hc1
          go_wp2
          go_ret
          exact ⟨by rw [szRest_neg (by have := HS.out; have := HT.out; omega)]; rfl, hnx'⟩
      · have he : es.take k = es := List.take_of_length_le (by omega)
        rw [he] at hs ⊢
        clear he
        go_wp2
        go_ret
        exact ⟨by rw [szRest_pos hs]; exact congrArg Ending.returned (val_int (by omega)), hnx⟩
end Go.Proofs.Ytledlicandlekab
