import Derived.Test.YtledlicandlekabDiskSz
namespace Go.Proofs.Ytledlicandlekab
open Go.RowKit
/-- The steps 'es' (kind, name, to, node) lie at 'a'. -/
def OpAt (w : World) (a : Option Addr) (es : List (Int × ByteArray × ByteArray × Int)) : Prop :=
  0 < es.length → ∃ b off, a = some ⟨b, off, none⟩ ∧ ∀ i (h : i < es.length), w.cell? ⟨b, off + i * 4, none⟩ = some (.int .i64 es[i].1) ∧ w.cell? ⟨b, off + i * 4 + 1, none⟩ = some (.string es[i].2.1) ∧ w.cell? ⟨b, off + i * 4 + 2, none⟩ = some (.string es[i].2.2.1) ∧ w.cell? ⟨b, off + i * 4 + 3, none⟩ = some (.int .i64 es[i].2.2.2)
theorem OpAt.below {w w' : World} {a : Option Addr} {es : List (Int × ByteArray × ByteArray × Int)} (h : OpAt w a es) (hb : Below w.heap.size w w') : OpAt w' a es := fun hp => by
  obtain ⟨b, off, rfl, hc⟩ := h hp
  refine ⟨b, off, rfl, fun i hi => ?_⟩
  obtain ⟨h1, h2, h3, h4⟩ := hc i hi
  exact ⟨by rw [hb.cell (p := ⟨b, off + i * 4, none⟩) (lt_of_cell0 h1)]; exact h1, by rw [hb.cell (p := ⟨b, off + i * 4 + 1, none⟩) (lt_of_cell0 h2)]; exact h2, by rw [hb.cell (p := ⟨b, off + i * 4 + 2, none⟩) (lt_of_cell0 h3)]; exact h3, by rw [hb.cell (p := ⟨b, off + i * 4 + 3, none⟩) (lt_of_cell0 h4)]; exact h4⟩
theorem szDirOp_any (k : Int) (s t : ByteArray) (n left : Int) (w : World) (hs : s.size ≤ 9223372036854775807) (ht : t.size ≤ 9223372036854775807) (h0 : 0 ≤ left) (h1 : left ≤ 1048576) :
    Calls Try.prog 54 #[.agg #[.int .i64 k, .string s, .string t, .int .i64 n], .int .i64 left] w fun e w' => e = .returned (.int .i64 (if left < s.size + t.size then -1 else left - (s.size + t.size))) ∧ Below w.heap.size w w' := by
  by_cases h : left < s.size
  · rw [if_pos (by omega)]
    go_enter Try.func54, Try.ntmps54
    go_wp2
    go_ret
    exact ⟨rfl, (Below.refl _ _).alloc (Nat.le_refl _) _⟩
  · by_cases h' : left < s.size + t.size
    · rw [if_pos h']
      go_enter Try.func54, Try.ntmps54
      go_wp2
      go_ret
      exact ⟨rfl, (Below.refl _ _).alloc (Nat.le_refl _) _⟩
    · rw [if_neg h']
      go_enter Try.func54, Try.ntmps54
      go_wp2
      go_ret
      exact ⟨congrArg Ending.returned (val_int (by omega)), (Below.refl _ _).alloc (Nat.le_refl _) _⟩
def sumO : List (Int × ByteArray × ByteArray × Int) → Nat
  | [] => 0
  | e :: es => e.2.1.size + e.2.2.1.size + sumO es
theorem sumO_append (a b : List (Int × ByteArray × ByteArray × Int)) : sumO (a ++ b) = sumO a + sumO b := by
  induction a with
  | nil => simp [sumO]
  | cons x r ih => simp [sumO, ih]; omega
theorem sumO_take_succ (es : List (Int × ByteArray × ByteArray × Int)) (k : Nat) (h : k < es.length) : sumO (es.take (k + 1)) = sumO (es.take k) + (es[k].2.1.size + es[k].2.2.1.size) := by
  rw [List.take_succ_eq_append_getElem h, sumO_append]; simp [sumO]
theorem sumO_take_le (es : List (Int × ByteArray × ByteArray × Int)) (k : Nat) : sumO (es.take k) ≤ sumO es := by
  have h := sumO_append (es.take k) (es.drop k)
  rw [List.take_append_drop] at h; omega
theorem szDirOpS_any (a : Option Addr) (cap : Nat) (es : List (Int × ByteArray × ByteArray × Int)) (left : Nat) (w : World) (hl : left ≤ 1048576) (hn : es.length ≤ 9223372036854775807) (hes : ∀ e ∈ es, e.2.1.size ≤ 9223372036854775807 ∧ e.2.2.1.size ≤ 9223372036854775807) (hr : OpAt w a es) :
    Calls Try.prog 22 #[.slice a es.length cap, .int .i64 (left : Int)] w fun e w' => e = .returned (.int .i64 (szRest left (es.length + sumO es))) ∧ Below w.heap.size w w' := by
  by_cases hbig : left < es.length
  · rw [szRest_neg (by omega)]
    go_enter Try.func22, Try.ntmps22
    go_wp2
    go_ret
    exact ⟨rfl, Below.refl _ _⟩
  · go_enter Try.func22, Try.ntmps22
    go_wp2
    go_loopw [1, 5] (fun s i wr => ∃ k : Nat, k ≤ es.length ∧ i = .int .i64 k ∧ es.length + sumO (es.take k) ≤ left ∧ s = .int .i64 ((left : Int) - (es.length : Int) - (sumO (es.take k) : Int)) ∧ Below w.heap.size w wr) (fun _ i _ => es.length - (intOf i).toNat)
    case atStart => exact ⟨0, Nat.zero_le _, rfl, by simp [sumO]; omega, val_int (by simp [sumO]), Below.refl _ _⟩
    case round =>
      obtain ⟨k, hk, rfl, hs, rfl, hnx⟩ := hrel
      by_cases hlt : k < es.length
      · obtain ⟨b, off, rfl, hc⟩ := (hr.below hnx) (by omega)
        obtain ⟨hc0, hc1, hc2, hc3⟩ := hc k hlt
        have hkl := hes _ (List.getElem_mem hlt)
        have HS := hide (sumO_take_succ es k hlt)
        have HT := hide (sumO_take_le es (k + 1))
        generalize sumO (es.take k) = s0 at hs HS ⊢
        clear hc hr hes
        generalize es[k] = e0 at hc0 hc1 hc2 hc3 hkl HS
        obtain ⟨kd, nm, tn, nd⟩ := e0
        simp only at hc0 hc1 hc2 hc3 hkl HS
        obtain ⟨hkl, hkt⟩ := hkl
        by_cases hfit : es.length + s0 + (nm.size + tn.size) ≤ left
        · go_wp2_with fail
          refine (szDirOp_any kd nm tn nd _ wr hkl hkt (by omega) (by omega)).mono ?_
          rintro e w' ⟨rfl, hb⟩
          rw [if_neg (by omega)]
          have hnx' := hnx.trans (hb.mono hnx.size)
          clear hc0 hc1 hc2 hc3
          go_wp2
          go_round
          case rel => exact ⟨k + 1, by omega, by go_num, by rw [HS.out]; omega, val_int (by rw [HS.out]; omega), hnx'⟩
          case measure => simp [intOf]; omega
        · go_wp2_with fail
          refine (szDirOp_any kd nm tn nd _ wr hkl hkt (by omega) (by omega)).mono ?_
          rintro e w' ⟨rfl, hb⟩
          rw [if_pos (by omega)]
          have hnx' := hnx.trans (hb.mono hnx.size)
          clear hc0 hc1 hc2 hc3
          go_wp2
          go_ret
          exact ⟨by rw [szRest_neg (by have := HS.out; have := HT.out; omega)]; rfl, hnx'⟩
      · have he : es.take k = es := List.take_of_length_le (by omega)
        rw [he] at hs ⊢
        clear he
        go_wp2
        go_ret
        exact ⟨by rw [szRest_pos hs]; exact congrArg Ending.returned (val_int (by omega)), hnx⟩
end Go.Proofs.Ytledlicandlekab
