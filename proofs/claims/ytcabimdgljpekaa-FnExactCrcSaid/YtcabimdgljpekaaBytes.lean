import Derived.Test.YtcabimdgljpekaaSpecCrc
import Derived.Deep.QuietTactic
import Derived.BigQuiet
namespace Go.Proofs.Ytcabimdgljpekaa
open Go.RowKit
def bv (x : Nat) : Value := .int .u8 (x : Int)
/-- Block g is a row of just the bytes 'l'. -/
def Own (w : World) (g : Nat) (l : List Nat) : Prop := w.heap[g]? = some (.cells (l.map bv).toArray 5 (0, 0))
theorem Own.below {B : Nat} {w w' : World} {g : Nat} {l : List Nat} (h : Own w g l) (hb : Below B w w') (hg : g < B) : Own w' g l := (hb.block g hg).trans h
theorem Own.lt {w : World} {g : Nat} {l : List Nat} (h : Own w g l) : g < w.heap.size := lt_of_block h
theorem Own.row {w : World} {g : Nat} {l : List Nat} (h : Own w g l) : RowAt w (some ⟨g, 0, none⟩) l := fun _ => ⟨g, 0, rfl, fun i hi => by
  rw [Nat.zero_add, cell_of_row w g i _ 5 (0, 0) h]; simp [hi, bv]⟩
theorem lt_of_cell0 {w : World} {a : Addr} {v : Value} (h : w.cell? a = some v) : a.block < w.heap.size := by
  rcases Nat.lt_or_ge a.block w.heap.size with h' | h'
  · exact h'
  · simp [World.cell?, Array.getElem?_eq_none h'] at h
theorem RowAt.below {w w' : World} {a : Option Addr} {l : List Nat} (h : RowAt w a l) (hb : Below w.heap.size w w') : RowAt w' a l := fun hp => by
  obtain ⟨b, off, rfl, hc⟩ := h hp
  exact ⟨b, off, rfl, fun i hi => by rw [hb.cell (p := ⟨b, off + i, none⟩) (lt_of_cell0 (hc i hi))]; exact hc i hi⟩
theorem own_of_row {w : World} {B g n : Nat} {xs : List Value} {l : List Nat} (h : w.ownsRow B 5 1 (.slice (some ⟨g, 0, none⟩) n n) n xs) (hx : xs = l.map bv) (hn : n = l.length) : Own w g l := by
  subst hx; subst hn
  rcases h.2 with ⟨h', _⟩ | ⟨g', cap', cur, h', _, hg, _, _, hs, htake⟩
  · simp at h'
  · simp only [Value.slice.injEq, Option.some.injEq, Addr.mk.injEq, and_true, true_and] at h'
    obtain ⟨rfl, rfl⟩ := h'
    have : cur = (l.map bv).toArray := by
      apply Array.toList_inj.1
      rw [← htake, List.take_of_length_le (by simp [hs])]
    unfold Own; rw [← this]; exact hg
/-- What toByteS has written behind k rounds. -/
def half (l : List Nat) (k : Nat) : List Value := (l.take k).map bv ++ List.replicate (l.length - k) (bv 0)
theorem half_zero (l : List Nat) : half l 0 = List.replicate l.length (bv 0) := by simp [half]
theorem half_len (l : List Nat) : half l l.length = l.map bv := by simp [half]
theorem half_set (l : List Nat) (k : Nat) (h : k < l.length) : (half l k).set k (bv l[k]) = half l (k + 1) := by
  unfold half
  rw [List.set_append_right _ _ (by simp; omega)]
  have e : k - ((l.take k).map bv).length = 0 := by simp; omega
  rw [e, show l.length - k = (l.length - (k + 1)) + 1 from by omega, List.replicate_succ, List.set_cons_zero, List.take_succ_eq_append_getElem h]
  simp only [List.map_append, List.map_cons, List.map_nil, List.append_assoc, List.cons_append, List.nil_append]
theorem half_at (l : List Nat) (k : Nat) (h : k < l.length) : (half l k)[k]? = some (bv 0) := by
  unfold half
  rw [List.getElem?_append_right (by simp; omega)]
  have e : k - ((l.take k).map bv).length = 0 := by simp; omega
  rw [e, show l.length - k = (l.length - (k + 1)) + 1 from by omega, List.replicate_succ]; rfl
theorem Try.info5 : (Try.prog.info? 5).map (fun i => (i.zero, i.size, i.bytes)) = some (some (.int .u8 0), 1, 1) := by kernel_rfl
theorem toByteS_any (a : Option Addr) (cap : Nat) (l : List Nat) (w : World) (hl : l.length ≤ 1048576) (hr : RowAt w a l) :
    Calls Try.prog 5 #[.slice a l.length cap] w fun e w' => e = .returned (.slice (some ⟨w.heap.size, 0, none⟩) l.length l.length) ∧ Own w' w.heap.size l ∧ Below w.heap.size w w' := by
  obtain ⟨i0, hi, hz0, hz1, hz2⟩ := info_parts Try.info5
  go_enter Try.func5, Try.ntmps5
  go_wp2_with (at_make; refine wpList_make_full _ rfl _ _ 22 rfl w.heap.size 5 i0 (.int .u8 0) 1 Try.underlying22 hi hz0 hz1 .i64 .i64 _ _ l.length rfl rfl rfl rfl (by rw [hz2]; omega) (by unfold maxLen; omega) (Nat.le_refl _) ?_; intro w1 hown hgrow)
  have hbel : Below w.heap.size w w1 := (Below.refl _ _).grown hgrow (Nat.le_refl _) (fun k h => by cases h)
  have hown' : w1.ownsRow w.heap.size 5 1 (.slice (some ⟨w.heap.size, 0, none⟩) l.length l.length) l.length (half l 0) := by
    rw [half_zero]
    have e : (madeCells (Value.int .u8 0).cells (l.length * 1)).toList = List.replicate l.length (bv 0) := by rw [Nat.mul_one]; exact toList_madeCells_one _ _
    rw [e] at hown; exact hown
  clear hown hgrow
  go_loopw [4] (fun i wr => ∃ k : Nat, k ≤ l.length ∧ i = .int .i64 k ∧ wr.ownsRow w.heap.size 5 1 (.slice (some ⟨w.heap.size, 0, none⟩) l.length l.length) l.length (half l k) ∧ Below w.heap.size w wr) (fun i _ => l.length - (intOf i).toNat)
  case atStart => exact ⟨0, Nat.zero_le _, rfl, hown', hbel⟩
  case round =>
    obtain ⟨k, hk, rfl, hown, hnx⟩ := hrel
    clear hown' hbel
    by_cases hlt : k < l.length
    · obtain ⟨b, off, rfl, hc⟩ := hr (by omega)
      have hck : wr.cell? ⟨b, off + k, none⟩ = some (.int .u8 ((l[k] : Nat) : Int)) := (hnx.cell (p := ⟨b, off + k, none⟩) (lt_of_cell0 (hc k hlt))).trans (hc k hlt)
      have hcell : wr.cell? ⟨w.heap.size, k, none⟩ = some (.int .u8 0) := (hown.cellAt k (by omega)).trans (half_at l k hlt)
      have hfz := hown.frozenAt k
      have hst := (hown.stored k (bv l[k])).1
      rw [half_set l k hlt] at hst
      have hb2 : Below w.heap.size w (wr.setCell ⟨w.heap.size, k, none⟩ (bv l[k])) := hnx.setCell (Nat.le_refl _) _
      have HX : Hid ((wr.setCell ⟨w.heap.size, k, none⟩ (bv l[k])).ownsRow w.heap.size 5 1 (.slice (some ⟨w.heap.size, 0, none⟩) l.length l.length) l.length (half l (k + 1)) ∧ Below w.heap.size w (wr.setCell ⟨w.heap.size, k, none⟩ (bv l[k]))) := ⟨hst, hb2⟩
      clear hst hb2 hown hnx hc
      go_wp2
      go_roundw
      case rel => exact ⟨k + 1, by omega, by go_num, HX.out.1, HX.out.2⟩
      case measure => simp [intOf]; omega
    · obtain rfl : k = l.length := by omega
      go_wp2
      go_ret
      exact ⟨rfl, own_of_row hown (half_len l) rfl, hnx⟩
theorem ret_bool {a b : Bool} (h : a = b) : Ending.returned (.bool a) = .returned (.bool b) := by rw [h]
theorem take_eq_succ {l m : List Nat} {k : Nat} (h1 : k < l.length) (h2 : k < m.length) (h : l.take k = m.take k) (he : l[k] = m[k]) : l.take (k + 1) = m.take (k + 1) := by
  rw [List.take_succ_eq_append_getElem h1, List.take_succ_eq_append_getElem h2, h, he]
theorem ne_of_at {l m : List Nat} {k : Nat} (h1 : k < l.length) (h2 : k < m.length) (he : ¬ l[k] = m[k]) : ¬ l = m := fun h => he (by subst h; rfl)
theorem eqByteS_any (a a' : Option Addr) (cap cap' : Nat) (l m : List Nat) (w : World) (hl : l.length ≤ 9223372036854775807) (hr : RowAt w a l) (hr' : RowAt w a' m) :
    Calls Try.prog 7 #[.slice a l.length cap, .slice a' m.length cap'] w fun e w' => e = .returned (.bool (decide (l = m))) ∧ Below w.heap.size w w' := by
  by_cases hlen : l.length = m.length
  · have hne : ((l.length : Int) != (m.length : Int)) = false := by simp; omega
    have HL : Hid (l.length = m.length) := hlen
    clear hlen
    go_enter Try.func7, Try.ntmps7
    go_wp2
    go_loopw [5] (fun i wr => ∃ k : Nat, k ≤ l.length ∧ i = .int .i64 k ∧ l.take k = m.take k ∧ Below w.heap.size w wr) (fun i _ => l.length - (intOf i).toNat)
    case atStart => exact ⟨0, Nat.zero_le _, rfl, rfl, Below.refl _ _⟩
    case round =>
      obtain ⟨k, hk, rfl, htk, hnx⟩ := hrel
      by_cases hlt : k < l.length
      · obtain ⟨b, off, rfl, hc⟩ := (hr.below hnx) (by omega)
        obtain ⟨b', off', rfl, hc'⟩ := (hr'.below hnx) (by have := HL.out; omega)
        have hlt' : k < m.length := by have := HL.out; omega
        have hck := hc k hlt
        have hck' := hc' k hlt'
        have HT : Hid (l.take k = m.take k) := htk
        clear hc hc' htk hr hr'
        by_cases hx : l[k] = m[k]
        · have hxe : (((l[k] : Nat) : Int) != ((m[k] : Nat) : Int)) = false := by simp [hx]
          have HX : Hid (l[k] = m[k]) := hx
          clear hx
          go_wp2
          go_quiet (fail)
          go_wp2
          go_roundw
          case rel => exact ⟨k + 1, by omega, by go_num, take_eq_succ hlt hlt' HT.out HX.out, by first | exact hnx | exact below_drewN hnx _⟩
          case measure => simp [intOf]; omega
        · have hxe : (((l[k] : Nat) : Int) != ((m[k] : Nat) : Int)) = true := by simp; omega
          have HX : Hid (¬ l[k] = m[k]) := hx
          clear hx
          go_wp2
          go_quiet (fail)
          go_wp2
          go_ret
          exact ⟨ret_bool (decide_eq_false (ne_of_at hlt hlt' HX.out)).symm, by first | exact hnx | exact below_drewN hnx _⟩
      · go_wp2
        go_ret
        have he : l = m := by
          have h1 : l.take k = l := List.take_of_length_le (by omega)
          have h2 : m.take k = m := List.take_of_length_le (by have := HL.out; omega)
          rw [← h1, ← h2, htk]
        exact ⟨ret_bool (decide_eq_true he).symm, hnx⟩
  · have hne : ((l.length : Int) != (m.length : Int)) = true := by simp; omega
    go_enter Try.func7, Try.ntmps7
    go_wp2
    go_ret
    exact ⟨ret_bool (decide_eq_false (fun h => hlen (by rw [h]))).symm, Below.refl _ _⟩
end Go.Proofs.Ytcabimdgljpekaa
