import Derived.Test.YtknnpgffdbkfnaaLists
import Derived.Test.YtknnpgffdbkfnaaBytes
namespace Go.Proofs.Ytknnpgffdbkfnaa
open Go.RowKit
/-- The list that is being filled: k rows stand, the others are still nil. -/
def Filling (w : World) (B n k : Nat) (ls : List (List Nat)) : Prop :=
  ∃ vs : List Value, vs.length = k ∧ w.ownsRow B 24 1 (.slice (some ⟨B, 0, none⟩) n n) n (vs ++ List.replicate (n - k) (.slice none 0 0)) ∧ (∀ i (_ : i < k) (h : i < ls.length), ∃ x, vs[i]? = some x ∧ OwnB w B x ls[i]) ∧ vs.Pairwise fun x y => x.ownBlock = none ∨ x.ownBlock ≠ y.ownBlock
theorem Filling.keep {w w' : World} {B n k : Nat} {ls : List (List Nat)} (h : Filling w B n k ls) (hk : ∀ g, B ≤ g → g < w.heap.size → w'.heap[g]? = w.heap[g]?) : Filling w' B n k ls := by
  obtain ⟨vs, h0, h1, h2, h3⟩ := h
  refine ⟨vs, h0, own_keep h1 hk, fun i hik hi => ?_, h3⟩
  obtain ⟨x, hx, ho⟩ := h2 i hik hi
  exact ⟨x, hx, own_keep ho hk⟩
theorem set_next {α : Type} (vs : List α) (z x : α) (n k : Nat) (hk : k < n) (hv : vs.length = k) : (vs ++ List.replicate (n - k) z).set k x = (vs ++ [x]) ++ List.replicate (n - (k + 1)) z := by
  rw [List.set_append_right _ _ (by omega), hv, Nat.sub_self, show n - k = (n - (k + 1)) + 1 from by omega, List.replicate_succ, List.set_cons_zero]
  simp
theorem Filling.next {wo w : World} {B n k : Nat} {ls : List (List Nat)} {x : Value} (hf : Filling wo B n k ls) (hb : Below wo.heap.size wo w) (hkn : k < n) (hk : k < ls.length) (hx : OwnB w B x ls[k]) (hg : x.ownBlock = some wo.heap.size) :
    Filling (w.setCell ⟨B, k, none⟩ x) B n (k + 1) ls := by
  have hlow : ∀ i (_ : i < k) (h : i < ls.length) y, OwnB wo B y ls[i] → y.ownBlock ≠ x.ownBlock := by
    intro i _ h y hy e
    have := (World.ownsRow.lt hy _ (e.trans hg)).2
    omega
  obtain ⟨vs0, k0, k1, k2, k3⟩ := hf
  have h1 := own_keep k1 (w' := w) fun g _ hg => hb.block g hg
  have h2 : ∀ i (_ : i < k) (h : i < ls.length), ∃ y, vs0[i]? = some y ∧ OwnB w B y ls[i] ∧ y.ownBlock ≠ x.ownBlock := by
    intro i hik hi
    obtain ⟨y, hy, ho⟩ := k2 i hik hi
    exact ⟨y, hy, own_keep ho fun g _ hg => hb.block g hg, hlow i hik hi y ho⟩
  have h0 := k0
  have h3 := k3
  have hst := World.ownsRow.stored h1 k x
  have hBx : ∀ y l, OwnB w B y l → y.ownBlock ≠ some B := by
    intro y l hy e
    rcases inner_ne_outer hy h1 (by decide) with h | h
    · rw [h] at e; cases e
    · exact h e
  refine ⟨vs0 ++ [x], by simp [h0], ?_, fun i hik hi => ?_, ?_⟩
  · rw [← set_next vs0 _ x n k hkn h0]; exact hst.1
  · by_cases e : i = k
    · subst e
      exact ⟨x, by rw [List.getElem?_append_right (by omega)]; simp [h0], ownsRow_setCell_other hx (hBx _ _ hx) _⟩
    · obtain ⟨y, hy, ho, _⟩ := h2 i (by omega) hi
      exact ⟨y, by rw [List.getElem?_append_left (by omega)]; exact hy, ownsRow_setCell_other ho (hBx _ _ ho) _⟩
  · rw [List.pairwise_append]
    refine ⟨h3, by simp, fun y hy z hz => ?_⟩
    obtain rfl : z = x := by simpa using hz
    obtain ⟨i, hi, rfl⟩ := List.getElem_of_mem hy
    obtain ⟨y', hy', ho, hne⟩ := h2 i (by omega) (by omega)
    rw [List.getElem?_eq_getElem hi] at hy'
    simp only [Option.some.injEq] at hy'
    subst hy'
    exact .inr hne
theorem Filling.cell {w : World} {B n k : Nat} {ls : List (List Nat)} (h : Filling w B n k ls) (hk : k < n) : w.cell? ⟨B, k, none⟩ = some (.slice none 0 0) ∧ w.frozen? ⟨B, k, none⟩ = false := by
  obtain ⟨vs, h0, h1, _⟩ := h
  refine ⟨?_, World.ownsRow.frozenAt h1 k⟩
  rw [World.ownsRow.cellAt h1 k (by omega), List.getElem?_append_right (by omega), h0, Nat.sub_self, show n - k = (n - (k + 1)) + 1 from by omega, List.replicate_succ]; rfl
theorem Filling.done {w : World} {B : Nat} {ls : List (List Nat)} (h : Filling w B ls.length ls.length ls) : OwnBB w B (.slice (some ⟨B, 0, none⟩) ls.length ls.length) ls := by
  obtain ⟨vs, _, h1, h2, h3⟩ := h
  refine ⟨vs, by simpa using h1, fun i hi => h2 i hi hi, h3⟩
theorem toByteSS_any (a : Option Addr) (cap : Nat) (ls : List (List Nat)) (w : World) (hl : ls.length ≤ 1048576) (hls : ∀ l ∈ ls, l.length ≤ 1048576) (hr : RowsAt w a ls) :
    Calls Try.prog 8 #[.slice a ls.length cap] w fun e w' => e = .returned (.slice (some ⟨w.heap.size, 0, none⟩) ls.length ls.length) ∧ OwnBB w' w.heap.size (.slice (some ⟨w.heap.size, 0, none⟩) ls.length ls.length) ls ∧ Below w.heap.size w w' := by
  obtain ⟨i0, hi, hz0, hz1, hz2⟩ := info_parts Try.info24
  go_enter Try.func8, Try.ntmps8
  go_wp2_with (at_make; refine wpList_make_full _ rfl _ _ 22 rfl w.heap.size 24 i0 (.slice none 0 0) 1 Try.underlying22 hi hz0 hz1 .i64 .i64 _ _ ls.length rfl rfl rfl rfl (by rw [hz2]; omega) (by unfold maxLen; omega) (Nat.le_refl _) ?_; intro w1 hown hgrow)
  have hbel : Below w.heap.size w w1 := (Below.refl _ _).grown hgrow (Nat.le_refl _) (fun k h => by cases h)
  have hfill : Filling w1 w.heap.size ls.length 0 ls := by
    refine ⟨[], rfl, ?_, fun i h => by omega, List.Pairwise.nil⟩
    have e : (madeCells (Value.slice none 0 0).cells (ls.length * 1)).toList = List.replicate ls.length (.slice none 0 0) := by rw [Nat.mul_one]; exact toList_madeCells_one _ _
    rw [e] at hown; exact hown
  clear hown hgrow hi hz0 hz1 hz2
  go_loopw [4] (fun i wr => ∃ k : Nat, k ≤ ls.length ∧ i = .int .i64 k ∧ Filling wr w.heap.size ls.length k ls ∧ Below w.heap.size w wr) (fun i _ => ls.length - (intOf i).toNat)
  case atStart => exact ⟨0, Nat.zero_le _, rfl, hfill, hbel⟩
  case round =>
    obtain ⟨k, hk, rfl, hf, hnx⟩ := hrel
    clear hfill hbel
    by_cases hlt : k < ls.length
    · obtain ⟨b, off, rfl, hc⟩ := (hr.below hnx) (by omega)
      obtain ⟨ai, ci, hck, hri⟩ := hc k hlt
      have hkl := hls _ (List.getElem_mem hlt)
      clear hc hr hls
      go_wp2_with fail
      refine (toByteS_any ai ci ls[k] wr hkl hri).mono ?_
      rintro e w2 ⟨rfl, ho2, hb2⟩
      have hf2 : Filling w2 w.heap.size ls.length k ls := hf.keep fun g _ hg => hb2.block g hg
      obtain ⟨hcell, hfz⟩ := hf2.cell hlt
      have hB : w.heap.size ≤ wr.heap.size := hnx.size
      have hn2 : Filling (w2.setCell ⟨w.heap.size, k, none⟩ (.slice (some ⟨wr.heap.size, 0, none⟩) ls[k].length ls[k].length)) w.heap.size ls.length (k + 1) ls :=
        hf.next hb2 hlt hlt (ho2.mono hB) rfl
      have HX : Hid (Filling (w2.setCell ⟨w.heap.size, k, none⟩ (.slice (some ⟨wr.heap.size, 0, none⟩) ls[k].length ls[k].length)) w.heap.size ls.length (k + 1) ls ∧ Below w.heap.size w (w2.setCell ⟨w.heap.size, k, none⟩ (.slice (some ⟨wr.heap.size, 0, none⟩) ls[k].length ls[k].length))) :=
        ⟨hn2, (hnx.trans (hb2.mono hB)).setCell (Nat.le_refl _) _⟩
      clear hn2 hf2 ho2 hb2 hf hnx hri
      go_wp2
      go_roundw
      case rel => exact ⟨k + 1, by omega, by go_num, HX.out.1, HX.out.2⟩
      case measure => simp [intOf]; omega
    · obtain rfl : k = ls.length := by omega
      go_wp2
      go_ret
      exact ⟨rfl, hf.done, hnx⟩
theorem eqByteSS_any (a a' : Option Addr) (cap cap' : Nat) (ls ms : List (List Nat)) (w : World) (hl : ls.length ≤ 9223372036854775807) (hls : ∀ l ∈ ls, l.length ≤ 9223372036854775807) (hr : RowsAt w a ls) (hr' : RowsAt w a' ms) :
    Calls Try.prog 11 #[.slice a ls.length cap, .slice a' ms.length cap'] w fun e w' => e = .returned (.bool (decide (ls = ms))) ∧ ∃ n, w' = w.drewN n := by
  by_cases hlen : ls.length = ms.length
  · have hne : ((ls.length : Int) != (ms.length : Int)) = false := by simp; omega
    have HL : Hid (ls.length = ms.length) := hlen
    clear hlen
    go_enter Try.func11, Try.ntmps11
    go_wp2
    go_loopw [5] (fun i wr => ∃ k : Nat, k ≤ ls.length ∧ i = .int .i64 k ∧ ls.take k = ms.take k ∧ ∃ n, wr = w.drewN n) (fun i _ => ls.length - (intOf i).toNat)
    case atStart => exact ⟨0, Nat.zero_le _, rfl, rfl, 0, rfl⟩
    case round =>
      obtain ⟨k, hk, rfl, htk, hdr⟩ := hrel
      have HD : Hid (∃ n, wr = w.drewN n) := hdr
      have hrr : RowsAt wr a ls := by obtain ⟨n, rfl⟩ := hdr; exact hr.drew n
      have hrr' : RowsAt wr a' ms := by obtain ⟨n, rfl⟩ := hdr; exact hr'.drew n
      clear hdr hr hr'
      by_cases hlt : k < ls.length
      · have hlt' : k < ms.length := by have := HL.out; omega
        obtain ⟨b, off, rfl, hc⟩ := hrr (by omega)
        obtain ⟨b', off', rfl, hc'⟩ := hrr' (by omega)
        obtain ⟨ai, ci, hck, hri⟩ := hc k hlt
        obtain ⟨ai', ci', hck', hri'⟩ := hc' k hlt'
        have hkl := hls _ (List.getElem_mem hlt)
        have HT : Hid (ls.take k = ms.take k) := htk
        clear hc hc' htk hrr hrr' hls
        by_cases hx : ls[k] = ms[k]
        · have hxe : decide (ls[k] = ms[k]) = true := by simp [hx]
          have HX : Hid (ls[k] = ms[k]) := hx
          clear hx
          go_wp2
          go_quiet ((go_at_call 10; exact Calls.quiet_of (eqByteS_any ai ai' ci ci' ls[k] ms[k] _ hkl (hri.drew _) (hri'.drew _))))
          go_wp2
          go_roundw
          case rel => exact ⟨k + 1, by omega, by go_num, by rw [List.take_succ_eq_append_getElem hlt, List.take_succ_eq_append_getElem hlt', HT.out, HX.out], drew_more HD.out _⟩
          case measure => simp [intOf]; omega
        · have hxe : decide (ls[k] = ms[k]) = false := by simp [hx]
          have HX : Hid (¬ ls[k] = ms[k]) := hx
          clear hx
          go_wp2
          go_quiet ((go_at_call 10; exact Calls.quiet_of (eqByteS_any ai ai' ci ci' ls[k] ms[k] _ hkl (hri.drew _) (hri'.drew _))))
          go_wp2
          go_ret
          exact ⟨ret_bool (decide_eq_false (fun h => HX.out (by subst h; rfl))).symm, drew_more HD.out _⟩
      · go_wp2
        go_ret
        have he : ls = ms := by
          have h1 : ls.take k = ls := List.take_of_length_le (by omega)
          have h2 : ms.take k = ms := List.take_of_length_le (by have := HL.out; omega)
          rw [← h1, ← h2, htk]
        exact ⟨ret_bool (decide_eq_true he).symm, HD.out⟩
  · have hne : ((ls.length : Int) != (ms.length : Int)) = true := by simp; omega
    go_enter Try.func11, Try.ntmps11
    go_wp2
    go_ret
    exact ⟨ret_bool (decide_eq_false (fun h => hlen (by rw [h]))).symm, 0, rfl⟩
end Go.Proofs.Ytknnpgffdbkfnaa
