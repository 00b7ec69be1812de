import Derived.Test.YtokcdpamcbpaiabDrawQ
import Derived.Test.YtokcdpamcbpaiabAppBlk
namespace Go.Proofs.Ytokcdpamcbpaiab
open Go.RowKit
def MorePost (w : World) (e : Ending) (w' : World) : Prop := ∃ b : Bool, e = .returned (.bool b) ∧ ∃ n, w' = w.drewN n
theorem more_any (p : Nat) (a : Option Addr) (cap : Nat) (code : List Nat) (i : Nat) (w : World) (hl : code.length ≤ 1048576) (hrd : Rd w p (.slice a code.length cap) code i) :
    Calls Try.prog 28 #[.pointer (some ⟨p, 0, none⟩)] w (MorePost w) := by
  have c0 := hrd.c0
  have c1 := hrd.c1
  have hm : min i code.length ≤ 1048576 := by omega
  generalize min i code.length = q at c1 hm
  clear hrd
  go_enter Try.func28, Try.ntmps28
  go_wp2
  go_quiet (fail)
  go_wp2
  go_ret
  exact ⟨_, rfl, _, rfl⟩
/-- The bodies on their way. -/
def QD (w wr : World) (cv : Value) (code : List Nat) (v : Value) (n : Nat) : Prop := ∃ l j, OwnB wr (w.heap.size + 1) v l ∧ l.length ≤ n ∧ (∀ x ∈ l, x < 256) ∧ Rd wr w.heap.size cv code j ∧ Below w.heap.size w wr ∧ w.heap.size + 1 ≤ wr.heap.size
theorem QD.drew {w wr : World} {cv : Value} {code : List Nat} {v : Value} {n : Nat} (h : QD w wr cv code v n) (k : Nat) : QD w (wr.drewN k) cv code v n := by
  obtain ⟨l, j, h1, h2, h3, h4, h5, h6⟩ := h
  have hb := below_drewN (Below.refl wr.heap.size wr) k
  exact ⟨l, j, h1.below hb (Nat.le_refl _), h2, h3, h4.below hb h4.lt, below_drewN h5 k, h6⟩
theorem QD.step {w wr w2 w3 : World} {cv : Value} {code : List Nat} {v v2 v3 : Value} {n : Nat} {l l2 : List Nat} {j : Nat} (_h1 : OwnB wr (w.heap.size + 1) v l) (h2 : l.length ≤ n) (h3 : ∀ x ∈ l, x < 256) (h5 : Below w.heap.size w wr) (h6 : w.heap.size + 1 ≤ wr.heap.size)
    (k2 : l2.length ≤ 60) (k3 : ∀ x ∈ l2, x < 256) (k4 : Rd w2 w.heap.size cv code j) (k5 : wr.grownBy w2 (some w.heap.size)) (h1' : OwnB w2 (w.heap.size + 1) v l) (o3 : OwnB w3 (w.heap.size + 1) v3 (l ++ l2)) (g3 : w2.grownBy w3 v.ownBlock) (_ : v2 = v2) : QD w w3 cv code v3 (n + 60) := by
  have hs := k5.size
  have hs3 := g3.size
  refine ⟨l ++ l2, j, o3, by rw [List.length_append]; omega, fun x hx => (List.mem_append.1 hx).elim (h3 x) (k3 x), k4.grown g3 (fun e => by have := (World.ownsRow.lt h1' _ e.symm).1; omega), ?_, by omega⟩
  exact (h5.grown k5 (by omega) (fun k e => by simp at e; omega)).grown g3 (by omega) (fun k e => by have := (World.ownsRow.lt h1' k e).1; omega)
set_option maxRecDepth 20000 in
set_option maxHeartbeats 2000000 in
theorem drawQuote_any (a : Option Addr) (cap : Nat) (code : List Nat) (w : World) (hl : code.length ≤ 1048576) (hr : RowAt w a code) (hb : ∀ x ∈ code, x < 256) :
    Calls Try.prog 13 #[.slice a code.length cap] w fun e w' => ∃ v l, e = .returned v ∧ OwnB w' w.heap.size v l ∧ l.length ≤ 2400 ∧ (∀ x ∈ l, x < 256) ∧ Below w.heap.size w w' := by
  have hrd0 : Rd (w.alloc (.cells #[.slice a code.length cap, .int .i64 0] 49)) w.heap.size (.slice a code.length cap) code 0 := by
    have h := heap_alloc_new w (.cells #[.slice a code.length cap, .int .i64 0] 49)
    unfold Rd
    rw [h]
    simp
  have hb0 : Below w.heap.size w (w.alloc (.cells #[.slice a code.length cap, .int .i64 0] 49)) := (Below.refl _ _).alloc (Nat.le_refl _) _
  have HQ0 := hide (show QD w (w.alloc (.cells #[.slice a code.length cap, .int .i64 0] 49)) (.slice a code.length cap) code (.slice none 0 0) (0 * 60) from ⟨[], 0, OwnB.nil _ _, Nat.zero_le _, (fun x h => by cases h), hrd0, hb0, by simp⟩)
  have HR := hide hr
  have HB := hide hb
  clear hrd0 hb0 hr hb
  go_enter Try.func13, Try.ntmps13
  go_wp2
  generalize w.alloc (.cells #[.slice a code.length cap, .int .i64 0] 49) = W1 at HQ0 ⊢
  go_loopw [3, 5] (fun v n wr => ∃ k : Nat, k ≤ 40 ∧ n = .int .i64 (k : Int) ∧ QD w wr (.slice a code.length cap) code v (k * 60)) (fun _ n _ => 40 - (intOf n).toNat)
  case atStart => exact ⟨0, by omega, rfl, HQ0.out⟩
  case round =>
    obtain ⟨k, hk, rfl, hq⟩ := hrel
    clear HQ0
    have HFIN := hide (show ∀ W, QD w W (.slice a code.length cap) code u3 (k * 60) → ∃ v l, Ending.returned u3 = .returned v ∧ OwnB W w.heap.size v l ∧ l.length ≤ 2400 ∧ (∀ x ∈ l, x < 256) ∧ Below w.heap.size w W from fun W h => by
      obtain ⟨l, j, h1, h2, h3, _, h5, _⟩ := h
      exact ⟨u3, l, rfl, h1.mono (by omega), by omega, h3, h5⟩)
    have body : Hid (∀ W, QD w W (.slice a code.length cap) code u3 (k * 60) → Calls Try.prog 29 #[.pointer (some ⟨w.heap.size, 0, none⟩)] W fun e w2 => ∃ (a2 : Option Addr) (c2 : Nat) (l l2 : List Nat), e = .returned (.slice a2 l2.length c2) ∧ OwnB w2 (w.heap.size + 1) u3 l ∧ RowAt w2 a2 l2 ∧ l.length ≤ 2400 ∧ l2.length ≤ 60 ∧ w.heap.size + 1 ≤ w2.heap.size ∧ ∀ v3 w3, OwnB w3 (w.heap.size + 1) v3 (l ++ l2) → w2.grownBy w3 u3.ownBlock → QD w w3 (.slice a code.length cap) code v3 ((k + 1) * 60)) := fun W h => by
      obtain ⟨l, j, h1, h2, h3, h4, h5, h6⟩ := h
      refine (l3Body_any w.heap.size a cap code j w W hl HR.out h5 (Nat.le_refl _) HB.out h4).mono ?_
      rintro e w2 ⟨v2, rfl, l2, j2, k1, k2, k3, k4, k5⟩
      obtain ⟨a2, c2, rfl⟩ := k1.slice
      have h1' : OwnB w2 (w.heap.size + 1) u3 l := World.ownsRow.kept h1 k5 (own_ne h1 (by omega))
      refine ⟨a2, c2, l, l2, rfl, h1', k1.row, by omega, k2, Nat.le_trans h6 k5.size, fun v3 w3 o3 g3 => ?_⟩
      rw [Nat.add_mul, Nat.one_mul]
      exact QD.step (v2 := u3) h1 h2 h3 h5 h6 k2 k3 k4 k5 h1' o3 g3 rfl
    have HQ := hide hq
    clear hq
    by_cases hk4 : k < 40
    · by_cases hk0 : k = 0
      · subst hk0
        go_wp2_with fail
        refine (body.out _ HQ.out).mono ?_
        rintro e w2 ⟨a2, c2, l, l2, rfl, o1, r2, z1, z2, z3, hstep⟩
        have HST := hide hstep
        have HO1 := hide o1
        have HR2 := hide r2
        clear hstep o1 r2 body HQ HFIN
        go_wp2_with (at_builtin; refine wpList_append_blk _ rfl (.tmp 21) (.tmp 23) rfl (w.heap.size + 1) u3 l l2 rfl HO1.out a2 c2 rfl HR2.out (by omega) z3 ?_; intro v3 w3 o3 g3 _)
        go_roundw
        case rel => exact ⟨1, by omega, by go_num, HST.out _ _ o3 g3⟩
        case measure => simp [intOf]
      · have hki : (k : Int) < 40 := by omega
        have hkz : ((k : Int) == 0) = false := by simp; omega
        obtain ⟨l0, j0, g1, g2, g3, g4, g5, g6⟩ := HQ.out
        have HM := hide (more_any w.heap.size a cap code j0 wr hl g4)
        clear g1 g2 g3 g4 g5 g6
        go_wp2_with fail
        refine (HM.out).mono ?_
        rintro e wm ⟨b, rfl, n, rfl⟩
        have HQ2 := hide (HQ.out.drew n)
        generalize wr.drewN n = wm at HQ2 ⊢
        clear HM
        cases b with
        | false =>
          go_wp2
          go_ret
          exact HFIN.out _ HQ2.out
        | true =>
          go_wp2_with fail
          refine (body.out _ HQ2.out).mono ?_
          rintro e w2 ⟨a2, c2, l, l2, rfl, o1, r2, z1, z2, z3, hstep⟩
          have HST := hide hstep
          have HO1 := hide o1
          have HR2 := hide r2
          clear hstep o1 r2 body HQ HFIN
          go_wp2_with (at_builtin; refine wpList_append_blk _ rfl (.tmp 21) (.tmp 23) rfl (w.heap.size + 1) u3 l l2 rfl HO1.out a2 c2 rfl HR2.out (by omega) z3 ?_; intro v3 w3 o3 g3 _)
          go_roundw
          case rel => exact ⟨k + 1, by omega, by go_num, HST.out _ _ o3 g3⟩
          case measure => simp [intOf]; omega
    · obtain rfl : k = 40 := by omega
      go_wp2
      go_ret
      exact HFIN.out _ HQ.out
end Go.Proofs.Ytokcdpamcbpaiab
