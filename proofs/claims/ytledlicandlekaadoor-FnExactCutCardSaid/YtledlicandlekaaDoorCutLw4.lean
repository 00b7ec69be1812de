import Derived.Test.YtledlicandlekaaDoorCutLw3
import Derived.Test.YtledlicandlekaaDoorMarkB
namespace Go.Proofs.YtledlicandlekaaDoor
open Go.RowKit
/-- How many marks a unit takes, how it is marked from k on, and a list of units so marked. -/
def unK (u : UnitM) : Nat := u.1.length + u.2.1.length + 2
def mark1 (k : Nat) (u : UnitM) : UnitM := (marks k u.1.length, marks (k + u.1.length) u.2.1.length, decide ((k + u.1.length + u.2.1.length) % 3 = 0), decide ((k + u.1.length + u.2.1.length + 1) % 3 = 0))
def kAt (k : Nat) : List UnitM → Nat → Nat
  | _, 0 => k
  | [], _ => k
  | u :: r, i + 1 => kAt (k + unK u) r i
def mus (k : Nat) : List UnitM → List UnitM
  | [] => []
  | u :: r => mark1 k u :: mus (k + unK u) r
theorem mus_length : ∀ (k : Nat) (us : List UnitM), (mus k us).length = us.length
  | _, [] => rfl
  | k, u :: r => by rw [mus, List.length_cons, List.length_cons, mus_length]
theorem mus_at : ∀ (k : Nat) (us : List UnitM) (i : Nat) (h : i < us.length), (mus k us)[i]? = some (mark1 (kAt k us i) us[i])
  | k, u :: r, 0, _ => rfl
  | k, u :: r, i + 1, h => by rw [mus, List.getElem?_cons_succ, mus_at (k + unK u) r i (by simpa using h)]; rfl
  | _, [], i, h => by simp at h
theorem kAt_succ : ∀ (k : Nat) (us : List UnitM) (i : Nat) (h : i < us.length), kAt k us (i + 1) = kAt k us i + unK us[i]
  | k, u :: r, 0, _ => by cases r <;> rfl
  | k, u :: r, i + 1, h => by
    show kAt (k + unK u) r (i + 1) = kAt (k + unK u) r i + _
    rw [kAt_succ (k + unK u) r i (by simpa using h)]
    rfl
  | _, [], i, h => by simp at h
theorem kAt_le (k : Nat) (us : List UnitM) (i : Nat) (h : i ≤ us.length) : kAt k us i ≤ kAt k us us.length := by
  induction hn : us.length - i generalizing i with
  | zero => rw [show i = us.length from by omega]; exact Nat.le_refl _
  | succ n ih =>
    have h1 := ih (i + 1) (by omega) (by omega)
    rw [kAt_succ k us i (by omega)] at h1
    omega
set_option maxHeartbeats 1000000 in
theorem heldUnitS_any (a : Option Addr) (cap k : Nat) (us : List UnitM) (w : World) (hk : kAt k us us.length ≤ 4503599627370496) (hl : us.length ≤ 4503599627370496) (hr : UnAt w a (mus k us)) :
    Calls Tryd.prog 27 #[.slice a us.length cap, .int .i64 (k : Int)] w fun e w' => e = .returned (.int .i64 ((kAt k us us.length : Nat) : Int)) ∧ w' = w := by
  go_enter Tryd.func27, Tryd.ntmps27
  go_wp2
  go_loop [1, 5] (fun s i => ∃ j : Nat, j ≤ us.length ∧ i = .int .i64 j ∧ s = .int .i64 ((kAt k us j : Nat) : Int)) (fun _ i => us.length - (intOf i).toNat)
  case atStart => exact ⟨0, Nat.zero_le _, rfl, by cases us <;> rfl⟩
  case round =>
    obtain ⟨j, hj, rfl, rfl⟩ := hrel
    by_cases hlt : j < us.length
    · obtain ⟨b, off, rfl, hc⟩ := hr (by rw [mus_length]; omega)
      obtain ⟨ai, ci, pi, qi, hc0, hc1, hc2, hc3, hri, hsi⟩ := hc j (by rw [mus_length]; exact hlt)
      have hu : (mus k us)[j]'(by rw [mus_length]; exact hlt) = mark1 (kAt k us j) us[j] := by
        have := mus_at k us j hlt
        rw [List.getElem?_eq_getElem (by rw [mus_length]; exact hlt), Option.some.injEq] at this
        exact this
      rw [hu] at hc0 hc1 hc2 hc3 hri hsi
      have hkj := kAt_succ k us j hlt
      have hk1 := kAt_le k us (j + 1) (by omega)
      have HKJ := hide hkj
      rw [hkj] at hk1
      unfold unK at hk1
      unfold mark1 at hc0 hc1 hc2 hc3 hri hsi
      simp only [marks_length] at hc0 hc1 hc2 hc3
      simp only [] at hri hsi
      have HUL := hide (show unK us[j] = us[j].1.length + us[j].2.1.length + 2 from rfl)
      have HK := hide (Nat.le_trans hk1 hk)
      clear hu hc hr hkj hk1 hk
      generalize kAt k us j = K at hc0 hc1 hc2 hc3 hri hsi HKJ HK ⊢
      generalize us[j].1.length = L at hc0 hc1 hc2 hc3 hri hsi HUL HK
      generalize us[j].2.1.length = M at hc0 hc1 hc2 hc3 hri hsi HUL HK
      have hK := HK.out
      have H1 := hide (heldByteS_any ai ci K L w (by omega) (by omega) hri)
      have H2 := hide (heldByteS_any pi qi (K + L) M w (by omega) (by omega) hsi)
      clear hri hsi
      generalize hP : K + L = P at hc2 hc3 H1 H2
      generalize hR : P + M = R at hc2 hc3 H2
      have hP0 : ¬ (P : Int) < 0 := by omega
      have hR0 : ¬ (R : Int) < 0 := by omega
      have hRb : R ≤ 4503599627370496 := by omega
      have hb2 : decide (R % 3 = 0) = ((R : Int) % 3 == 0) := by rw [Bool.eq_iff_iff]; simp; omega
      have hb3 : decide ((R + 1) % 3 = 0) = (((R : Int) + 1) % 3 == 0) := by rw [Bool.eq_iff_iff]; simp; omega
      rw [hb2] at hc2
      rw [hb3] at hc3
      have HP := hide hP
      have HRR := hide hR
      clear hb2 hb3
      clear hP hR hK
      go_wp2_with fail
      refine H1.out.mono ?_
      rintro e w2 ⟨rfl, rfl⟩
      go_wp2_with fail
      refine H2.out.mono ?_
      rintro e w3 ⟨rfl, rfl⟩
      go_wp2
      go_round
      case rel => exact ⟨j + 1, by omega, by go_num, val_int (by have h1 := HKJ.out; have h2 := HUL.out; have h4 := HP.out; have h5 := HRR.out; omega)⟩
      case measure => simp [intOf]; omega
    · obtain rfl : j = us.length := by omega
      go_wp2
      go_ret
      exact ⟨rfl, rfl⟩
end Go.Proofs.YtledlicandlekaaDoor
