import Derived.Test.YtokcdpamcbpaiabStrB
namespace Go.Proofs.Ytokcdpamcbpaiab
open Go.RowKit
theorem equal_any (a a' : Option Addr) (cap cap' : Nat) (l m : List Nat) (w : World) (hr : RowAt w a l) (hr' : RowAt w a' m) (hl : ∀ x ∈ l, x < 256) (hm : ∀ x ∈ m, x < 256) :
    Calls Try.prog 52 #[.slice a l.length cap, .slice a' m.length cap'] w fun e w' => e = .returned (.bool (decide (l = m))) ∧ w' = w := by
  have h1 := run_string_of w a cap l hr
  have h2 := run_string_of w a' cap' m hr'
  have h3 := hide (strB_beq hl hm)
  clear hr hr' hl hm
  generalize l.length = nl at h1 ⊢
  generalize m.length = nm at h2 ⊢
  generalize strB l = sl at h1 h3 ⊢
  generalize strB m = sm at h2 h3 ⊢
  go_enter Try.func52, Try.ntmps52
  go_wp2
  go_ret
  exact ⟨ret_bool h3.out, rfl⟩
theorem RowAt.take {w : World} {a : Option Addr} {l : List Nat} (h : RowAt w a l) (n : Nat) : RowAt w a (l.take n) := fun hp => by
  have hl : (l.take n).length ≤ l.length := by simp; omega
  obtain ⟨b, off, rfl, hc⟩ := h (by omega)
  exact ⟨b, off, rfl, fun i hi => by rw [hc i (by omega)]; simp⟩
theorem hasPrefix_any (a a' : Option Addr) (cap cap' : Nat) (l m : List Nat) (w : World) (hcap : l.length ≤ cap) (hr : RowAt w a l) (hr' : RowAt w a' m) (hl : ∀ x ∈ l, x < 256) (hm : ∀ x ∈ m, x < 256) :
    Calls Try.prog 43 #[.slice a l.length cap, .slice a' m.length cap'] w fun e w' => e = .returned (.bool (decide (l.take m.length = m))) ∧ w' = w := by
  by_cases hle : m.length ≤ l.length
  · have e1 : (l.take m.length).length = m.length := by simp; omega
    have hi : (m.length : Int) ≤ (cap : Int) := by omega
    have hi2 : (m.length : Int) ≤ (l.length : Int) := by omega
    have HE := hide (equal_any a a' cap cap' (l.take m.length) m w (hr.take _) hr' (fun x hx => hl x (List.mem_of_mem_take hx)) hm)
    rw [e1] at HE
    clear hr hr' hl hm e1
    go_enter Try.func43, Try.ntmps43
    go_wp2_with fail
    refine (HE.out).mono ?_
    rintro e w' ⟨rfl, rfl⟩
    go_wp2
    go_ret
    exact ⟨rfl, rfl⟩
  · have hd : decide (l.take m.length = m) = false := decide_eq_false fun e => by
      have := congrArg List.length e
      simp at this
      omega
    rw [hd]
    have hi2 : ¬ (m.length : Int) ≤ (l.length : Int) := by omega
    clear hr hr' hl hm
    go_enter Try.func43, Try.ntmps43
    go_wp2
    go_ret
    exact ⟨rfl, rfl⟩
theorem hasPrefix_n (a a' : Option Addr) (cap cap' n m' : Nat) (l m : List Nat) (w : World) (hn : l.length = n) (hm' : m.length = m') (hcap : n ≤ cap) (hr : RowAt w a l) (hr' : RowAt w a' m) (hl : ∀ x ∈ l, x < 256) (hm : ∀ x ∈ m, x < 256) :
    Calls Try.prog 43 #[.slice a n cap, .slice a' m' cap'] w fun e w' => e = .returned (.bool (decide (l.take m.length = m))) ∧ w' = w := by
  subst hn hm'; exact hasPrefix_any a a' cap cap' l m w hcap hr hr' hl hm
end Go.Proofs.Ytokcdpamcbpaiab
