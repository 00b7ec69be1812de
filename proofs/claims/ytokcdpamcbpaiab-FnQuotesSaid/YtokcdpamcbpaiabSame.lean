import Derived.Test.YtokcdpamcbpaiabLists
import Derived.Laws.BytesArg
namespace Go.Proofs.Ytokcdpamcbpaiab
open Go.RowKit
def strN (l : List Nat) : ByteArray := strOfNums (l.map fun (n : Nat) => (n : Int))
theorem conv_str (w : World) (a : Option Addr) (cap : Nat) (l : List Nat) (hr : RowAt w a l) : (convert 22 9 (.slice a l.length cap)).run Try.prog w = .ok (.string (strN l)) w := by
  by_cases h : 0 < l.length
  · obtain ⟨b, off, rfl, hc⟩ := hr h
    refine run_convert_bytes_arg w 22 5 Try.underlying22 Try.underlying5 b off l.length cap (l.map fun (n : Nat) => (n : Int)) (by simp) (fun i hi => ?_) 9 Try.underlying9
    rw [hc i hi]
    simp [hi]
  · obtain rfl : l = [] := List.eq_nil_of_length_eq_zero (by omega)
    cases a with
    | none => exact run_convert_bytes_nil w 22 5 Try.underlying22 Try.underlying5 _ _ 9 Try.underlying9
    | some x =>
      rw [run_convert_bytes_string w 22 9 5 _ _ _ Try.underlying22 Try.underlying5 Try.underlying9]
      exact run_bytesToString w x 0 cap [] (run_loadCells_list (P := Try.prog) w x [] (fun j v hj => by simp at hj))
theorem sameBytes_any (a a' : Option Addr) (cap cap' : Nat) (l : List Nat) (w : World) (hr : RowAt w a l) (hr' : RowAt w a' l) :
    Calls Try.prog 14 #[.slice a l.length cap, .slice a' l.length cap'] w fun e w' => e = .returned (.bool true) ∧ w' = w := by
  have h1 := conv_str w a cap l hr
  have h2 := conv_str w a' cap' l hr'
  generalize strN l = s at h1 h2
  go_enter Try.func14, Try.ntmps14
  go_wp2
  go_ret
  exact ⟨rfl, rfl⟩
theorem sameTexts_n (n n' : Nat) (a a' : Option Addr) (cap cap' : Nat) (ls : List (List Nat)) (hn : n = ls.length) (hn' : n' = ls.length) (w : World) (hl : ls.length ≤ 1048576) (hr : RowsAt w a ls) (hr' : RowsAt w a' ls) :
    Calls Try.prog 23 #[.slice a n cap, .slice a' n' cap'] w fun e w' => e = .returned (.bool true) ∧ ∃ m, w' = w.drewN m := by
  subst hn
  subst hn'
  have hne : ((ls.length : Int) != (ls.length : Int)) = false := by simp
  go_enter Try.func23, Try.ntmps23
  go_wp2
  go_loopw [13] (fun i wr => ∃ k : Nat, k ≤ ls.length ∧ i = .int .i64 k ∧ ∃ n, wr = w.drewN n) (fun i _ => ls.length - (intOf i).toNat)
  case atStart => exact ⟨0, Nat.zero_le _, rfl, 0, rfl⟩
  case round =>
    obtain ⟨k, hk, rfl, hdr⟩ := hrel
    have HD : Hid (∃ n, wr = w.drewN n) := hdr
    have hrr : RowsAt wr a ls := by obtain ⟨n, rfl⟩ := hdr; exact hr.drew n
    have hrr' : RowsAt wr a' ls := by obtain ⟨n, rfl⟩ := hdr; exact hr'.drew n
    clear hdr hr hr'
    by_cases hlt : k < ls.length
    · obtain ⟨b, off, rfl, hc⟩ := hrr (by omega)
      obtain ⟨b', off', rfl, hc'⟩ := hrr' (by omega)
      obtain ⟨ai, ci, hck, hri⟩ := hc k hlt
      obtain ⟨ai', ci', hck', hri'⟩ := hc' k hlt
      clear hc hc' hrr hrr'
      go_wp2
      go_quiet ((go_at_call 14; exact Calls.quiet_of_same (sameBytes_any ai ai' ci ci' ls[k] _ (hri.drew _) (hri'.drew _))))
      go_wp2
      go_roundw
      case rel => exact ⟨k + 1, by omega, by go_num, drew_more HD.out _⟩
      case measure => simp [intOf]; omega
    · go_wp2
      go_ret
      exact ⟨rfl, HD.out⟩
end Go.Proofs.Ytokcdpamcbpaiab
