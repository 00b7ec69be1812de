import Derived.Test.YtledlicandlekabDiskMem
namespace Go.Proofs.Ytledlicandlekab
open Go.RowKit
set_option maxRecDepth 20000 in
theorem bytesOf_any (a : Option Addr) (cap : Nat) (ns : List (List Nat × Int)) (w : World) (hn : ns.length ≤ 9223372036854775807) (hsum : sumN ns ≤ 1048576) (hr : NodeAt w a ns) :
    Calls Try.prog 79 #[.slice a ns.length cap] w fun e w' => e = .returned (.int .i64 (sumN ns : Int)) ∧ Below w.heap.size w w' := by
  go_enter Try.func79, Try.ntmps79
  go_wp2
  go_loopw [3, 8] (fun t i wr => ∃ k : Nat, k ≤ ns.length ∧ i = .int .i64 k ∧ t = .int .i64 (sumN (ns.take k) : Int) ∧ Below w.heap.size w wr) (fun _ i _ => ns.length - (intOf i).toNat)
  case atStart => exact ⟨0, Nat.zero_le _, rfl, rfl, Below.refl _ _⟩
  case round =>
    obtain ⟨k, hk, rfl, rfl, hnx⟩ := hrel
    by_cases hlt : k < ns.length
    · obtain ⟨b, off, rfl, hc⟩ := (hr.below hnx) (by omega)
      obtain ⟨ai, ci, hc0, hc1, _⟩ := hc k hlt
      have HS := hide (sumN_take_succ ns k hlt)
      have hle := sumN_take_le ns (k + 1)
      rw [sumN_take_succ ns k hlt] at hle
      have HN := hide (hnx.alloc hnx.size (.cells #[.slice ai ns[k].1.length ci, .int .i64 ns[k].2] 56))
      clear hc hr hnx
      generalize sumN (ns.take k) = s0 at hle HS ⊢
      generalize ns[k].1.length = n0 at hc0 hle HS HN
      generalize ns[k].2 = sf at hc1 HN
      go_wp2
      go_roundw
      case rel => exact ⟨k + 1, by omega, by go_num, val_int (by rw [HS.out]; omega), HN.out⟩
      case measure => simp [intOf]; omega
    · have he : ns.take k = ns := List.take_of_length_le (by omega)
      rw [he]
      go_wp2
      go_ret
      exact ⟨rfl, hnx⟩
def okNode (e : List Nat × Int) : Bool := decide (e.1.length ≤ 40000 ∧ 0 ≤ e.2 ∧ e.2 ≤ e.1.length)
def okNodes (ns : List (List Nat × Int)) : Bool := decide (ns.length ≤ 600 ∧ (∀ i (h : i < ns.length), okNode ns[i] = true) ∧ sumN ns ≤ 200000)
theorem okNodes_no {ns : List (List Nat × Int)} {i : Nat} (h : i < ns.length) (hb : okNode ns[i] = false) : okNodes ns = false := by
  unfold okNodes
  refine decide_eq_false fun h' => ?_
  rw [h'.2.1 i h] at hb
  simp at hb
set_option maxRecDepth 20000 in
theorem nodesFit_any (a : Option Addr) (cap : Nat) (ns : List (List Nat × Int)) (w : World) (hn : ns.length ≤ 9223372036854775807) (hls : ∀ e ∈ ns, e.1.length ≤ 1048576) (hsum : sumN ns ≤ 1048576) (hr : NodeAt w a ns) :
    Calls Try.prog 60 #[.slice a ns.length cap] w fun e w' => e = .returned (.bool (okNodes ns)) ∧ Below w.heap.size w w' := by
  by_cases h6 : 600 < ns.length
  · have hf : okNodes ns = false := decide_eq_false fun h => by omega
    rw [hf]
    go_enter Try.func60, Try.ntmps60
    go_wp2
    go_ret
    exact ⟨rfl, Below.refl _ _⟩
  go_enter Try.func60, Try.ntmps60
  go_wp2
  go_loopw [10] (fun i wr => ∃ k : Nat, k ≤ ns.length ∧ i = .int .i64 k ∧ (∀ i (h : i < ns.length), i < k → okNode ns[i] = true) ∧ Below w.heap.size w wr) (fun i _ => ns.length - (intOf i).toNat)
  case atStart => exact ⟨0, Nat.zero_le _, rfl, fun i _ h => by omega, Below.refl _ _⟩
  case round =>
    obtain ⟨k, hk, rfl, hok, hnx⟩ := hrel
    have HK := hide hok
    have HR := hide hr
    clear hok
    by_cases hlt : k < ns.length
    · obtain ⟨b, off, rfl, hc⟩ := (hr.below hnx) (by omega)
      obtain ⟨ai, ci, hc0, hc1, _⟩ := hc k hlt
      have hkl := hls _ (List.getElem_mem hlt)
      have HN := hide (hnx.alloc hnx.size (.cells #[.slice ai ns[k].1.length ci, .int .i64 ns[k].2] 56))
      have HNO := hide (okNodes_no (ns := ns) hlt)
      have HOK := hide (show okNode ns[k] = decide (ns[k].1.length ≤ 40000 ∧ 0 ≤ ns[k].2 ∧ ns[k].2 ≤ ns[k].1.length) from rfl)
      have HST := hide (fun (e : okNode ns[k] = true) (i : Nat) (h : i < ns.length) (h' : i < k + 1) => (by
        by_cases e' : i = k
        · subst e'; exact e
        · exact HK.out i h (by omega) : okNode ns[i] = true))
      clear hc hr hnx hls HK
      generalize ns[k].1.length = n0 at hc0 HN HOK hkl
      generalize ns[k].2 = sf at hc1 HN HOK
      by_cases g1 : 40000 < n0
      · go_wp2
        go_ret
        exact ⟨ret_bool (HNO.out (by rw [HOK.out]; exact decide_eq_false fun h => by omega)).symm, HN.out⟩
      by_cases g2 : sf < 0
      · go_wp2
        go_ret
        exact ⟨ret_bool (HNO.out (by rw [HOK.out]; exact decide_eq_false fun h => by omega)).symm, HN.out⟩
      by_cases g3 : (n0 : Int) < sf
      · go_wp2
        go_ret
        exact ⟨ret_bool (HNO.out (by rw [HOK.out]; exact decide_eq_false fun h => by omega)).symm, HN.out⟩
      have HST2 := hide (HST.out (by rw [HOK.out]; exact decide_eq_true ⟨by omega, by omega, by omega⟩))
      go_wp2
      go_roundw
      case rel => exact ⟨k + 1, by omega, by go_num, HST2.out, HN.out⟩
      case measure => simp [intOf]; omega
    · go_wp2_with fail
      refine (bytesOf_any a cap ns wr hn hsum (HR.out.below hnx)).mono ?_
      rintro e w2 ⟨rfl, hb⟩
      have HN := hide (hnx.trans (hb.mono hnx.size))
      clear hb hnx hr hls
      have HF : Hid (okNodes ns = decide (sumN ns ≤ 200000)) := by
        unfold okNodes
        by_cases h2 : sumN ns ≤ 200000
        · rw [decide_eq_true h2]; exact decide_eq_true ⟨by omega, fun i h => HK.out i h (by omega), h2⟩
        · rw [decide_eq_false h2]; exact decide_eq_false fun h => h2 h.2.2
      go_wp2
      go_ret
      exact ⟨ret_bool (by rw [HF.out]; simp; omega), HN.out⟩
end Go.Proofs.Ytledlicandlekab
