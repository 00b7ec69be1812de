import Derived.Test.YtledlicandlekabInOrder
namespace Go.Proofs.Ytledlicandlekab
open Go.RowKit
theorem bytes_toList (x : ByteArray) : x.toList = x.data.toList := by
  exact ByteArray.toList_eq x
theorem bytes_eq {x y : ByteArray} (h : x.toList = y.toList) : x = y := by
  rw [bytes_toList, bytes_toList] at h
  cases x; cases y
  simpa using h
theorem beq_of_eq {x y : ByteArray} (h : x = y) : (x.toList == y.toList) = true := by rw [h]; simp
theorem beq_of_ne {x y : ByteArray} (h : x ≠ y) : (x.toList == y.toList) = false := by
  by_cases e : x.toList = y.toList
  · exact absurd (bytes_eq e) h
  · simpa using e
theorem l1Find_any (a : Option Addr) (cap : Nat) (es : List (ByteArray × Int)) (nm : ByteArray) (w : World) (hn : es.length ≤ 9223372036854775807) (hr : EntAt w a es) :
    Calls Try.prog 24 #[.slice a es.length cap, .string nm] w fun e w' => ((∃ i, ∃ h : i < es.length, es[i].1 = nm ∧ (∀ k (hk : k < i), es[k].1 ≠ nm) ∧ e = .returned (.int .i64 (i : Int))) ∨ ((∀ i (h : i < es.length), es[i].1 ≠ nm) ∧ e = .returned (.int .i64 (-1)))) ∧ w' = w := by
  go_enter Try.func24, Try.ntmps24
  go_wp2
  go_loop [8] (fun i => ∃ k : Nat, k ≤ es.length ∧ i = .int .i64 k ∧ ∀ i (h : i < es.length), i < k → es[i].1 ≠ nm) (fun i => es.length - (intOf i).toNat)
  case atStart => exact ⟨0, Nat.zero_le _, rfl, fun i _ h => by omega⟩
  case round =>
    obtain ⟨k, hk, rfl, hno⟩ := hrel
    have HK := hide hno
    clear hno
    by_cases hlt : k < es.length
    · obtain ⟨b, off, rfl, hc⟩ := hr (by omega)
      obtain ⟨hc0, _⟩ := hc k hlt
      clear hc hr
      by_cases hx : es[k].1 = nm
      · have HX := hide hx
        have hbq := beq_of_eq hx
        clear hx
        generalize es[k].1 = x0 at hc0 hbq
        go_wp2
        go_ret
        exact ⟨.inl ⟨k, hlt, HX.out, fun i hi => HK.out i (by omega) hi, rfl⟩, rfl⟩
      · have HX := hide hx
        have hbq := beq_of_ne hx
        clear hx
        generalize hx0 : es[k].1 = x0 at hc0 hbq
        clear hx0
        go_wp2
        go_round
        case rel => exact ⟨k + 1, by omega, by go_num, fun i h h' => by
          by_cases e : i = k
          · subst e; exact HX.out
          · exact HK.out i h (by omega)⟩
        case measure => simp [intOf]; omega
    · go_wp2
      go_ret
      exact ⟨.inr ⟨fun i h => HK.out i h (by omega), rfl⟩, rfl⟩
end Go.Proofs.Ytledlicandlekab
