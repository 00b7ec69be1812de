import Derived.Test.YtokcdpamcbpaiabFrameWalks
namespace Go.Proofs.Ytokcdpamcbpaiab
open Go.RowKit
theorem implFrame_any (a : Option Addr) (cap : Nat) (ls : List (List Nat)) (w : World) (hl : ls.length ≤ 1048576) (hls : ∀ l ∈ ls, l.length ≤ 1048576) (hr : RowsAt w a ls) (hb : ∀ l ∈ ls, ∀ x ∈ l, x < 256) :
    Calls Try.prog 20 #[.slice a ls.length cap] w fun e w' => ∃ v, e = .returned v ∧ OwnB w' w.heap.size v (frameOf ls) ∧ Below w.heap.size w w' := by
  go_enter Try.func20, Try.ntmps20
  go_wp2
  go_loopw [3, 8] (fun v i wr => ∃ k : Nat, ∃ acc : List Nat, k ≤ ls.length ∧ i = .int .i64 k ∧ acc.length ≤ 40000 ∧ frameGo [] ls = frameGo acc (ls.drop k) ∧ OwnB wr w.heap.size v acc ∧ Below w.heap.size w wr) (fun _ i _ => ls.length - (intOf i).toNat)
  case atStart => exact ⟨0, [], Nat.zero_le _, rfl, by simp, rfl, OwnB.nil _ _, Below.refl _ _⟩
  case round =>
    obtain ⟨k, acc, hk, rfl, hal, hgo, hov, hnx⟩ := hrel
    have HG : Hid (frameGo [] ls = frameGo acc (ls.drop k)) := hgo
    clear hgo
    obtain ⟨av, cv, rfl⟩ := hov.slice
    have hsz := hnx.size
    by_cases hlt : k < ls.length
    · obtain ⟨b, off, rfl, hc⟩ := hr (by omega)
      obtain ⟨ai, ci, hck, hri⟩ := hc k hlt
      have hck' : wr.cell? ⟨b, off + k, none⟩ = some (.slice ai ls[k].length ci) := by rw [hnx.cell (p := ⟨b, off + k, none⟩) (lt_of_cell0 hck)]; exact hck
      have hkl := hls _ (List.getElem_mem hlt)
      have hkb := hb _ (List.getElem_mem hlt)
      have HB := fun h => frameGo_bad hlt HG.out h
      have HK := fun h => frameGo_ok hlt HG.out h
      have HB' := hide HB
      have HK' := hide HK
      clear hc hr hls hb HB HK HG hck
      generalize ls[k] = rec at hck' hri hkl hkb HB' HK'
      by_cases c1 : rec.length < 1
      · go_wp2
        go_ret
        exact ⟨_, rfl, by rw [unhide HB' (.inl c1)]; exact OwnB.nil _ _, hnx⟩
      by_cases c2 : 2000 < rec.length
      · go_wp2
        go_ret
        exact ⟨_, rfl, by rw [unhide HB' (.inr (.inl c2))]; exact OwnB.nil _ _, hnx⟩
      by_cases c3 : 40000 < acc.length + 6 + rec.length
      · go_wp2
        go_ret
        exact ⟨_, rfl, by rw [unhide HB' (.inr (.inr c3))]; exact OwnB.nil _ _, hnx⟩
      · go_wp2_with fail
        refine (appendFrame_any w.heap.size w (.slice av acc.length cv) acc ai ci rec wr (by omega) (by omega) rfl hnx hri hkb hal hov).mono ?_
        rintro e w2 ⟨v2, rfl, ho2, hb2⟩
        have HF := hide (frameB_length rec)
        go_wp2
        go_roundw
        case rel => exact ⟨k + 1, acc ++ frameB rec, by omega, by go_num, by rw [List.length_append, unhide HF]; omega, unhide HK' (by omega), ho2, hb2⟩
        case measure => simp [intOf]; omega
    · go_wp2
      go_ret
      exact ⟨_, rfl, by rw [frameGo_end hlt HG.out]; exact hov, hnx⟩
end Go.Proofs.Ytokcdpamcbpaiab
