import Derived.Test.YtledlicandlekaaDoorCaseU
namespace Go.Proofs.YtledlicandlekaaDoor
open Go.RowKit
set_option maxRecDepth 20000 in
set_option maxHeartbeats 1000000 in
theorem lower_any (l : List Nat) (w : World) (hl : l.length ≤ 1048576) (hb : ∀ x ∈ l, x < 256) :
    Calls Tryd.prog 31 #[.string (strB l)] w fun e w' => e = .returned (.string (strB (l.map loN))) ∧ Below w.heap.size w w' := by
  have hconv := Lib.run_convert_string_bytes (P := Tryd.prog) w 9 22 5 (strB l) Tryd.underlying9 Tryd.underlying22 Tryd.underlying5
  rw [strB_size] at hconv
  have HF := hide (rowF_new w l hb)
  have HB := hide (bytesW_below w (strB l))
  go_enter Tryd.func31, Tryd.ntmps31
  generalize Lib.bytesWorld w 5 (strB l) = w1 at hconv HF HB
  generalize (Lib.bytesCells w 5 (strB l)).size = cc at HF
  generalize grownCap w l.length 0 5 = gc at hconv
  generalize strB l = sl at hconv ⊢
  go_wp2
  clear hconv
  go_loopw [4, 5, 10] (fun _ _ i wr => ∃ k : Nat, k ≤ l.length ∧ i = .int .i64 (k : Int) ∧ RowF wr w.heap.size cc (mapTo loN l k) ∧ Below w.heap.size w wr) (fun _ _ i _ => l.length - (intOf i).toNat)
  case atStart => exact ⟨0, Nat.zero_le _, rfl, HF.out, HB.out⟩
  case round =>
    obtain ⟨k, hk, rfl, hF, hB⟩ := hrel
    clear HF HB
    by_cases hlt : k < l.length
    · have hml := mapTo_len loN l k hk
      have hc := hF.cell k (by omega)
      rw [mapTo_at loN l k hlt] at hc
      have hfz := hF.frozen k (by omega)
      have hx : l[k] < 256 := hb _ (List.getElem_mem hlt)
      have HST := hide (mapTo_set loN l k hlt)
      have HSM := hide (mapTo_same loN l k hlt)
      have HF := hide hF
      have HB := hide hB
      generalize l[k] = x at hc hx HST HSM
      clear hF hB hml hb
      by_cases h1 : 65 ≤ x
      · by_cases h2 : x ≤ 90
        · have hfx : loN x = x + 32 := by unfold loN; rw [if_pos ⟨h1, h2⟩]
          have HS2 := hide (show RowF (wr.setCell ⟨w.heap.size, k, none⟩ (.int .u8 (((x + 32 : Nat)) : Int))) w.heap.size cc (mapTo loN l (k + 1)) from by
            have h := HF.out.set k (x + 32)
            have e := HST.out
            rw [hfx] at e
            rw [e] at h
            exact h)
          have HB2 := hide (HB.out.setCell (p := ⟨w.heap.size, k, none⟩) (Nat.le_refl _) (.int .u8 (((x + 32 : Nat)) : Int)))
          have hi1 : (65 : Int) ≤ (x : Int) := by omega
          have hi2 : (x : Int) ≤ 90 := by omega
          have he : ((x + 32 : Nat) : Int) = (x : Int) + 32 := by omega
          rw [he] at HS2 HB2
          clear HF HB HST HSM hfx he
          go_wp2
          go_roundw
          case rel => exact ⟨k + 1, by omega, by go_num, HS2.out, HB2.out⟩
          case measure => simp [intOf]; omega
        · have hi1 : (65 : Int) ≤ (x : Int) := by omega
          have hi2 : ¬ (x : Int) ≤ 90 := by omega
          have hfx : loN x = x := by unfold loN; rw [if_neg (fun h => h2 h.2)]
          have HS2 := hide (show RowF wr w.heap.size cc (mapTo loN l (k + 1)) by rw [HSM.out hfx]; exact HF.out)
          clear HF HST HSM hfx
          go_wp2
          go_roundw
          case rel => exact ⟨k + 1, by omega, by go_num, HS2.out, HB.out⟩
          case measure => simp [intOf]; omega
      · have hi1 : ¬ (65 : Int) ≤ (x : Int) := by omega
        have hfx : loN x = x := by unfold loN; rw [if_neg (fun h => h1 h.1)]
        have HS2 := hide (show RowF wr w.heap.size cc (mapTo loN l (k + 1)) by rw [HSM.out hfx]; exact HF.out)
        clear HF HST HSM hfx
        go_wp2
        go_roundw
        case rel => exact ⟨k + 1, by omega, by go_num, HS2.out, HB.out⟩
        case measure => simp [intOf]; omega
    · obtain rfl : k = l.length := by omega
      rw [mapTo_end] at hF
      have hcv : (convert 22 9 (.slice (some ⟨w.heap.size, 0, none⟩) l.length gc)).run Tryd.prog wr = .ok (.string (strB (l.map loN))) wr := by
        have h := run_string_of wr (some ⟨w.heap.size, 0, none⟩) gc (l.map loN) hF.row
        rw [List.length_map] at h
        exact h
      have HB := hide hB
      clear hF hB hb
      generalize hsr : strB (l.map loN) = sr at hcv
      have HSR := hide hsr
      clear hsr
      go_wp2
      go_ret
      exact ⟨by rw [HSR.out]; rfl, HB.out⟩
end Go.Proofs.YtledlicandlekaaDoor
