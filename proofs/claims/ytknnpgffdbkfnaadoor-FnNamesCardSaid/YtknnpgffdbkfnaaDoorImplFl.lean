import Derived.Test.YtknnpgffdbkfnaaDoorFlMath
import Derived.Test.YtknnpgffdbkfnaaDoorStrRow
import Derived.Test.YtknnpgffdbkfnaaDoorNamIx
import Derived.Test.YtknnpgffdbkfnaaDoorShelfJ
namespace Go.Proofs.YtknnpgffdbkfnaaDoor
open Go.RowKit
set_option maxRecDepth 20000 in
set_option maxHeartbeats 1000000 in
theorem implFlagList_any (f : Nat) (w : World) (hf : f < 4294967296) :
    Calls Tryd.prog 11 #[.int .u32 (f : Int)] w fun e w' => e = .returned (.string ((⟨#[40]⟩ ++ flS f 31) ++ ⟨#[41]⟩)) ∧ Below w.heap.size w w' := by
  go_enter Tryd.func11, Tryd.ntmps11
  go_wp2_with fail
  refine (flagNames_any w).mono ?_
  rintro e w1 ⟨rfl, hb1⟩
  generalize hT : namA 31 = T
  go_wp2
  go_loopw [3, 4, 5, 7] (fun sv _ _ i wr => ∃ k : Nat, k ≤ 31 ∧ i = .int .i64 (k : Int) ∧ OwnT wr w.heap.size sv (setN f k) ∧ Below w.heap.size w wr) (fun _ _ _ i _ => 31 - (intOf i).toNat)
  case atStart => exact ⟨0, by omega, rfl, OwnT.nil _ _, hb1⟩
  case round =>
    obtain ⟨k, hk, rfl, ho, hw⟩ := hrel
    clear hb1
    by_cases hlt : k < 31
    · have hT2 := bit_test f k hf hlt
      have hst := hide (setN_succ f k)
      have hsl := setN_len f k
      have HW := hide hw
      have HO := hide ho
      clear hw ho
      go_wp2_with (refine wpList_index_nam _ k rfl _ _ rfl (by rw [← hT]; rfl) rfl hlt ?_)
      refine (mask_any k wr hlt).mono ?_
      rintro e w3 ⟨rfl, rfl⟩
      generalize strB (nameL k) = nm at hst ⊢
      cases ht : f.testBit k with
      | false =>
        rw [ht] at hT2 hst
        have HS : Hid (setN f (k + 1) = setN f k) := hide (by have := hst.out; simpa using this)
        clear hst ht
        generalize ((2 ^ k : Nat) : Int) = m at hT2 ⊢
        go_wp2
        go_roundw
        case rel => exact ⟨k + 1, by omega, by go_num, by rw [HS.out]; exact HO.out, HW.out⟩
        case measure => simp [intOf]; omega
      | true =>
        rw [ht] at hT2 hst
        have HS : Hid (setN f (k + 1) = setN f k ++ [nm]) := hide (by have := hst.out; simpa using this)
        clear hst ht
        generalize ((2 ^ k : Nat) : Int) = m at hT2 ⊢
        have hn0 : (w3.alloc (.cells #[.string nm] 9)).cell? ⟨w3.heap.size, 0, none⟩ = some (.string nm) := by rw [cell_of_row _ _ _ _ _ _ (heap_alloc_new w3 _)]; rfl
        have HN0 := hide hn0
        have HA := hide (HW.out.alloc HW.out.size (.cells #[.string nm] 9))
        have HOA := hide (show OwnT (w3.alloc (.cells #[.string nm] 9)) w.heap.size u3 (setN f k) from World.ownsRow.alloc HO.out _)
        have HLO := hide (fun j hj => (World.ownsRow.lt HO.out j hj).1)
        clear hn0
        go_wp2_with (first
          | (at_builtin; refine wpList_append_t _ rfl (.tmp 17) (.tmp 19) rfl w.heap.size u3 (setN f k) nm w3.heap.size 1 rfl rfl ?_ ?_ ?_ ?_ ?_; (exact HOA.out); (exact HN0.out); (omega); (exact HA.out.size); intro v4 w4 ho4 hg4)
          | go_in)
        exact ⟨⟨k + 1, by omega, by go_num, by rw [HS.out]; exact ho4, HA.out.grown hg4 HA.out.size HLO.out⟩, by simp [intOf]; omega⟩
    · obtain rfl : k = 31 := by omega
      have hz := flS_size f 31
      have HJ := hide (flS_join f 31)
      have hsl := setN_len f 31
      have HW := hide hw
      generalize hSe : flS f 31 = S at hz HJ
      have HSe := hide hSe
      clear hSe hw
      have hz2 : S.size ≤ 1000 := by omega
      rcases ho.at with ⟨rfl, hs0⟩ | ⟨g, cap, rfl, hg, hgb, hcap, hcells⟩
      · rw [hs0] at HJ
        have HS0 : Hid (S = ⟨#[]⟩) := hide (by rw [← HJ.out]; rfl)
        clear HJ hs0 ho
        go_wp2_with fail
        refine (Tryd.strings_Join_none none 0 ⟨#[32]⟩ wr).mono ?_
        rintro e w5 ⟨rfl, rfl⟩
        go_wp2
        go_ret
        exact ⟨by rw [HSe.out, HS0.out]; rfl, HW.out⟩
      · have HJC := hide (Tryd.strings_Join g 0 cap (setN f 31) ⟨#[32]⟩ wr hcells hg (by omega) hcap (by have := congrArg (fun b : ByteArray => b.data.toList.length) HJ.out; simp only at this; rw [this]; show S.size ≤ _; omega))
        rw [HJ.out] at HJC
        clear HJ ho hcells
        generalize (setN f 31).length = sl at HJC hsl hcap ⊢
        go_wp2_with fail
        refine HJC.out.mono ?_
        rintro e w5 ⟨rfl, hb5⟩
        have HW5 := hide (HW.out.trans (hb5.mono HW.out.size))
        clear hb5 HJC
        go_wp2
        go_ret
        exact ⟨by rw [HSe.out]; rfl, HW5.out⟩
end Go.Proofs.YtknnpgffdbkfnaaDoor
