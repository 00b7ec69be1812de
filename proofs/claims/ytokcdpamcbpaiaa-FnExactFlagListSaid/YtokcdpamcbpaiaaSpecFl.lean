import Derived.Test.YtokcdpamcbpaiaaNameTab
namespace Go.Proofs.Ytokcdpamcbpaiaa
open Go.RowKit
/-- What spec.FlagList has when it has looked at the first k bits. -/
def flS (f : Nat) : Nat → ByteArray
  | 0 => ⟨#[]⟩
  | k + 1 => if f.testBit k then (if (flS f k).toList = [] then flS f k else flS f k ++ ⟨#[32]⟩) ++ strB (nameL k) else flS f k
theorem nameL_size (k : Nat) : (strB (nameL k)).size ≤ 9 := by
  unfold strB
  match k with
  | 0 | 1 | 2 | 3 | 4 => decide
  | k + 5 => simp [nameL, ByteArray.size]
theorem flS_size (f : Nat) : ∀ k, (flS f k).size ≤ 10 * k
  | 0 => by simp [flS, ByteArray.size]
  | k + 1 => by
    have h := flS_size f k
    have h2 := nameL_size k
    rw [flS]
    split
    · rw [ByteArray.size_append]
      split
      · omega
      · rw [ByteArray.size_append]
        have : (⟨#[32]⟩ : ByteArray).size = 1 := rfl
        omega
    · omega
set_option maxHeartbeats 1000000 in
theorem specName_any (k : Nat) (w : World) (hk : k < 31) :
    Calls Try.prog 36 #[.int .i64 (k : Int)] w fun e w' => e = .returned (.string (strB (nameL k))) ∧ Below w.heap.size w w' := by
  match k, hk with
  | 0, _ | 1, _ | 2, _ | 3, _ | 4, _ =>
    go_enter Try.func36, Try.ntmps36
    go_wp2
    go_ret
    exact ⟨rfl, Below.refl _ _⟩
  | k + 5, hk =>
    have hs : (convert 22 9 (.slice (some ⟨w.heap.size, 0, none⟩) 1 1)).run Try.prog (w.alloc (.cells #[.int .u8 (97 + ((k : Int) + 5) - 5)] 5)) = .ok (.string (strB (nameL (k + 5)))) (w.alloc (.cells #[.int .u8 (97 + ((k : Int) + 5) - 5)] 5)) := by
      have e : nameL (k + 5) = [92 + (k + 5)] := rfl
      rw [e]
      refine run_string_of _ _ 1 [92 + (k + 5)] fun _ => ⟨w.heap.size, 0, rfl, fun i hi => ?_⟩
      have hi0 : i = 0 := by simpa using hi
      subst hi0
      rw [cell_of_row _ _ _ _ _ _ (heap_alloc_new w _)]
      simp
      omega
    go_enter Try.func36, Try.ntmps36
    go_wp2
    go_ret
    exact ⟨rfl, (Below.refl _ _).alloc (Nat.le_refl _) _⟩
set_option maxHeartbeats 1000000 in
theorem specFlagList_any (f : Nat) (w : World) (hf : f < 4294967296) :
    Calls Try.prog 15 #[.int .u32 (f : Int)] w fun e w' => e = .returned (.string ((⟨#[40]⟩ ++ flS f 31) ++ ⟨#[41]⟩)) ∧ Below w.heap.size w w' := by
  go_enter Try.func15, Try.ntmps15
  go_wp2
  go_loopw [3, 4] (fun s i wr => ∃ k : Nat, k ≤ 31 ∧ i = .int .i64 (k : Int) ∧ s = .string (flS f k) ∧ Below w.heap.size w wr) (fun _ i _ => 31 - (intOf i).toNat)
  case atStart => exact ⟨0, by omega, rfl, rfl, Below.refl _ _⟩
  case round =>
    obtain ⟨k, hk, rfl, rfl, hw⟩ := hrel
    by_cases hlt : k < 31
    · have HZ := flS_size f k
      have HL := hide (l4Has_any f k wr hf hlt)
      have HW := hide hw
      have hS := hide (show flS f (k + 1) = if f.testBit k then (if (flS f k).toList = [] then flS f k else flS f k ++ ⟨#[32]⟩) ++ strB (nameL k) else flS f k from rfl)
      have HN := hide (specName_any k wr hlt)
      have HNZ := nameL_size k
      clear hw
      generalize strB (nameL k) = nm at hS HN HNZ
      generalize flS f k = S at HZ hS
      go_wp2_with fail
      refine HL.out.mono ?_
      rintro e w1 ⟨rfl, rfl⟩
      cases ht : f.testBit k with
      | false =>
        rw [ht] at hS
        have HS : Hid (flS f (k + 1) = S) := hide (by have := hS.out; simpa using this)
        clear hS HL ht
        go_wp2
        go_roundw
        case rel => exact ⟨k + 1, by omega, by go_num, by rw [HS.out], HW.out⟩
        case measure => simp [intOf]; omega
      | true =>
        rw [ht] at hS
        clear HL ht
        by_cases he : S.toList = []
        · have he2 : S.toList.isEmpty = true := by rw [he]; rfl
          have HS : Hid (flS f (k + 1) = S ++ nm) := hide (by have := hS.out; rw [if_pos rfl, if_pos he] at this; exact this)
          clear hS he
          go_wp2_with fail
          refine HN.out.mono ?_
          rintro e w2 ⟨rfl, hb2⟩
          have HW2 := hide (HW.out.trans (hb2.mono HW.out.size))
          clear HN hb2 HW
          go_wp2
          go_roundw
          case rel => exact ⟨k + 1, by omega, by go_num, by rw [HS.out], HW2.out⟩
          case measure => simp [intOf]; omega
        · have he2 : S.toList.isEmpty = false := by simpa using he
          have HS : Hid (flS f (k + 1) = S ++ ⟨#[32]⟩ ++ nm) := hide (by have := hS.out; rw [if_pos rfl, if_neg he] at this; exact this)
          have hz3 : (S ++ ⟨#[32]⟩ : ByteArray).size ≤ 10 * k + 1 := by rw [ByteArray.size_append]; exact Nat.add_le_add_right HZ 1
          clear hS he
          go_wp2_with fail
          refine HN.out.mono ?_
          rintro e w2 ⟨rfl, hb2⟩
          have HW2 := hide (HW.out.trans (hb2.mono HW.out.size))
          clear HN hb2 HW
          go_wp2
          go_roundw
          case rel => exact ⟨k + 1, by omega, by go_num, by rw [HS.out], HW2.out⟩
          case measure => simp [intOf]; omega
    · obtain rfl : k = 31 := by omega
      have hz := flS_size f 31
      generalize hSe : flS f 31 = S at hz
      have HSe := hide hSe
      clear hSe
      have hz2 : S.size ≤ 1000 := by omega
      go_wp2
      go_ret
      exact ⟨by rw [HSe.out]; rfl, hw⟩
end Go.Proofs.Ytokcdpamcbpaiaa
