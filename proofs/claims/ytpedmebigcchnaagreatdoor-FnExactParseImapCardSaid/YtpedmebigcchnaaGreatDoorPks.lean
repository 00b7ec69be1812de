import Derived.Test.YtpedmebigcchnaaGreatDoorPkk
import Derived.Test.YtpedmebigcchnaaGreatDoorPkf
import Derived.Test.YtpedmebigcchnaaGreatDoorPkr
namespace Go.Proofs.YtpedmebigcchnaaGreatDoor
open Go.RowKit
theorem up_ltR {l : List Nat} (h : ∀ x ∈ l, x < 256) : ∀ x ∈ l.map upN, x < 256 := by
  intro x hx
  obtain ⟨n, hn, rfl⟩ := List.mem_map.1 hx
  have := h n hn
  unfold upN
  split <;> omega
theorem fits_up {y : List Nat} {j : Nat} (h : y ≠ nameL j) (hj : j < 5) : fits y j = decide (y.map upN = (nameL j).map upN) := by
  rw [fits_low h hj]
  by_cases e : y.map upN = (nameL j).map upN
  · rw [decide_eq_true e, decide_eq_true ((fold_list _ _).1 e)]
  · rw [decide_eq_false e, decide_eq_false (fun h => e ((fold_list _ _).2 h))]
def NmPost (w : World) (y : List Nat) (e : Ending) (w' : World) : Prop := ((∃ k, k < 31 ∧ findK y = some k ∧ e = .returned (.tuple #[.int .u32 ((2 ^ k : Nat) : Int), .bool true])) ∨ (findK y = none ∧ e = .returned (.tuple #[.int .u32 0, .bool false]))) ∧ Below w.heap.size w w'
set_option maxRecDepth 20000 in
set_option maxHeartbeats 1000000 in
theorem readName_any (y : List Nat) (w : World) (hl : y.length ≤ 1048576) (hyb : ∀ x ∈ y, x < 256) :
    Calls Tryz.prog 81 #[.string (strB y)] w (NmPost w y) := by
  go_enter Tryz.func81, Tryz.ntmps81
  go_wp2_with fail
  refine (flagNames_any w).mono ?_
  rintro e w1 ⟨rfl, hb1⟩
  generalize hT : namA 31 = T
  go_wp2
  go_loopw [4, 5, 6, 8] (fun _ _ _ i wr => ∃ j : Nat, j ≤ 31 ∧ i = .int .i64 (j : Int) ∧ (∀ i, i < j → fits y i = false) ∧ Below w.heap.size w wr) (fun _ _ _ i _ => 31 - (intOf i).toNat)
  case atStart => exact ⟨0, by omega, rfl, fun i h => by omega, hb1⟩
  case round =>
    obtain ⟨j, hj, rfl, hno, hb⟩ := hrel
    clear hb1
    by_cases hj31 : j < 31
    · have hbq := strB_beq hyb (nameL_lt j hj31)
      have HNX := hide (show fits y j = false → ∀ i, i < j + 1 → fits y i = false from fun h i hi => by
        by_cases e : i = j
        · rw [e]; exact h
        · exact hno i (by omega))
      have HYE := hide (show fits y j = true → findK y = some j from fun h => findK_some hj31 h)
      have HMK := hide (fun W => mask_any j W hj31)
      have HB := hide hb
      clear hb hno
      generalize hmk : ((2 ^ j : Nat) : Int) = mk at HMK
      have HMQ := hide hmk
      clear hmk
      by_cases hyn : y = nameL j
      · have HK := hide (HYE.out (fits_eq hyn))
        rw [decide_eq_true hyn] at hbq
        clear HNX HYE hyn
        go_wp2_with (refine wpList_index_nam _ j rfl _ _ rfl (by rw [← hT]; rfl) rfl hj31 ?_)
        refine (HMK.out wr).mono ?_
        rintro e w5 ⟨rfl, rfl⟩
        go_wp2
        go_ret2
        exact ⟨.inl ⟨j, hj31, HK.out, by rw [HMQ.out]; rfl⟩, HB.out⟩
      · rw [decide_eq_false hyn] at hbq
        by_cases hj5 : j < 5
        · have hj5i : (j : Int) < 5 := by omega
          have HFL := hide (fits_up hyn hj5)
          have HL1 := hide (fun W => capitals_any y W hl hyb)
          have HL2 := hide (fun W => capitals_any (nameL j) W (by have := nameL_len j hj31; omega) (nameL_lt j hj31))
          have hlq := strB_beq (up_ltR hyb) (up_ltR (nameL_lt j hj31))
          generalize strB (y.map upN) = ly at HL1 hlq
          generalize strB ((nameL j).map upN) = ln at HL2 hlq
          rw [← HFL.out] at hlq
          clear hyn HFL
          go_wp2_with (refine wpList_index_nam _ j rfl _ _ rfl (by rw [← hT]; rfl) rfl hj31 ?_)
          refine (HL1.out wr).mono ?_
          rintro e w6 ⟨rfl, hb6⟩
          go_wp2_with fail
          refine (HL2.out w6).mono ?_
          rintro e w7 ⟨rfl, hb7⟩
          have hb57 := hb6.trans (hb7.mono hb6.size)
          have HB7 := hide (HB.out.trans (hb57.mono HB.out.size))
          clear HL1 HL2 hb6 hb7 hb57 HB
          cases hft : fits y j with
          | true =>
            have HK := hide (HYE.out hft)
            rw [hft] at hlq
            clear HNX HYE hft
            go_wp2_with fail
            refine (HMK.out w7).mono ?_
            rintro e w8 ⟨rfl, rfl⟩
            go_wp2
            go_ret2
            exact ⟨.inl ⟨j, hj31, HK.out, by rw [HMQ.out]; rfl⟩, HB7.out⟩
          | false =>
            have HK := hide (HNX.out hft)
            rw [hft] at hlq
            clear HNX HYE hft
            go_wp2
            go_roundw
            case rel => exact ⟨j + 1, by omega, by go_num, HK.out, HB7.out⟩
            case measure => simp [intOf]; omega
        · have hj5i : ¬ (j : Int) < 5 := by omega
          have HK := hide (HNX.out (fits_big hyn hj5))
          clear HNX HYE hyn
          go_wp2_with (refine wpList_index_nam _ j rfl _ _ rfl (by rw [← hT]; rfl) rfl hj31 ?_)
          go_roundw
          case rel => exact ⟨j + 1, by omega, by go_num, HK.out, HB.out⟩
          case measure => simp [intOf]; omega
    · obtain rfl : j = 31 := by omega
      have HK := hide (findK_none hno)
      clear hno
      go_wp2
      go_ret2
      exact ⟨.inr ⟨HK.out, rfl⟩, hb⟩
end Go.Proofs.YtpedmebigcchnaaGreatDoor
