import Derived.Test.YtokcdpamcbpaiaaSpecFl
import Derived.Test.YtokcdpamcbpaiaaStrRow
import Derived.Test.YtokcdpamcbpaiaaShelfJ
namespace Go.Proofs.Ytokcdpamcbpaiaa
open Go.RowKit
/-- The names of the flags that are set among the first k bits. -/
def setN (f k : Nat) : List ByteArray := ((List.range k).filter (fun i => f.testBit i)).map fun i => strB (nameL i)
theorem setN_succ (f k : Nat) : setN f (k + 1) = if f.testBit k then setN f k ++ [strB (nameL k)] else setN f k := by
  unfold setN
  rw [List.range_succ, List.filter_append, List.map_append]
  cases h : f.testBit k <;> simp [h]
theorem setN_len (f k : Nat) : (setN f k).length ≤ k := by
  unfold setN
  rw [List.length_map]
  exact Nat.le_trans (List.length_filter_le _ _) (by simp)
theorem join_end (xs : List (List UInt8)) (n sep : List UInt8) : Lib.join (xs ++ [n]) sep = if xs = [] then n else Lib.join xs sep ++ sep ++ n := by
  cases xs with
  | nil => simp [Lib.join_one]
  | cons x r =>
    rw [if_neg (by simp), List.cons_append, Lib.join_cons, Lib.join_cons]
    simp [Lib.joinTail]
theorem name_ne (k : Nat) : (strB (nameL k)).data.toList ≠ [] := by
  unfold strB
  match k with
  | 0 | 1 | 2 | 3 | 4 => decide
  | k + 5 => simp [nameL]
theorem setN_join (f : Nat) : ∀ k, (flS f k).data.toList = Lib.join ((setN f k).map (·.data.toList)) [32] ∧ ((flS f k).data.toList = [] ↔ setN f k = [])
  | 0 => by simp [flS, setN, Lib.join_nil]
  | k + 1 => by
    obtain ⟨h1, h2⟩ := setN_join f k
    rw [setN_succ, flS]
    cases ht : f.testBit k with
    | false => exact ⟨h1, h2⟩
    | true =>
      simp only [if_true]
      have htl : (flS f k).toList = (flS f k).data.toList := ByteArray.toList_eq _
      rw [htl]
      have hne := name_ne k
      by_cases he : (flS f k).data.toList = []
      · rw [if_pos he]
        have hs := h2.1 he
        rw [hs]
        have e : (flS f k ++ strB (nameL k)).data.toList = (strB (nameL k)).data.toList := by rw [ByteArray.data_append, Array.toList_append, he, List.nil_append]
        rw [e]
        exact ⟨by simp [Lib.join_one], ⟨fun h => absurd h hne, fun h => by simp at h⟩⟩
      · rw [if_neg he]
        have hs : setN f k ≠ [] := fun h => he (h2.2 h)
        have e : (flS f k ++ ⟨#[32]⟩ ++ strB (nameL k)).data.toList = (flS f k).data.toList ++ [32] ++ (strB (nameL k)).data.toList := by rw [ByteArray.data_append, ByteArray.data_append, Array.toList_append, Array.toList_append]
        rw [e, List.map_append, List.map_cons, List.map_nil, join_end, if_neg (by simpa using hs), h1]
        exact ⟨rfl, ⟨fun h => by simp at h, fun h => by simp at h⟩⟩
theorem flS_join (f k : Nat) : (⟨(Lib.join ((setN f k).map (·.data.toList)) (⟨#[32]⟩ : ByteArray).data.toList).toArray⟩ : ByteArray) = flS f k := by
  have h : (⟨#[32]⟩ : ByteArray).data.toList = [32] := rfl
  rw [h, ← (setN_join f k).1]
theorem run_index_nam (w : World) (k : Nat) (hk : k < 31) : (Instr.index 63 (.agg (namA 31)) (.int .i64 (k : Int))).run Try.prog w = .ok (nameV k) w := by
  have hu := run_underlying Try.underlying63
  have he : (namA 31)[k]? = some (nameV k) := by simp [namA, namL, hk]
  simp [Instr.index, asIntOf, hu, part, he, hk]
theorem wpList_index_nam {ops : Array Oper} {rest : List Oper} {o : Oper} {act : Act} {Q : Exit → Act → World → Prop} (w : World) (k : Nat) (hgd : o.guard = none) (x y : Operand) (ho : o.op = .index 63 x y)
    (hx : act.eval x = .agg (namA 31)) (hy : act.eval y = .int .i64 (k : Int)) (hk : k < 31)
    (h : wpList Try.prog ops Q rest (act.put o.dst (.string (strB (nameL k)))) w) : wpList Try.prog ops Q (o :: rest) act w := by
  refine wpList_plain hgd fun K hK => ?_
  unfold Oper.wp execOp
  simp only [ho, hx, hy, Sem.run_bind, run_index_nam w k hk, Result.andThen_ok]
  exact hK _ _ h
set_option maxRecDepth 20000 in
set_option maxHeartbeats 1000000 in
theorem implFlagList_any (f : Nat) (w : World) (hf : f < 4294967296) :
    Calls Try.prog 16 #[.int .u32 (f : Int)] w fun e w' => e = .returned (.string ((⟨#[40]⟩ ++ flS f 31) ++ ⟨#[41]⟩)) ∧ Below w.heap.size w w' := by
  go_enter Try.func16, Try.ntmps16
  go_wp2_with fail
  refine (flagNames_any w).mono ?_
  rintro e w1 ⟨rfl, hb1⟩
  generalize hT : namA 31 = T
  go_wp2
  go_loopw [3, 4, 5, 7] (fun sv _ _ i wr => ∃ k : Nat, k ≤ 31 ∧ i = .int .i64 (k : Int) ∧ OwnT wr w.heap.size sv (setN f k) ∧ Below w.heap.size w wr) (fun _ _ _ i _ => 31 - (intOf i).toNat)
  case atStart => exact ⟨0, by omega, rfl, OwnT.nil _ _, hb1⟩
  case round =>
    obtain ⟨k, hk, rfl, ho, hw⟩ := hrel
    clear hb1
    by_cases hlt : k < 31
    · have hT2 := bit_test f k hf hlt
      have hst := hide (setN_succ f k)
      have hsl := setN_len f k
      have HW := hide hw
      have HO := hide ho
      clear hw ho
      go_wp2_with (refine wpList_index_nam _ k rfl _ _ rfl (by rw [← hT]; rfl) rfl hlt ?_)
      refine (mask_any k wr hlt).mono ?_
      rintro e w3 ⟨rfl, rfl⟩
      generalize strB (nameL k) = nm at hst ⊢
      cases ht : f.testBit k with
      | false =>
        rw [ht] at hT2 hst
        have HS : Hid (setN f (k + 1) = setN f k) := hide (by have := hst.out; simpa using this)
        clear hst ht
        generalize ((2 ^ k : Nat) : Int) = m at hT2 ⊢
        go_wp2
        go_roundw
        case rel => exact ⟨k + 1, by omega, by go_num, by rw [HS.out]; exact HO.out, HW.out⟩
        case measure => simp [intOf]; omega
      | true =>
        rw [ht] at hT2 hst
        have HS : Hid (setN f (k + 1) = setN f k ++ [nm]) := hide (by have := hst.out; simpa using this)
        clear hst ht
        generalize ((2 ^ k : Nat) : Int) = m at hT2 ⊢
        have hn0 : (w3.alloc (.cells #[.string nm] 9)).cell? ⟨w3.heap.size, 0, none⟩ = some (.string nm) := by rw [cell_of_row _ _ _ _ _ _ (heap_alloc_new w3 _)]; rfl
        have HN0 := hide hn0
        have HA := hide (HW.out.alloc HW.out.size (.cells #[.string nm] 9))
        have HOA := hide (show OwnT (w3.alloc (.cells #[.string nm] 9)) w.heap.size u3 (setN f k) from World.ownsRow.alloc HO.out _)
        have HLO := hide (fun j hj => (World.ownsRow.lt HO.out j hj).1)
        clear hn0
        go_wp2_with (first
          | (at_builtin; refine wpList_append_t _ rfl (.tmp 17) (.tmp 19) rfl w.heap.size u3 (setN f k) nm w3.heap.size 1 rfl rfl ?_ ?_ ?_ ?_ ?_; (exact HOA.out); (exact HN0.out); (omega); (exact HA.out.size); intro v4 w4 ho4 hg4)
          | go_in)
        exact ⟨⟨k + 1, by omega, by go_num, by rw [HS.out]; exact ho4, HA.out.grown hg4 HA.out.size HLO.out⟩, by simp [intOf]; omega⟩
    · obtain rfl : k = 31 := by omega
      have hz := flS_size f 31
      have HJ := hide (flS_join f 31)
      have hsl := setN_len f 31
      have HW := hide hw
      generalize hSe : flS f 31 = S at hz HJ
      have HSe := hide hSe
      clear hSe hw
      have hz2 : S.size ≤ 1000 := by omega
      rcases ho.at with ⟨rfl, hs0⟩ | ⟨g, cap, rfl, hg, hgb, hcap, hcells⟩
      · rw [hs0] at HJ
        have HS0 : Hid (S = ⟨#[]⟩) := hide (by rw [← HJ.out]; rfl)
        clear HJ hs0 ho
        go_wp2_with fail
        refine (Try.strings_Join_none none 0 ⟨#[32]⟩ wr).mono ?_
        rintro e w5 ⟨rfl, rfl⟩
        go_wp2
        go_ret
        exact ⟨by rw [HSe.out, HS0.out]; rfl, HW.out⟩
      · have HJC := hide (Try.strings_Join g 0 cap (setN f 31) ⟨#[32]⟩ wr hcells hg (by omega) hcap (by have := congrArg (fun b : ByteArray => b.data.toList.length) HJ.out; simp only at this; rw [this]; show S.size ≤ _; omega))
        rw [HJ.out] at HJC
        clear HJ ho hcells
        generalize (setN f 31).length = sl at HJC hsl hcap ⊢
        go_wp2_with fail
        refine HJC.out.mono ?_
        rintro e w5 ⟨rfl, hb5⟩
        have HW5 := hide (HW.out.trans (hb5.mono HW.out.size))
        clear hb5 HJC
        go_wp2
        go_ret
        exact ⟨by rw [HSe.out]; rfl, HW5.out⟩
end Go.Proofs.Ytokcdpamcbpaiaa
