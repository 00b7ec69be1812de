import Derived.Test.YtledlicandlekaaDoorMem
namespace Go.Proofs.YtledlicandlekaaDoor
open Go.RowKit
/-- What l4Cut answers. -/
def CutIs (t : List UInt8) (b : UInt8) (a c : List UInt8) (ok : Bool) : Prop := (ok = true ∧ t = a ++ b :: c ∧ b ∉ a) ∨ (ok = false ∧ b ∉ t ∧ a = t ∧ c = [])
theorem ext_list (s : ByteArray) (a b : Nat) : (s.extract a b).data.toList = (s.data.toList.drop a).take (b - a) := by
  rw [ByteArray.data_extract, Array.toList_extract]
theorem sz_list (s : ByteArray) : s.data.toList.length = s.size := rfl
theorem drewN_add (w : World) (n m : Nat) : (w.drewN n).drewN m = w.drewN (n + m) := by
  unfold World.drewN; simp; omega
def CutPost (s : ByteArray) (b : UInt8) (w : World) (e : Ending) (w' : World) : Prop := ∃ (x y : ByteArray) (ok : Bool), e = .returned (.tuple #[.string x, .string y, .bool ok]) ∧ CutIs s.data.toList b x.data.toList y.data.toList ok ∧ ∃ n, w' = w.drewN n
theorem l4Cut_any (s : ByteArray) (b : UInt8) (w : World) (hs : s.size ≤ 1048576) :
    Calls Tryd.prog 47 #[.string s, .int .u8 (b.toNat : Int)] w (CutPost s b w) := by
  go_enter Tryd.func47, Tryd.ntmps47
  go_wp2
  go_loopw [7] (fun i wr => ∃ k : Nat, k ≤ s.size ∧ i = .int .i64 (k : Int) ∧ Hid (b ∉ s.data.toList.take k) ∧ ∃ n, wr = w.drewN n) (fun i _ => s.size - (RowKit.intOf i).toNat)
  case atStart => exact ⟨0, Nat.zero_le _, rfl, by show _ ∉ _; simp, 0, rfl⟩
  case round =>
    obtain ⟨i, hi, rfl, HN, n, rfl⟩ := hrel
    by_cases hlt : i < s.size
    · by_cases hq : s[i] = b
      · have he : ((s[i].toNat : Int) == (b.toNat : Int)) = true := by rw [hq]; simp
        have hA : (i : Int) ≤ (s.size : Int) := by omega
        have hB : (i : Int) + 1 ≤ (s.size : Int) := by omega
        go_wp2
        go_quiet (fail)
        go_wp2
        go_ret3
        refine ⟨s.extract 0 i, s.extract (i + 1) s.size, true, rfl, Or.inl ⟨rfl, ?_, ?_⟩, n + nq, ?_⟩
        · rw [ext_list, ext_list]
          have hl : i < s.data.toList.length := hlt
          have hsz : s.size = s.data.toList.length := rfl
          rw [hsz, List.drop_zero, Nat.sub_zero, List.take_of_length_le (l := s.data.toList.drop (i + 1)) (by simp)]
          have hb : s.data.toList[i] = b := hq
          rw [← hb]
          conv => lhs; rw [← List.take_append_drop i s.data.toList, List.drop_eq_getElem_cons hl]
        · rw [ext_list, List.drop_zero, Nat.sub_zero]
          exact HN.out
        · exact drewN_add w n nq
      · have he : ((s[i].toNat : Int) == (b.toNat : Int)) = false := by
          have : s[i].toNat ≠ b.toNat := fun e => hq (UInt8.toNat_inj.1 e)
          simp; omega
        go_wp2
        go_roundw
        case rel =>
          refine ⟨i + 1, by omega, by go_num, ?_, n, rfl⟩
          show b ∉ s.data.toList.take (i + 1)
          have hl : i < s.data.toList.length := hlt
          rw [List.take_succ_eq_append_getElem hl, List.mem_append]
          intro h
          rcases h with h | h
          · exact HN.out h
          · rw [List.mem_singleton] at h
            exact hq h.symm
        case measure => simp [RowKit.intOf]; omega
    · have hie : i = s.size := by omega
      subst hie
      go_wp2
      go_ret3
      refine ⟨s, ⟨#[]⟩, false, rfl, Or.inr ⟨rfl, ?_, rfl, rfl⟩, n, rfl⟩
      have h := HN.out
      rw [List.take_of_length_le (Nat.le_of_eq (sz_list s))] at h
      exact h
end Go.Proofs.YtledlicandlekaaDoor
