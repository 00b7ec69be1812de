import Derived.Test.YtpedmebigcchnaaGreatDoorPka
import Derived.Test.YtpedmebigcchnaaGreatDoorPkc
import Derived.Test.YtpedmebigcchnaaGreatDoorPkd
namespace Go.Proofs.YtpedmebigcchnaaGreatDoor
open Go.RowKit
/-- What l4Cut answers. -/
def CutIs (t : List UInt8) (b : UInt8) (a c : List UInt8) (ok : Bool) : Prop := (ok = true ∧ t = a ++ b :: c ∧ b ∉ a) ∨ (ok = false ∧ b ∉ t ∧ a = t ∧ c = [])
theorem ext_list (s : ByteArray) (a b : Nat) : (s.extract a b).data.toList = (s.data.toList.drop a).take (b - a) := by
  rw [ByteArray.data_extract, Array.toList_extract]
theorem sz_list (s : ByteArray) : s.data.toList.length = s.size := rfl
theorem drewN_add (w : World) (n m : Nat) : (w.drewN n).drewN m = w.drewN (n + m) := by
  unfold World.drewN; simp; omega
def CutPost (s : ByteArray) (b : UInt8) (w : World) (e : Ending) (w' : World) : Prop := ∃ (x y : ByteArray) (ok : Bool), e = .returned (.tuple #[.string x, .string y, .bool ok]) ∧ CutIs s.data.toList b x.data.toList y.data.toList ok ∧ ∃ n, w' = w.drewN n
theorem l4Cut_any (s : ByteArray) (b : UInt8) (w : World) (hs : s.size ≤ 1048576) :
    Calls Tryz.prog 14 #[.string s, .int .u8 (b.toNat : Int)] w (CutPost s b w) := by
  go_enter Tryz.func14, Tryz.ntmps14
  go_wp2
  go_loopw [7] (fun i wr => ∃ k : Nat, k ≤ s.size ∧ i = .int .i64 (k : Int) ∧ Hid (b ∉ s.data.toList.take k) ∧ ∃ n, wr = w.drewN n) (fun i _ => s.size - (RowKit.intOf i).toNat)
  case atStart => exact ⟨0, Nat.zero_le _, rfl, by show _ ∉ _; simp, 0, rfl⟩
  case round =>
    obtain ⟨i, hi, rfl, HN, n, rfl⟩ := hrel
    by_cases hlt : i < s.size
    · by_cases hq : s[i] = b
      · have he : ((s[i].toNat : Int) == (b.toNat : Int)) = true := by rw [hq]; simp
        have hA : (i : Int) ≤ (s.size : Int) := by omega
        have hB : (i : Int) + 1 ≤ (s.size : Int) := by omega
        go_wp2
        go_quiet (fail)
        go_wp2
        go_ret3
        refine ⟨s.extract 0 i, s.extract (i + 1) s.size, true, rfl, Or.inl ⟨rfl, ?_, ?_⟩, n + nq, ?_⟩
        · rw [ext_list, ext_list]
          have hl : i < s.data.toList.length := hlt
          have hsz : s.size = s.data.toList.length := rfl
          rw [hsz, List.drop_zero, Nat.sub_zero, List.take_of_length_le (l := s.data.toList.drop (i + 1)) (by simp)]
          have hb : s.data.toList[i] = b := hq
          rw [← hb]
          conv => lhs; rw [← List.take_append_drop i s.data.toList, List.drop_eq_getElem_cons hl]
        · rw [ext_list, List.drop_zero, Nat.sub_zero]
          exact HN.out
        · exact drewN_add w n nq
      · have he : ((s[i].toNat : Int) == (b.toNat : Int)) = false := by
          have : s[i].toNat ≠ b.toNat := fun e => hq (UInt8.toNat_inj.1 e)
          simp; omega
        go_wp2
        go_roundw
        case rel =>
          refine ⟨i + 1, by omega, by go_num, ?_, n, rfl⟩
          show b ∉ s.data.toList.take (i + 1)
          have hl : i < s.data.toList.length := hlt
          rw [List.take_succ_eq_append_getElem hl, List.mem_append]
          intro h
          rcases h with h | h
          · exact HN.out h
          · rw [List.mem_singleton] at h
            exact hq h.symm
        case measure => simp [RowKit.intOf]; omega
    · have hie : i = s.size := by omega
      subst hie
      go_wp2
      go_ret3
      refine ⟨s, ⟨#[]⟩, false, rfl, Or.inr ⟨rfl, ?_, rfl, rfl⟩, n, rfl⟩
      have h := HN.out
      rw [List.take_of_length_le (Nat.le_of_eq (sz_list s))] at h
      exact h
end Go.Proofs.YtpedmebigcchnaaGreatDoor
namespace Go.Proofs.YtpedmebigcchnaaGreatDoor
open Go.RowKit
theorem nd_le (k m : Nat) (h : m < 10 ^ (k + 1)) : Lib.nDigits m ≤ k + 1 := by
  induction k generalizing m with
  | zero => rw [Lib.nDigits_small (by simpa using h)]; omega
  | succ k ih =>
    by_cases h10 : m < 10
    · rw [Lib.nDigits_small h10]; omega
    · rw [Lib.nDigits_big h10]
      have := ih (m / 10) (by rw [Nat.pow_succ] at h; omega)
      omega
theorem valD_lt (l : List UInt8) (h : ∀ c ∈ l, isDig c) (acc k : Nat) (ha : acc < 10 ^ k) : valD acc l < 10 ^ (k + l.length) := by
  induction l generalizing acc k with
  | nil => simpa [valD] using ha
  | cons c r ih =>
    have hc := h c (List.mem_cons_self ..)
    have := ih (fun x hx => h x (List.mem_cons_of_mem _ hx)) (acc * 10 + (c.toNat - 48)) (k + 1) (by
      rw [Nat.pow_succ]
      have := hc.2
      omega)
    show valD (acc * 10 + (c.toNat - 48)) r < _
    rw [List.length_cons, show k + (r.length + 1) = k + 1 + r.length from by omega]
    exact this
/-- What l4Number answers. -/
def NumIs (t : List UInt8) (n : Nat) (ok : Bool) : Prop := (ok = true ∧ t = Lib.decDigits n ∧ n < 10000000000000) ∨ (ok = false ∧ ∀ m, m < 10000000000000 → t ≠ Lib.decDigits m)
theorem num_len {t : List UInt8} (h : t.length < 1 ∨ 13 < t.length) : NumIs t 0 false := Or.inr ⟨rfl, fun m hm e => by
  have h1 := Lib.decDigits_length m
  have h2 := Lib.nDigits_pos m
  have h3 := nd_le 12 m (by simpa using hm)
  rw [← e] at h1
  omega⟩
theorem num_dig {t : List UInt8} {c : UInt8} (hc : c ∈ t) (h : ¬ isDig c) : NumIs t 0 false := Or.inr ⟨rfl, fun m _ e => h (dec_digits m c (e ▸ hc))⟩
theorem take_next {t : List UInt8} {i : Nat} (h : i < t.length) : valD 0 (t.take (i + 1)) = valD 0 (t.take i) * 10 + (t[i].toNat - 48) := by
  rw [List.take_succ_eq_append_getElem h, valD_snoc]
def NumPost (s : ByteArray) (w : World) (e : Ending) (w' : World) : Prop := ∃ (n : Nat) (ok : Bool), e = .returned (.tuple #[.int .i64 (n : Int), .bool ok]) ∧ NumIs s.data.toList n ok ∧ Below w.heap.size w w'
set_option maxRecDepth 20000 in
theorem l4Number_any (s : ByteArray) (w : World) (hs : s.size ≤ 1048576) :
    Calls Tryz.prog 69 #[.string s] w (NumPost s w) := by
  have hsz : s.data.toList.length = s.size := rfl
  by_cases h1 : s.size < 1
  · have hi : (s.size : Int) < 1 := by omega
    go_enter Tryz.func69, Tryz.ntmps69
    go_wp2
    go_ret2
    exact ⟨0, false, rfl, num_len (by omega), Below.refl _ _⟩
  · have hi : ¬ (s.size : Int) < 1 := by omega
    by_cases h2 : 13 < s.size
    · have hi2 : (13 : Int) < (s.size : Int) := by omega
      go_enter Tryz.func69, Tryz.ntmps69
      go_wp2
      go_ret2
      exact ⟨0, false, rfl, num_len (by omega), Below.refl _ _⟩
    · have hi2 : ¬ (13 : Int) < (s.size : Int) := by omega
      go_enter Tryz.func69, Tryz.ntmps69
      go_wp2
      go_loopw [4, 5] (fun v i wr => ∃ k : Nat, k ≤ s.size ∧ i = .int .i64 (k : Int) ∧ v = .int .i64 ((valD 0 (s.data.toList.take k) : Nat) : Int) ∧ Hid (∀ c ∈ s.data.toList.take k, isDig c) ∧ ∃ n, wr = w.drewN n) (fun _ i _ => s.size - (RowKit.intOf i).toNat)
      case atStart => exact ⟨0, Nat.zero_le _, rfl, rfl, by show ∀ c ∈ _, _; simp, 0, rfl⟩
      case round =>
        obtain ⟨i, hi', rfl, rfl, HD, n, rfl⟩ := hrel
        by_cases hlt : i < s.size
        · have hl : i < s.data.toList.length := by omega
          have hv := valD_lt _ HD.out 0 0 (by decide)
          have hp : (10 : Nat) ^ (0 + (s.data.toList.take i).length) ≤ 10 ^ 12 := Nat.pow_le_pow_right (by omega) (by rw [List.length_take]; omega)
          have HN := hide (take_next hl)
          have hbe : s.data.toList[i] = s[i] := rfl
          have hv12 : valD 0 (s.data.toList.take i) < 1000000000000 := Nat.lt_of_lt_of_le hv (by simpa using hp)
          clear hv hp
          generalize valD 0 (s.data.toList.take i) = v at HN hv12 ⊢
          by_cases hd : isDig s[i]
          · obtain ⟨hd1, hd2⟩ := hd
            have e1 : ¬ (s[i].toNat : Int) < 48 := by omega
            have e2 : ¬ (57 : Int) < (s[i].toNat : Int) := by omega
            obtain ⟨d, hd9⟩ : ∃ d, s[i].toNat = 48 + d := ⟨s[i].toNat - 48, by omega⟩
            have hd1' : (48 : Int) ≤ (s[i].toNat : Int) := by omega
            go_wp2
            go_roundw
            case rel =>
              refine ⟨i + 1, by omega, by go_num, ?_, ?_, n, rfl⟩
              · rw [HN.out, hbe]
                congr 1
                omega
              · show ∀ c ∈ s.data.toList.take (i + 1), isDig c
                rw [List.take_succ_eq_append_getElem hl]
                intro c hc
                rcases List.mem_append.1 hc with hc | hc
                · exact HD.out c hc
                · rw [List.mem_singleton] at hc
                  rw [hc, hbe]
                  exact ⟨hd1, hd2⟩
            case measure => simp [RowKit.intOf]; omega
          · have hno := hide (num_dig (t := s.data.toList) (c := s[i]) (by rw [← hbe]; exact List.getElem_mem hl) hd)
            by_cases e1 : s[i].toNat < 48
            · have e1' : (s[i].toNat : Int) < 48 := by omega
              go_wp2
              go_ret2
              exact ⟨0, false, rfl, hno.out, below_drewN (Below.refl _ _) n⟩
            · have e2 : 57 < s[i].toNat := by unfold isDig at hd; omega
              have e1' : ¬ (s[i].toNat : Int) < 48 := by omega
              have e2' : (57 : Int) < (s[i].toNat : Int) := by omega
              go_wp2
              go_ret2
              exact ⟨0, false, rfl, hno.out, below_drewN (Below.refl _ _) n⟩
        · have hie : i = s.size := by omega
          subst hie
          have hD := HD.out
          rw [List.take_of_length_le (Nat.le_of_eq (sz_list s))] at hD ⊢
          have hv := valD_lt _ hD 0 0 (by decide)
          have hp : (10 : Nat) ^ (0 + s.data.toList.length) ≤ 10 ^ 13 := Nat.pow_le_pow_right (by omega) (by omega)
          have hv13 : valD 0 s.data.toList < 10000000000000 := Nat.lt_of_lt_of_le hv (by simpa using hp)
          have D := hide (fun w => l1Dec_any (valD 0 s.data.toList) w (by omega))
          have hbq : ((decS (valD 0 s.data.toList)).toList == s.toList) = decide (Lib.decDigits (valD 0 s.data.toList) = s.data.toList) := by
            rw [ByteArray.toList_eq, ByteArray.toList_eq]
            show (Lib.decDigits (valD 0 s.data.toList) == s.data.toList) = _
            by_cases h : Lib.decDigits (valD 0 s.data.toList) = s.data.toList
            · rw [decide_eq_true h, h]; simp
            · rw [decide_eq_false h]; exact beq_eq_false_iff_ne.2 h
          have hno : ∀ m, s.data.toList = Lib.decDigits m → Lib.decDigits (valD 0 s.data.toList) = s.data.toList := fun m e => by rw [e, dec_val]
          have HF := hide (And.intro hbq hno)
          clear hv hp hbq hno hD
          generalize decS (valD 0 s.data.toList) = z at D HF
          generalize hvv : valD 0 s.data.toList = v at D HF hv13 ⊢
          clear hvv
          go_wp2_with fail
          refine (D.out _).mono ?_
          rintro e w1 ⟨rfl, hb1⟩
          go_wp2
          go_ret2
          have hbb : Below w.heap.size w w1 := (below_drewN (Below.refl _ _) n).trans (hb1.mono (Nat.le_refl _))
          obtain ⟨hq, hno⟩ := HF.out
          refine ⟨v, z.toList == s.toList, rfl, ?_, hbb⟩
          by_cases h : Lib.decDigits v = s.data.toList
          · rw [hq, decide_eq_true h]
            exact Or.inl ⟨rfl, h.symm, hv13⟩
          · rw [hq, decide_eq_false h]
            exact Or.inr ⟨rfl, fun m _ e => h (hno m e)⟩
end Go.Proofs.YtpedmebigcchnaaGreatDoor
