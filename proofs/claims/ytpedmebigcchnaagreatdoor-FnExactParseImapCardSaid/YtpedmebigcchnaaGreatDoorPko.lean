import Derived.Test.YtpedmebigcchnaaGreatDoorPkh
import Derived.Test.YtpedmebigcchnaaGreatDoorPkn
import Derived.Test.YtpedmebigcchnaaGreatDoorPkk
import Derived.Test.YtpedmebigcchnaaGreatDoorPkl
namespace Go.Proofs.YtpedmebigcchnaaGreatDoor
open Go.RowKit
def BrkPost (s : ByteArray) (e : Ending) : Prop := ∃ (x : ByteArray) (ok : Bool), e = .returned (.tuple #[.string x, .bool ok]) ∧ ((ok = true ∧ brk s.data.toList = some x.data.toList) ∨ (ok = false ∧ brk s.data.toList = none))
theorem u8_ne {x : UInt8} {n : Nat} (h : x ≠ UInt8.ofNat n) (hn : n < 256 := by decide) : ((x.toNat : Int) == (n : Int)) = false := by
  rw [beq_eq_false_iff_ne]
  intro e
  apply h
  apply UInt8.toNat_inj.1
  simp
  omega
theorem brk_no {s : ByteArray} {x : ByteArray} (h : ¬ (2 ≤ s.size ∧ s.data.toList.head? = some 40 ∧ s.data.toList.getLast? = some 41)) : BrkPost s (.returned (.tuple #[.string x, .bool false])) := ⟨x, false, rfl, .inr ⟨rfl, if_neg h⟩⟩
set_option maxRecDepth 20000 in
set_option maxHeartbeats 1000000 in
theorem l6Brackets_any (s : ByteArray) (w : World) (hs : s.size ≤ 1048576) :
    Calls Tryz.prog 32 #[.string s] w fun e w' => BrkPost s e ∧ ∃ n, w' = w.drewN n := by
  by_cases h2 : 2 ≤ s.size
  · have hh : s.data.toList.head? = some s[0] := by
      rw [List.head?_eq_getElem?, List.getElem?_eq_getElem (show 0 < s.data.toList.length from (show 0 < s.size by omega))]
      rfl
    have hl : s.data.toList.getLast? = some (s[s.size - 1]'(by omega)) := by
      rw [List.getLast?_eq_getElem?, List.getElem?_eq_getElem (show s.data.toList.length - 1 < s.data.toList.length from (show s.size - 1 < s.size by omega))]
      rfl
    have hi2 : ¬ (s.size : Int) < 2 := by omega
    by_cases h0 : s[0] = 40
    · by_cases h1 : s[s.size - 1]'(by omega) = 41
      · have HY := hide (show brk s.data.toList = some (s.extract 1 (s.size - 1)).data.toList by
          unfold brk
          rw [if_pos ⟨h2, by rw [hh, h0], by rw [hl, h1]⟩, ext_list]
          rfl)
        clear hh hl
        go_enter Tryz.func32, Tryz.ntmps32
        go_wp2
        go_ret2
        exact ⟨⟨_, true, rfl, .inl ⟨rfl, HY.out⟩⟩, 0, rfl⟩
      · have HN := hide (brk_no (s := s) (x := ⟨#[]⟩) (fun h => h1 (by have := h.2.2; rw [hl] at this; simpa using this)))
        have hb1 : (((s[s.size - 1]'(by omega)).toNat : Int) == 41) = false := u8_ne h1
        clear hh hl
        go_enter Tryz.func32, Tryz.ntmps32
        go_wp2
        go_ret2
        exact ⟨HN.out, 0, rfl⟩
    · have HN := hide (brk_no (s := s) (x := ⟨#[]⟩) (fun h => h0 (by have := h.2.1; rw [hh] at this; simpa using this)))
      have hb0 : ((s[0].toNat : Int) == 40) = false := u8_ne h0
      clear hh hl
      go_enter Tryz.func32, Tryz.ntmps32
      go_wp2
      go_ret2
      exact ⟨HN.out, 0, rfl⟩
  · have hi2 : (s.size : Int) < 2 := by omega
    have HN := hide (brk_no (s := s) (x := ⟨#[]⟩) (fun h => h2 h.1))
    go_enter Tryz.func32, Tryz.ntmps32
    go_wp2
    go_ret2
    exact ⟨HN.out, 0, rfl⟩
end Go.Proofs.YtpedmebigcchnaaGreatDoor
namespace Go.Proofs.YtpedmebigcchnaaGreatDoor
open Go.RowKit Go.Lib
set_option linter.unusedVariables false
theorem tag_short {t : List UInt8} (h : t.length < 1 ∨ 20 < t.length) : tagOk t = false := by
  unfold tagOk
  rw [decide_eq_false (by omega)]
  rfl
theorem tag_all {t : List UInt8} (h1 : 1 ≤ t.length) (h2 : t.length ≤ 20) (h : ∀ k, k < t.length → (t.take k).all isAl = true → (t.take (k + 1)).all isAl = true) : tagOk t = t.all isAl := by
  unfold tagOk
  rw [decide_eq_true ⟨h1, h2⟩]
  rfl
theorem tag_mid {t : List UInt8} (h1 : 1 ≤ t.length) (h2 : t.length ≤ 20) : tagOk t = t.all isAl := by
  unfold tagOk
  rw [decide_eq_true ⟨h1, h2⟩]
  rfl
theorem all_step {t : List UInt8} {k : Nat} (hk : k < t.length) (h : (t.take k).all isAl = true) (hc : isAl t[k] = true) : (t.take (k + 1)).all isAl = true := by
  rw [List.take_succ_eq_append_getElem hk, List.all_append, h]
  simp [hc]
theorem all_stop {t : List UInt8} {k : Nat} (hk : k < t.length) (hc : isAl t[k] = false) : t.all isAl = false := by
  rw [List.all_eq_false]
  exact ⟨t[k], List.getElem_mem hk, by rw [hc]; simp⟩
set_option maxRecDepth 20000 in
set_option maxHeartbeats 1000000 in
theorem l6Tag_any (s : ByteArray) (w : World) (hs : s.size ≤ 1048576) :
    Calls Tryz.prog 15 #[.string s] w fun e w' => e = .returned (.bool (tagOk s.data.toList)) ∧ w' = w := by
  have hsl : s.data.toList.length = s.size := rfl
  by_cases h1 : s.size < 1
  · have h1i : (s.size : Int) < 1 := by omega
    have HT := hide (tag_short (t := s.data.toList) (by omega))
    rw [HT.out]
    clear h1 hsl HT
    go_enter Tryz.func15, Tryz.ntmps15
    go_wp2
    go_ret
    exact ⟨rfl, rfl⟩
  by_cases h2 : 20 < s.size
  · have h1i : ¬ (s.size : Int) < 1 := by omega
    have h2i : (20 : Int) < (s.size : Int) := by omega
    have HT := hide (tag_short (t := s.data.toList) (by omega))
    rw [HT.out]
    clear h1 hsl HT
    go_enter Tryz.func15, Tryz.ntmps15
    go_wp2
    go_ret
    exact ⟨rfl, rfl⟩
  have h1i : ¬ (s.size : Int) < 1 := by omega
  have h2i : ¬ (20 : Int) < (s.size : Int) := by omega
  have HT := hide (tag_mid (t := s.data.toList) (by omega) (by omega))
  rw [HT.out]
  generalize hA : s.data.toList.all isAl = A
  have HA := hide hA
  clear hA
  go_enter Tryz.func15, Tryz.ntmps15
  go_wp2
  go_loopw [3, 4] (fun i _ wr => ∃ k : Nat, k ≤ s.size ∧ i = .int .i64 (k : Int) ∧ Hid ((s.data.toList.take k).all isAl = true) ∧ wr = w) (fun i _ _ => s.size - (RowKit.intOf i).toNat)
  case atStart => exact ⟨0, Nat.zero_le _, rfl, hide (by simp), rfl⟩
  case round =>
    obtain ⟨k, hk, rfl, HN, rfl⟩ := hrel
    by_cases hlt : k < s.size
    · have hlt' : k < s.data.toList.length := hlt
      have hc : s[k] = s.data.toList[k] := rfl
      have HS := hide (fun hx => all_step hlt' HN.out hx)
      have HX := hide (fun hx => HA.out.symm.trans (all_stop (t := s.data.toList) hlt' hx))
      rw [← hc] at HS HX
      have hal : isAl s[k] = (decide (48 ≤ s[k].toNat ∧ s[k].toNat ≤ 57) || decide (97 ≤ s[k].toNat ∧ s[k].toNat ≤ 122) || decide (65 ≤ s[k].toNat ∧ s[k].toNat ≤ 90)) := rfl
      have HAL := hide hal
      have hki : (k : Int) < (s.size : Int) := by omega
      clear hal hc hsl HT HN
      by_cases i0 : s[k].toNat < 48
      · have g0 : ¬ (48 : Int) ≤ (s[k].toNat : Int) := by omega
        have g1 : (s[k].toNat : Int) ≤ 57 := by omega
        have g2 : ¬ (97 : Int) ≤ (s[k].toNat : Int) := by omega
        have g3 : (s[k].toNat : Int) ≤ 122 := by omega
        have g4 : ¬ (65 : Int) ≤ (s[k].toNat : Int) := by omega
        have g5 : (s[k].toNat : Int) ≤ 90 := by omega
        have HG := hide (HX.out (by rw [HAL.out]; simp; omega))
        clear HS HX HAL
        go_wp2
        go_ret
        exact ⟨by rw [HG.out]; rfl, rfl⟩
      by_cases i1 : 48 ≤ s[k].toNat ∧ s[k].toNat ≤ 57
      · have g0 : (48 : Int) ≤ (s[k].toNat : Int) := by omega
        have g1 : (s[k].toNat : Int) ≤ 57 := by omega
        have g2 : ¬ (97 : Int) ≤ (s[k].toNat : Int) := by omega
        have g3 : (s[k].toNat : Int) ≤ 122 := by omega
        have g4 : ¬ (65 : Int) ≤ (s[k].toNat : Int) := by omega
        have g5 : (s[k].toNat : Int) ≤ 90 := by omega
        have HG := hide (HS.out (by rw [HAL.out]; simp; omega))
        clear HS HX HAL
        go_wp2
        go_roundw
        case rel => exact ⟨k + 1, by omega, by go_num, HG, trivial⟩
        case measure => simp [RowKit.intOf]; omega
      by_cases i2 : 57 < s[k].toNat ∧ s[k].toNat < 65
      · have g0 : (48 : Int) ≤ (s[k].toNat : Int) := by omega
        have g1 : ¬ (s[k].toNat : Int) ≤ 57 := by omega
        have g2 : ¬ (97 : Int) ≤ (s[k].toNat : Int) := by omega
        have g3 : (s[k].toNat : Int) ≤ 122 := by omega
        have g4 : ¬ (65 : Int) ≤ (s[k].toNat : Int) := by omega
        have g5 : (s[k].toNat : Int) ≤ 90 := by omega
        have HG := hide (HX.out (by rw [HAL.out]; simp; omega))
        clear HS HX HAL
        go_wp2
        go_ret
        exact ⟨by rw [HG.out]; rfl, rfl⟩
      by_cases i3 : 65 ≤ s[k].toNat ∧ s[k].toNat ≤ 90
      · have g0 : (48 : Int) ≤ (s[k].toNat : Int) := by omega
        have g1 : ¬ (s[k].toNat : Int) ≤ 57 := by omega
        have g2 : ¬ (97 : Int) ≤ (s[k].toNat : Int) := by omega
        have g3 : (s[k].toNat : Int) ≤ 122 := by omega
        have g4 : (65 : Int) ≤ (s[k].toNat : Int) := by omega
        have g5 : (s[k].toNat : Int) ≤ 90 := by omega
        have HG := hide (HS.out (by rw [HAL.out]; simp; omega))
        clear HS HX HAL
        go_wp2
        go_roundw
        case rel => exact ⟨k + 1, by omega, by go_num, HG, trivial⟩
        case measure => simp [RowKit.intOf]; omega
      by_cases i4 : 90 < s[k].toNat ∧ s[k].toNat < 97
      · have g0 : (48 : Int) ≤ (s[k].toNat : Int) := by omega
        have g1 : ¬ (s[k].toNat : Int) ≤ 57 := by omega
        have g2 : ¬ (97 : Int) ≤ (s[k].toNat : Int) := by omega
        have g3 : (s[k].toNat : Int) ≤ 122 := by omega
        have g4 : (65 : Int) ≤ (s[k].toNat : Int) := by omega
        have g5 : ¬ (s[k].toNat : Int) ≤ 90 := by omega
        have HG := hide (HX.out (by rw [HAL.out]; simp; omega))
        clear HS HX HAL
        go_wp2
        go_ret
        exact ⟨by rw [HG.out]; rfl, rfl⟩
      by_cases i5 : 97 ≤ s[k].toNat ∧ s[k].toNat ≤ 122
      · have g0 : (48 : Int) ≤ (s[k].toNat : Int) := by omega
        have g1 : ¬ (s[k].toNat : Int) ≤ 57 := by omega
        have g2 : (97 : Int) ≤ (s[k].toNat : Int) := by omega
        have g3 : (s[k].toNat : Int) ≤ 122 := by omega
        have g4 : (65 : Int) ≤ (s[k].toNat : Int) := by omega
        have g5 : ¬ (s[k].toNat : Int) ≤ 90 := by omega
        have HG := hide (HS.out (by rw [HAL.out]; simp; omega))
        clear HS HX HAL
        go_wp2
        go_roundw
        case rel => exact ⟨k + 1, by omega, by go_num, HG, trivial⟩
        case measure => simp [RowKit.intOf]; omega
      have g0 : (48 : Int) ≤ (s[k].toNat : Int) := by omega
      have g1 : ¬ (s[k].toNat : Int) ≤ 57 := by omega
      have g2 : (97 : Int) ≤ (s[k].toNat : Int) := by omega
      have g3 : ¬ (s[k].toNat : Int) ≤ 122 := by omega
      have g4 : (65 : Int) ≤ (s[k].toNat : Int) := by omega
      have g5 : ¬ (s[k].toNat : Int) ≤ 90 := by omega
      have HG := hide (HX.out (by rw [HAL.out]; simp; omega))
      clear HS HX HAL
      go_wp2
      go_ret
      exact ⟨by rw [HG.out]; rfl, rfl⟩
    · have hke : k = s.size := by omega
      subst hke
      have HG := hide (show A = true by have h := HN.out; rw [List.take_of_length_le (Nat.le_of_eq hsl)] at h; exact HA.out.symm.trans h)
      clear HN HT hsl
      go_wp2
      go_ret
      exact ⟨by rw [HG.out]; rfl, rfl⟩
theorem item_is (u : ByteArray) : itemOf u = if u = strB [85, 73, 68] then 1 else if u = strB [70, 76, 65, 71, 83] then 2 else if u = strB [82, 70, 67, 56, 50, 50, 46, 83, 73, 90, 69] then 4 else if u = strB [66, 79, 68, 89, 91, 93] then 8 else 0 := rfl
set_option maxRecDepth 20000 in
set_option maxHeartbeats 1000000 in
theorem l6Item_any (s : ByteArray) (w : World) (hs : s.size ≤ 1048576) :
    Calls Tryz.prog 48 #[.string s] w fun e w' => e = .returned (.int .i64 ((itemOf (upB s) : Nat) : Int)) ∧ Below w.heap.size w w' := by
  have HL := hide (loB_any s w hs)
  have HII := hide (item_is (upB s))
  generalize itemOf (upB s) = I at HII ⊢
  go_enter Tryz.func48, Tryz.ntmps48
  go_wp2_with fail
  refine HL.out.mono ?_
  rintro e w1 ⟨rfl, hb1⟩
  have HB := hide hb1
  clear hb1 HL
  by_cases v0 : upB s = strB [85, 73, 68]
  · have e0 := lo_yes (c := [85, 73, 68]) (d := [117, 105, 100]) (e := [117, 105, 100]) v0 (by decide) (by decide) (by decide) (by decide) rfl
    have HI := hide (show I = 1 by rw [HII.out, if_pos v0])
    clear v0
    generalize loB s = lo at e0 ⊢
    go_wp2
    go_ret
    exact ⟨by rw [HI.out]; rfl, HB.out⟩
  have e0 := lo_no (c := [85, 73, 68]) (d := [117, 105, 100]) (e := [117, 105, 100]) v0 (by decide) (by decide) (by decide) (by decide) rfl
  by_cases v1 : upB s = strB [70, 76, 65, 71, 83]
  · have e1 := lo_yes (c := [70, 76, 65, 71, 83]) (d := [102, 108, 97, 103, 115]) (e := [102, 108, 97, 103, 115]) v1 (by decide) (by decide) (by decide) (by decide) rfl
    have HI := hide (show I = 2 by rw [HII.out, if_neg v0, if_pos v1])
    clear v0 v1
    generalize loB s = lo at e0 e1 ⊢
    go_wp2
    go_ret
    exact ⟨by rw [HI.out]; rfl, HB.out⟩
  have e1 := lo_no (c := [70, 76, 65, 71, 83]) (d := [102, 108, 97, 103, 115]) (e := [102, 108, 97, 103, 115]) v1 (by decide) (by decide) (by decide) (by decide) rfl
  by_cases v2 : upB s = strB [82, 70, 67, 56, 50, 50, 46, 83, 73, 90, 69]
  · have e2 := lo_yes (c := [82, 70, 67, 56, 50, 50, 46, 83, 73, 90, 69]) (d := [114, 102, 99, 56, 50, 50, 46, 115, 105, 122, 101]) (e := [114, 102, 99, 56, 50, 50, 46, 115, 105, 122, 101]) v2 (by decide) (by decide) (by decide) (by decide) rfl
    have HI := hide (show I = 4 by rw [HII.out, if_neg v0, if_neg v1, if_pos v2])
    clear v0 v1 v2
    generalize loB s = lo at e0 e1 e2 ⊢
    go_wp2
    go_ret
    exact ⟨by rw [HI.out]; rfl, HB.out⟩
  have e2 := lo_no (c := [82, 70, 67, 56, 50, 50, 46, 83, 73, 90, 69]) (d := [114, 102, 99, 56, 50, 50, 46, 115, 105, 122, 101]) (e := [114, 102, 99, 56, 50, 50, 46, 115, 105, 122, 101]) v2 (by decide) (by decide) (by decide) (by decide) rfl
  by_cases v3 : upB s = strB [66, 79, 68, 89, 91, 93]
  · have e3 := lo_yes (c := [66, 79, 68, 89, 91, 93]) (d := [98, 111, 100, 121, 91, 93]) (e := [98, 111, 100, 121, 91, 93]) v3 (by decide) (by decide) (by decide) (by decide) rfl
    have HI := hide (show I = 8 by rw [HII.out, if_neg v0, if_neg v1, if_neg v2, if_pos v3])
    clear v0 v1 v2 v3
    generalize loB s = lo at e0 e1 e2 e3 ⊢
    go_wp2
    go_ret
    exact ⟨by rw [HI.out]; rfl, HB.out⟩
  have e3 := lo_no (c := [66, 79, 68, 89, 91, 93]) (d := [98, 111, 100, 121, 91, 93]) (e := [98, 111, 100, 121, 91, 93]) v3 (by decide) (by decide) (by decide) (by decide) rfl
  have HI := hide (show I = 0 by rw [HII.out, if_neg v0, if_neg v1, if_neg v2, if_neg v3])
  clear v0 v1 v2 v3
  generalize loB s = lo at e0 e1 e2 e3 ⊢
  go_wp2
  go_ret
  exact ⟨by rw [HI.out]; rfl, HB.out⟩
end Go.Proofs.YtpedmebigcchnaaGreatDoor
namespace Go.Proofs.YtpedmebigcchnaaGreatDoor
open Go.RowKit
set_option linter.unusedVariables false
theorem or_i64 (a b : Nat) (ha : a < 16) (hb : b < 16) : bits .or .i64 (a : Int) (b : Int) = ((a ||| b : Nat) : Int) := by
  have h : ∀ a, a < 16 → ∀ b, b < 16 → bits .or .i64 ((a : Nat) : Int) ((b : Nat) : Int) = ((a ||| b : Nat) : Int) := by decide +kernel
  exact h a ha b hb
theorem allN_stop {l : List Nat} {k : Nat} (hk : k < l.length) (h : l[k] = 0) : allN l = false := by
  unfold allN
  rw [List.all_eq_false]
  exact ⟨l[k], List.getElem_mem hk, by rw [h]; simp⟩
theorem allN_step {l : List Nat} {k : Nat} (hk : k < l.length) (ha : allN (l.take k) = true) (h : l[k] ≠ 0) : allN (l.take (k + 1)) = true := by
  rw [List.take_succ_eq_append_getElem hk, allN_snoc, ha]
  simp [h]
theorem orN_step {l : List Nat} {k : Nat} (hk : k < l.length) : orN (l.take (k + 1)) = orN (l.take k) ||| l[k] := by
  rw [List.take_succ_eq_append_getElem hk, orN_snoc]
theorem orN_take {l : List Nat} (h : ∀ n ∈ l, n < 16) (k : Nat) : orN (l.take k) < 16 := orN_lt _ (fun n hn => h n (List.mem_of_mem_take hn))
set_option maxRecDepth 20000 in
set_option maxHeartbeats 1000000 in
theorem l6Items_any (s : ByteArray) (w : World) (hs : s.size ≤ 1048576) :
    Calls Tryz.prog 36 #[.string s] w fun e w' => e = .returned (.int .i64 ((itemsOf s.data.toList : Nat) : Int)) ∧ Below w.heap.size w w' := by
  generalize hI0 : itemsOf s.data.toList = I
  have HI0 := hide hI0
  clear hI0
  go_enter Tryz.func36, Tryz.ntmps36
  go_wp2_with fail
  refine (l6Brackets_any s w hs).mono ?_
  rintro e w1 ⟨⟨x, ok, rfl, hor⟩, n1, rfl⟩
  have HB1 := hide (below_drewN (Below.refl w.heap.size w) n1)
  generalize w.drewN n1 = w1 at HB1 ⊢
  rcases hor with ⟨rfl, hbk⟩ | ⟨rfl, hbk⟩
  · have hxs : x.size ≤ 1048575 := by
      have h1 : brk s.data.toList = some x.data.toList := hbk
      unfold brk at h1
      split at h1
      · simp only [Option.some.injEq] at h1
        have h2 := congrArg List.length h1
        have h3 : x.data.toList.length = x.size := rfl
        have h4 : s.data.toList.length = s.size := rfl
        rw [List.length_take, List.length_drop] at h2
        omega
      · cases h1
    have HI := hide (show I = if allN ((splitOf 32 x.data.toList).map (fun x => itemOf (upT x))) = true then orN ((splitOf 32 x.data.toList).map (fun x => itemOf (upT x))) else 0 by rw [← HI0.out]; unfold itemsOf; rw [hbk])
    clear hbk
    go_wp2_with fail
    have hsp := l6Split_any x 32 w1 hxs
    refine hsp.mono ?_
    rintro e w3 ⟨v3, ws, rfl, ho3, hws, hb3⟩
    have hwl : ws.length ≤ 1048576 := by
      have h1 := congrArg List.length hws
      rw [List.length_map] at h1
      have h2 := splitOf_len 32 x.data.toList
      have h3 : x.data.toList.length = x.size := rfl
      omega
    have hwsz : ∀ y ∈ ws, y.size ≤ 1048576 := fun y hy => by
      have hm : y.data.toList ∈ splitOf 32 x.data.toList := by rw [← hws]; exact List.mem_map.2 ⟨y, hy, rfl⟩
      have h1 := splitOf_mem hm
      have h2 : y.data.toList.length = y.size := rfl
      have h3 : x.data.toList.length = x.size := rfl
      omega
    have hL : (splitOf 32 x.data.toList).map (fun x => itemOf (upT x)) = ws.map (fun y => itemOf (upB y)) := by
      rw [← hws, List.map_map]
      refine List.map_congr_left fun y _ => ?_
      show itemOf (upT y.data.toList) = _
      rw [upB_is]
    rw [hL] at HI
    have HL16 := hide (show ∀ n ∈ ws.map (fun y => itemOf (upB y)), n < 16 from fun n hn => by
      obtain ⟨y, _, rfl⟩ := List.mem_map.1 hn
      exact itemOf_le _)
    have hLl : (ws.map (fun y => itemOf (upB y))).length = ws.length := by simp
    have HLG := hide (fun (k : Nat) (hk : k < ws.length) => show (ws.map (fun y => itemOf (upB y)))[k]? = some (itemOf (upB ws[k])) by rw [List.getElem?_map, List.getElem?_eq_getElem hk]; rfl)
    have HLL := hide hLl
    generalize ws.map (fun y => itemOf (upB y)) = L at HI HL16 HLG HLL
    have HB3 := hide (HB1.out.trans (hb3.mono HB1.out.size))
    obtain ⟨g3, c3, rfl, hwd⟩ := ownT_words ho3
    have HWD := hide hwd
    have HWZ := hide hwsz
    clear hwd ho3 hwsz hws hsp hb3 hL hLl HB1
    go_wp2
    go_loopw [5, 7, 8, 21] (fun b _ _ i wr => ∃ (k : Nat), k ≤ ws.length ∧ i = .int .i64 (k : Int) ∧ b = .int .i64 ((orN (L.take k) : Nat) : Int) ∧ Hid (allN (L.take k) = true) ∧ Hid (Below w3.heap.size w3 wr)) (fun _ _ _ i _ => ws.length - (intOf i).toNat)
    case atStart => exact ⟨0, Nat.zero_le _, rfl, rfl, hide rfl, hide (Below.refl _ _)⟩
    case round =>
      obtain ⟨k, hk, rfl, rfl, HA, HB⟩ := hrel
      by_cases hlt : k < ws.length
      · obtain ⟨gb, rfl, _, hcell⟩ := HWD.out.below HB.out k hlt
        have hkL : k < L.length := by rw [HLL.out]; exact hlt
        have HIT := hide (l6Item_any ws[k] wr (HWZ.out _ (List.getElem_mem hlt)))
        have hLk : L[k] = itemOf (upB ws[k]) := by have h := HLG.out k hlt; rw [List.getElem?_eq_getElem hkL] at h; exact Option.some.inj h
        rw [← hLk] at HIT
        clear hLk
        have h16a := orN_take HL16.out k
        have h16b := HL16.out _ (List.getElem_mem hkL)
        have HST := hide (fun (h : L[k] ≠ 0) => allN_step hkL HA.out h)
        have HSP := hide (fun (h : L[k] = 0) => show I = 0 by rw [HI.out, allN_stop hkL h]; rfl)
        have HOR := hide (orN_step hkL)
        have HO2 := hide (or_i64 _ _ h16a h16b)
        generalize L[k] = n at HIT HST HSP HOR HO2 h16b
        generalize orN (L.take k) = q at HOR HO2 h16a
        clear HA hkL
        go_wp2_with fail
        refine HIT.out.mono ?_
        rintro e w5 ⟨rfl, hb5⟩
        have HB5 := hide (HB.out.trans (hb5.mono HB.out.size))
        clear hb5 HIT HB hcell
        by_cases hn : n = 0
        · have HZ := hide (HSP.out hn)
          subst hn
          have HBE := hide (HB3.out.trans (HB5.out.mono HB3.out.size))
          clear HST HSP HOR HO2 h16b
          go_wp2
          go_ret
          exact ⟨by rw [HZ.out]; rfl, HBE.out⟩
        · have hni : ¬ (n : Int) = 0 := by omega
          have HG := hide (HST.out hn)
          have ho := HO2.out
          clear HST HSP HO2 hn
          generalize hqn : q ||| n = r at ho HOR
          go_wp2
          go_roundw
          case rel => exact ⟨k + 1, by omega, by go_num, by rw [HOR.out], HG, HB5⟩
          case measure => simp [intOf]; omega
      · have hke : k = ws.length := by omega
        have HT := hide (show L.take k = L by rw [List.take_of_length_le]; rw [HLL.out]; omega)
        have HZ := hide (show I = orN (L.take k) by rw [HI.out]; have h := HA.out; rw [HT.out] at h ⊢; rw [if_pos h])
        have HBE := hide (HB3.out.trans (HB.out.mono HB3.out.size))
        generalize orN (L.take k) = q at HZ
        clear HA HB HT HI HLL HLG
        go_wp2
        go_ret
        exact ⟨by rw [HZ.out]; rfl, HBE.out⟩
  · have HI := hide (show I = itemOf (upB s) by rw [← HI0.out]; unfold itemsOf; rw [hbk, upB_is])
    have HIT := hide (l6Item_any s w1 hs)
    generalize itemOf (upB s) = n at HIT HI
    clear hbk HI0
    go_wp2_with fail
    refine HIT.out.mono ?_
    rintro e w2 ⟨rfl, hb2⟩
    have HB2 := hide (HB1.out.trans (hb2.mono HB1.out.size))
    clear hb2
    go_wp2
    go_ret
    exact ⟨by rw [HI.out]; rfl, HB2.out⟩
end Go.Proofs.YtpedmebigcchnaaGreatDoor
