import Derived.Test.YtffdeipjedfccabDoorStrB
import Derived.Test.YtffdeipjedfccabDoorSmall
import Derived.Test.YtffdeipjedfccabDoorShelf
import Derived.Laws.Concat
import Derived.Lib.ItoaMem
import Derived.Lib.Walk
import Derived.BigCall
import Derived.BigGuard
namespace Go.Proofs.YtffdeipjedfccabDoor
open Go.RowKit Go.Sort Go.Lib
/-- The decimal of u, as a string. -/
def decS (u : Nat) : ByteArray := ⟨(Lib.decDigits u).toArray⟩
/-- What l1Dec still has to write, m ahead of t. -/
def decT (m : Nat) (t : List UInt8) : List UInt8 := if m = 0 then t else Lib.decDigits m ++ t
theorem decT_step (m : Nat) (t : List UInt8) (h : 0 < m) : decT (m / 10) (UInt8.ofNat (48 + m % 10) :: t) = decT m t := by
  by_cases h10 : m < 10
  · have h1 : m / 10 = 0 := by omega
    have h2 : m % 10 = m := by omega
    unfold decT
    rw [h1, h2, if_pos rfl, if_neg (by omega), Lib.decDigits_one h10]
    rfl
  · unfold decT
    rw [if_neg (by omega), if_neg (by omega)]
    conv => rhs; rw [Lib.decDigits, dif_neg h10]
    simp
theorem nd20 (u : Nat) (h : u < 18446744073709551616) : Lib.nDigits u ≤ 20 := by
  by_cases h0 : 1 ≤ u
  · have := Lib.numDigits_eq u h0 h
    split at this <;> omega
  · rw [Lib.nDigits_small (by omega)]; omega
theorem decT_len (m : Nat) (t : List UInt8) : t.length ≤ (decT m t).length := by
  unfold decT
  split
  · exact Nat.le_refl _
  · simp
theorem tabIs_below {w w' : World} {name : String} {k : IntKind} {zs : List Int} (h : TabIs Tryd.prog w name k zs) (hb : Below w.heap.size w w') : TabIs Tryd.prog w' name k zs := by
  unfold TabIs World.var? at *
  cases hg : Tryd.prog.globalNamed name with
  | none => simp [hg] at h
  | some g =>
    simp only [hg, Option.bind_some] at h ⊢
    have hlt : g < w.heap.size := by
      rcases Nat.lt_or_ge g w.heap.size with h' | h'
      · exact h'
      · rw [Array.getElem?_eq_none h'] at h; simp at h
    rw [hb.block g hlt]
    exact h
theorem below_grown (w : World) (k : Nat) (os : Array Obj) : Below w.heap.size w (grow (w.drewN k) os) := by
  refine ⟨rfl, rfl, rfl, ?_, fun j hj => ?_⟩
  · show w.heap.size ≤ (w.heap ++ os).size
    simp
  · show (w.heap ++ os)[j]? = w.heap[j]?
    rw [Array.getElem?_append_left hj]
theorem mk_add (a b : List UInt8) : (⟨a.toArray⟩ : ByteArray) ++ (⟨b.toArray⟩ : ByteArray) = ⟨(a ++ b).toArray⟩ := Go.ByteArray.mk_append_mk a b
theorem strB_one (x : Nat) : strB [x] = ⟨[UInt8.ofNat x].toArray⟩ := rfl
theorem decS_zero : decS 0 = ⟨#[48]⟩ := by unfold decS; rw [Lib.decDigits_one (by omega)]; rfl
set_option maxRecDepth 20000 in
theorem l1Dec_any (n : Nat) (w : World) (hn : n < 9223372036854775808) :
    Calls Tryd.prog 6 #[.int .i64 (n : Int)] w fun e w' => e = .returned (.string (decS n)) ∧ Below w.heap.size w w' := by
  by_cases h0 : n = 0
  · subst h0
    go_enter Tryd.func6, Tryd.ntmps6
    go_wp2
    go_ret
    exact ⟨by rw [decS_zero]; rfl, Below.refl _ _⟩
  · have hz : ¬ (n : Int) = 0 := by omega
    go_enter Tryd.func6, Tryd.ntmps6
    go_wp2
    go_loopw [0, 3] (fun v s wr => ∃ (m : Nat) (t : List UInt8), v = .int .i64 (m : Int) ∧ s = .string ⟨t.toArray⟩ ∧ m ≤ n ∧ Hid (decT m t = Lib.decDigits n) ∧ Below w.heap.size w wr) (fun v _ _ => (RowKit.intOf v).toNat)
    case atStart => exact ⟨n, [], rfl, rfl, Nat.le_refl _, by show _ = _; unfold decT; rw [if_neg h0, List.append_nil], Below.refl _ _⟩
    case round =>
      obtain ⟨m, t, rfl, rfl, hm, HT, hw⟩ := hrel
      have HW := hide hw
      have hle : t.length ≤ 20 := by
        have h1 := decT_len m t
        rw [HT.out, Lib.decDigits_length] at h1
        have h2 := nd20 n (by omega)
        omega
      clear hw
      by_cases h1 : 0 < m
      · have HS := hide ((decT_step m t h1).trans HT.out)
        have hi : (0 : Int) < (m : Int) := by omega
        clear HT
        have hcv : (convert 30 9 (.slice (some ⟨wr.heap.size, 0, none⟩) 1 1)).run Tryd.prog (wr.alloc (.cells #[.int .u8 (48 + (m : Int) % 10)] 5)) = .ok (.string ⟨[UInt8.ofNat (48 + m % 10)].toArray⟩) (wr.alloc (.cells #[.int .u8 (48 + (m : Int) % 10)] 5)) := by
          have h := run_string_of _ _ 1 [48 + m % 10] (row_one wr (48 + m % 10))
          rw [strB_one] at h
          have e : (((48 + m % 10 : Nat)) : Int) = 48 + (m : Int) % 10 := by omega
          rw [e] at h
          exact h
        have hb2 := hide (HW.out.alloc HW.out.size (.cells #[.int .u8 (48 + (m : Int) % 10)] 5))
        have hadd : (Op.stringOp .add ⟨[UInt8.ofNat (48 + m % 10)].toArray⟩ ⟨t.toArray⟩).run Tryd.prog (wr.alloc (.cells #[.int .u8 (48 + (m : Int) % 10)] 5)) = .ok (.string ⟨(UInt8.ofNat (48 + m % 10) :: t).toArray⟩) (wr.alloc (.cells #[.int .u8 (48 + (m : Int) % 10)] 5)) :=
          run_string_add_lists _ [UInt8.ofNat (48 + m % 10)] t (by simp) (by omega)
        generalize UInt8.ofNat (48 + m % 10) = x at HS hcv hadd
        generalize [x].toArray = xs at hcv hadd
        go_wp2
        go_roundw
        case rel => exact ⟨m / 10, x :: t, by congr 1, rfl, by omega, HS, hb2.out⟩
        case measure => simp [RowKit.intOf]; omega
      · have hi : ¬ (0 : Int) < (m : Int) := by omega
        have hm0 : m = 0 := by omega
        subst hm0
        go_wp2
        go_ret
        refine ⟨?_, HW.out⟩
        have h := HT.out
        unfold decT at h
        rw [if_pos rfl] at h
        unfold decS
        rw [← h]
        rfl
theorem holds_zero0 (w : World) (T : TypeId) (nd : Nat) (hs : nd ≤ 24) : Holds (fun (b : UInt8) => Value.int .u8 (b.toNat : Int)) (w.alloc (.cells Lib.zeros24 T)) w.heap.size 0 (Array.replicate nd (0 : UInt8)) := fun j hj => by
  have hj' : j < nd := by simpa using hj
  refine ⟨?_, World.frozen?_alloc_new _ _ _ _⟩
  rw [World.cell?_alloc_new, Lib.zeros24_at _ (by omega), getElem!_pos _ j hj]
  simp
theorem fin0 (w : World) (o : Obj) (dk : Array UInt8) (k : Nat) : Below w.heap.size w ((putRow (fun (b : UInt8) => Value.int .u8 (b.toNat : Int)) (w.alloc o) w.heap.size 0 dk).drewN k) := by
  rw [alloc_eq_grow]
  obtain ⟨os', _, e⟩ := putRow_grow_new (fun (b : UInt8) => Value.int .u8 (b.toNat : Int)) w #[o] w.heap.size 0 dk (Nat.le_refl _)
  rw [e]
  exact below_grown w k os'
set_option maxHeartbeats 1600000 in
set_option maxRecDepth 100000 in
theorem formatUint_any (u : Nat) (w : World) (hu : u < 18446744073709551616) (htab : TabIs Tryd.prog w "internal/strconv.uint64pow10" .u64 Lib.pow10Tab) :
    Calls Tryd.prog 13 #[.int .u64 (u : Int), .int .i64 10] w fun e w' => e = .returned (.string (decS u)) ∧ Below w.heap.size w w' := by
  by_cases hs : u < 100
  · have hi : (u : Int) < 100 := by omega
    go_enter Tryd.func13, Tryd.ntmps13
    go_wp2_with fail
    refine (Tryd.internal_strconv_small u hs _).mono ?_
    rintro e w1 ⟨rfl, rfl⟩
    go_wp2
    go_ret
    exact ⟨rfl, Below.refl _ _⟩
  · have hi : ¬ (u : Int) < 100 := by omega
    have hnd := nd20 u hu
    have hb3 : Lib.nDigits u ≤ 24 := by omega
    have hal : Tryd.prog.arrayLen 49 = 24 := by simp [Program.arrayLen, Tryd.underlying49]
    have hsl : ∀ W, (Instr.sliceAt 49 (.pointer (some ⟨w.heap.size, 0, none⟩)) none (some (.int .i64 (Lib.nDigits u : Int))) none).run Tryd.prog W = .ok (.slice (some ⟨w.heap.size, 0, none⟩) (Lib.nDigits u) 24) W := fun W => by
      rw [run_sliceAt_array_h W 49 ⟨w.heap.size, 0, none⟩ (by simp [Program.arrayLen, Program.elem, Tryd.underlying49]) .i64 (Lib.nDigits u : Int) (by omega) (by rw [hal]; omega)]
      go_simp
    have hH0 := holds_zero0 w 49 (Lib.nDigits u) (by omega)
    have hfmt := Tryd.internal_strconv_formatBase10 w.heap.size 0 24 u (Array.replicate (Lib.nDigits u) 0) (w.alloc (.cells Lib.zeros24 49)) hH0 (by rw [Array.size_replicate]; exact Lib.lt_pow_nDigits u) hu (by rw [Array.size_replicate]; omega)
    rw [Array.size_replicate] at hfmt
    have HH0 := hide hH0
    clear hH0 hal
    go_enter Tryd.func13, Tryd.ntmps13
    go_wp2_with fail
    refine (Tryd.internal_strconv_numDigits u (by omega) hu _ (Lib.tabIs_alloc htab _)).mono ?_
    rintro e w1 ⟨rfl, rfl⟩
    go_wp2_with fail
    refine hfmt.mono ?_
    rintro e w2 ⟨rfl, k, v', dk, rfl, hF⟩
    have hcv : (convert 30 9 (.slice (some ⟨w.heap.size, 0, none⟩) (Lib.nDigits u) 24)).run Tryd.prog ((putRow (fun (b : UInt8) => Value.int .u8 (b.toNat : Int)) (w.alloc (.cells Lib.zeros24 49)) w.heap.size 0 dk).drewN k) = .ok (.string ⟨(Lib.decDigits u).toArray⟩) ((putRow (fun (b : UInt8) => Value.int .u8 (b.toNat : Int)) (w.alloc (.cells Lib.zeros24 49)) w.heap.size 0 dk).drewN k) := by
      have h := run_convert_bytes_back (P := Tryd.prog) ((putRow (fun (b : UInt8) => Value.int .u8 (b.toNat : Int)) (w.alloc (.cells Lib.zeros24 49)) w.heap.size 0 dk).drewN k) 30 9 5 ⟨w.heap.size, 0, none⟩ 24 (Lib.decDigits u) Tryd.underlying30 Tryd.underlying5 Tryd.underlying9 (fun j hj => by
        rw [Lib.row_is_numeral hF j hj, Lib.add_plain, World.cell?_drewN]
        exact cell?_putRow (fun (b : UInt8) => Value.int .u8 (b.toNat : Int)) _ w.heap.size 0 _ dk HH0.out (by rw [hF.size, Array.size_replicate]) j (by rw [hF.size]; rw [Lib.decDigits_length] at hj; exact hj))
      rw [Lib.decDigits_length] at h
      exact h
    go_wp2
    go_ret
    exact ⟨rfl, fin0 w _ dk k⟩
theorem strFormatUint_any (u : Nat) (w : World) (hu : u < 18446744073709551616) (htab : TabIs Tryd.prog w "internal/strconv.uint64pow10" .u64 Lib.pow10Tab) :
    Calls Tryd.prog 8 #[.int .u64 (u : Int), .int .i64 10] w fun e w' => e = .returned (.string (decS u)) ∧ Below w.heap.size w w' := by
  go_enter Tryd.func8, Tryd.ntmps8
  go_wp2_with fail
  refine (formatUint_any u w hu htab).mono ?_
  rintro e w1 ⟨rfl, hb⟩
  go_wp2
  go_ret
  exact ⟨rfl, hb⟩
theorem strFormatInt_any (u : Nat) (w : World) (hu : u < 9223372036854775808) (htab : TabIs Tryd.prog w "internal/strconv.uint64pow10" .u64 Lib.pow10Tab) :
    Calls Tryd.prog 9 #[.int .i64 (u : Int), .int .i64 10] w fun e w' => e = .returned (.string (decS u)) ∧ Below w.heap.size w w' := by
  go_enter Tryd.func9, Tryd.ntmps9
  go_wp2_with fail
  refine (Tryd.internal_strconv_FormatInt_10 (u : Int) (by omega) (by omega) w htab).mono ?_
  rintro e w1 ⟨rfl, k, os, rfl⟩
  have hd : (⟨(Lib.itoa (u : Int)).toArray⟩ : ByteArray) = decS u := by rw [Lib.itoa_nonneg]; rfl
  rw [hd]
  go_wp2
  go_ret
  exact ⟨rfl, below_grown w k os⟩
end Go.Proofs.YtffdeipjedfccabDoor
