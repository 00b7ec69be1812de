import Derived.Test.YtpedmebigcchnaaGreatDoorPka
import Derived.Laws.BytesArg
import Derived.Laws.Concat
import Derived.Lib.ItoaMem
import Derived.Lib.Walk
import Derived.BigCall
import Derived.BigGuard
namespace Go.Proofs.YtpedmebigcchnaaGreatDoor
open Go.RowKit
/-- The bytes l as a string. -/
def strB (l : List Nat) : ByteArray := ⟨(l.map UInt8.ofNat).toArray⟩
theorem map_back (l : List Nat) (h : ∀ x ∈ l, x < 256) : (l.map UInt8.ofNat).map UInt8.toNat = l := by
  rw [List.map_map]
  conv => rhs; rw [← List.map_id l]
  apply List.map_congr_left
  intro x hx
  have := h x hx
  simp
  omega
/-- string of bytes that lie somewhere. -/
theorem run_string_of (w : World) (a : Option Addr) (cap : Nat) (l : List Nat) (hr : RowAt w a l) :
    (convert 22 9 (.slice a l.length cap)).run Tryz.prog w = .ok (.string (strB l)) w := by
  by_cases h0 : l.length = 0
  · obtain rfl : l = [] := List.eq_nil_of_length_eq_zero h0
    rw [run_convert_bytes_string w _ _ 5 a _ cap Tryz.underlying22 Tryz.underlying5 Tryz.underlying9]
    cases a <;> simp [Conv.bytesToString, loadCells] <;> rfl
  · obtain ⟨b, off, rfl, hc⟩ := hr (by omega)
    have h := run_convert_bytes_arg w 22 5 Tryz.underlying22 Tryz.underlying5 b off l.length cap (l.map fun n : Nat => (n : Int)) (by simp) (fun i hi => by rw [hc i hi]; simp [hi]) 9 Tryz.underlying9
    rw [h]
    unfold strOfNums strB
    rw [List.map_map]
    rfl
theorem strB_inj {l m : List Nat} (hl : ∀ x ∈ l, x < 256) (hm : ∀ x ∈ m, x < 256) (h : strB l = strB m) : l = m := by
  unfold strB at h
  have h1 : (l.map UInt8.ofNat).toArray = (m.map UInt8.ofNat).toArray := congrArg ByteArray.data h
  have h2 : l.map UInt8.ofNat = m.map UInt8.ofNat := congrArg Array.toList h1
  rw [← map_back l hl, ← map_back m hm, h2]
theorem strB_dec {l m : List Nat} (hl : ∀ x ∈ l, x < 256) (hm : ∀ x ∈ m, x < 256) : decide (strB l = strB m) = decide (l = m) := by
  by_cases h : l = m
  · subst h; simp
  · rw [decide_eq_false h, decide_eq_false fun e => h (strB_inj hl hm e)]
theorem strB_list (l : List Nat) : (strB l).toList = l.map UInt8.ofNat := by rw [ByteArray.toList_eq]; rfl
theorem strB_beq {l m : List Nat} (hl : ∀ x ∈ l, x < 256) (hm : ∀ x ∈ m, x < 256) : ((strB l).toList == (strB m).toList) = decide (l = m) := by
  rw [strB_list, strB_list]
  by_cases h : l = m
  · subst h; simp
  · rw [decide_eq_false h]
    exact beq_eq_false_iff_ne.2 fun e => h (by rw [← map_back l hl, ← map_back m hm, e])
end Go.Proofs.YtpedmebigcchnaaGreatDoor
namespace Go.Proofs.YtpedmebigcchnaaGreatDoor
open Go.RowKit
theorem row_one (w : World) (x : Nat) : RowAt (w.alloc (.cells #[.int .u8 (x : Int)] 5)) (some ⟨w.heap.size, 0, none⟩) [x] := fun _ => by
  refine ⟨w.heap.size, 0, rfl, fun i hi => ?_⟩
  simp at hi
  subst hi
  rw [cell_of_row _ _ _ _ 5 (0, 0) (heap_alloc_new w _)]
  rfl
theorem OwnB.alloc1 {w : World} {base : Nat} {v : Value} {l : List Nat} (h : OwnB w base v l) (o : Obj) : OwnB (w.alloc o) base v l := h.below ((Below.refl _ _).alloc (Nat.le_refl _) _) (Nat.le_refl _)
end Go.Proofs.YtpedmebigcchnaaGreatDoor
namespace Go.Proofs.YtpedmebigcchnaaGreatDoor
open Go.RowKit Go.Sort Go.Lib
/-- The decimal of u, as a string. -/
def decS (u : Nat) : ByteArray := ⟨(Lib.decDigits u).toArray⟩
/-- What l1Dec still has to write, m ahead of t. -/
def decT (m : Nat) (t : List UInt8) : List UInt8 := if m = 0 then t else Lib.decDigits m ++ t
theorem decT_step (m : Nat) (t : List UInt8) (h : 0 < m) : decT (m / 10) (UInt8.ofNat (48 + m % 10) :: t) = decT m t := by
  by_cases h10 : m < 10
  · have h1 : m / 10 = 0 := by omega
    have h2 : m % 10 = m := by omega
    unfold decT
    rw [h1, h2, if_pos rfl, if_neg (by omega), Lib.decDigits_one h10]
    rfl
  · unfold decT
    rw [if_neg (by omega), if_neg (by omega)]
    conv => rhs; rw [Lib.decDigits, dif_neg h10]
    simp
theorem nd20 (u : Nat) (h : u < 18446744073709551616) : Lib.nDigits u ≤ 20 := by
  by_cases h0 : 1 ≤ u
  · have := Lib.numDigits_eq u h0 h
    split at this <;> omega
  · rw [Lib.nDigits_small (by omega)]; omega
theorem decT_len (m : Nat) (t : List UInt8) : t.length ≤ (decT m t).length := by
  unfold decT
  split
  · exact Nat.le_refl _
  · simp
theorem tabIs_below {w w' : World} {name : String} {k : IntKind} {zs : List Int} (h : TabIs Tryz.prog w name k zs) (hb : Below w.heap.size w w') : TabIs Tryz.prog w' name k zs := by
  unfold TabIs World.var? at *
  cases hg : Tryz.prog.globalNamed name with
  | none => simp [hg] at h
  | some g =>
    simp only [hg, Option.bind_some] at h ⊢
    have hlt : g < w.heap.size := by
      rcases Nat.lt_or_ge g w.heap.size with h' | h'
      · exact h'
      · rw [Array.getElem?_eq_none h'] at h; simp at h
    rw [hb.block g hlt]
    exact h
theorem below_grown (w : World) (k : Nat) (os : Array Obj) : Below w.heap.size w (grow (w.drewN k) os) := by
  refine ⟨rfl, rfl, rfl, ?_, fun j hj => ?_⟩
  · show w.heap.size ≤ (w.heap ++ os).size
    simp
  · show (w.heap ++ os)[j]? = w.heap[j]?
    rw [Array.getElem?_append_left hj]
theorem mk_add (a b : List UInt8) : (⟨a.toArray⟩ : ByteArray) ++ (⟨b.toArray⟩ : ByteArray) = ⟨(a ++ b).toArray⟩ := Go.ByteArray.mk_append_mk a b
theorem strB_one (x : Nat) : strB [x] = ⟨[UInt8.ofNat x].toArray⟩ := rfl
theorem decS_zero : decS 0 = ⟨#[48]⟩ := by unfold decS; rw [Lib.decDigits_one (by omega)]; rfl
set_option maxRecDepth 20000 in
theorem l1Dec_any (n : Nat) (w : World) (hn : n < 9223372036854775808) :
    Calls Tryz.prog 75 #[.int .i64 (n : Int)] w fun e w' => e = .returned (.string (decS n)) ∧ Below w.heap.size w w' := by
  by_cases h0 : n = 0
  · subst h0
    go_enter Tryz.func75, Tryz.ntmps75
    go_wp2
    go_ret
    exact ⟨by rw [decS_zero]; rfl, Below.refl _ _⟩
  · have hz : ¬ (n : Int) = 0 := by omega
    go_enter Tryz.func75, Tryz.ntmps75
    go_wp2
    go_loopw [0, 3] (fun v s wr => ∃ (m : Nat) (t : List UInt8), v = .int .i64 (m : Int) ∧ s = .string ⟨t.toArray⟩ ∧ m ≤ n ∧ Hid (decT m t = Lib.decDigits n) ∧ Below w.heap.size w wr) (fun v _ _ => (RowKit.intOf v).toNat)
    case atStart => exact ⟨n, [], rfl, rfl, Nat.le_refl _, by show _ = _; unfold decT; rw [if_neg h0, List.append_nil], Below.refl _ _⟩
    case round =>
      obtain ⟨m, t, rfl, rfl, hm, HT, hw⟩ := hrel
      have HW := hide hw
      have hle : t.length ≤ 20 := by
        have h1 := decT_len m t
        rw [HT.out, Lib.decDigits_length] at h1
        have h2 := nd20 n (by omega)
        omega
      clear hw
      by_cases h1 : 0 < m
      · have HS := hide ((decT_step m t h1).trans HT.out)
        have hi : (0 : Int) < (m : Int) := by omega
        clear HT
        have hcv : (convert 22 9 (.slice (some ⟨wr.heap.size, 0, none⟩) 1 1)).run Tryz.prog (wr.alloc (.cells #[.int .u8 (48 + (m : Int) % 10)] 5)) = .ok (.string ⟨[UInt8.ofNat (48 + m % 10)].toArray⟩) (wr.alloc (.cells #[.int .u8 (48 + (m : Int) % 10)] 5)) := by
          have h := run_string_of _ _ 1 [48 + m % 10] (row_one wr (48 + m % 10))
          rw [strB_one] at h
          have e : (((48 + m % 10 : Nat)) : Int) = 48 + (m : Int) % 10 := by omega
          rw [e] at h
          exact h
        have hb2 := hide (HW.out.alloc HW.out.size (.cells #[.int .u8 (48 + (m : Int) % 10)] 5))
        have hadd : (Op.stringOp .add ⟨[UInt8.ofNat (48 + m % 10)].toArray⟩ ⟨t.toArray⟩).run Tryz.prog (wr.alloc (.cells #[.int .u8 (48 + (m : Int) % 10)] 5)) = .ok (.string ⟨(UInt8.ofNat (48 + m % 10) :: t).toArray⟩) (wr.alloc (.cells #[.int .u8 (48 + (m : Int) % 10)] 5)) :=
          run_string_add_lists _ [UInt8.ofNat (48 + m % 10)] t (by simp) (by omega)
        generalize UInt8.ofNat (48 + m % 10) = x at HS hcv hadd
        generalize [x].toArray = xs at hcv hadd
        go_wp2
        go_roundw
        case rel => exact ⟨m / 10, x :: t, by congr 1, rfl, by omega, HS, hb2.out⟩
        case measure => simp [RowKit.intOf]; omega
      · have hi : ¬ (0 : Int) < (m : Int) := by omega
        have hm0 : m = 0 := by omega
        subst hm0
        go_wp2
        go_ret
        refine ⟨?_, HW.out⟩
        have h := HT.out
        unfold decT at h
        rw [if_pos rfl] at h
        unfold decS
        rw [← h]
        rfl
end Go.Proofs.YtpedmebigcchnaaGreatDoor
