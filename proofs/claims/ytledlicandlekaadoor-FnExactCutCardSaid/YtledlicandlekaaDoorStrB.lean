import Derived.Test.YtledlicandlekaaDoorMem
import Derived.Laws.BytesArg
namespace Go.Proofs.YtledlicandlekaaDoor
open Go.RowKit
/-- The bytes l as a string. -/
def strB (l : List Nat) : ByteArray := ⟨(l.map UInt8.ofNat).toArray⟩
theorem map_back (l : List Nat) (h : ∀ x ∈ l, x < 256) : (l.map UInt8.ofNat).map UInt8.toNat = l := by
  rw [List.map_map]
  conv => rhs; rw [← List.map_id l]
  apply List.map_congr_left
  intro x hx
  have := h x hx
  simp
  omega
/-- string of bytes that lie somewhere. -/
theorem run_string_of (w : World) (a : Option Addr) (cap : Nat) (l : List Nat) (hr : RowAt w a l) :
    (convert 22 9 (.slice a l.length cap)).run Tryd.prog w = .ok (.string (strB l)) w := by
  by_cases h0 : l.length = 0
  · obtain rfl : l = [] := List.eq_nil_of_length_eq_zero h0
    rw [run_convert_bytes_string w _ _ 5 a _ cap Tryd.underlying22 Tryd.underlying5 Tryd.underlying9]
    cases a <;> simp [Conv.bytesToString, loadCells] <;> rfl
  · obtain ⟨b, off, rfl, hc⟩ := hr (by omega)
    have h := run_convert_bytes_arg w 22 5 Tryd.underlying22 Tryd.underlying5 b off l.length cap (l.map fun n : Nat => (n : Int)) (by simp) (fun i hi => by rw [hc i hi]; simp [hi]) 9 Tryd.underlying9
    rw [h]
    unfold strOfNums strB
    rw [List.map_map]
    rfl
theorem strB_inj {l m : List Nat} (hl : ∀ x ∈ l, x < 256) (hm : ∀ x ∈ m, x < 256) (h : strB l = strB m) : l = m := by
  unfold strB at h
  have h1 : (l.map UInt8.ofNat).toArray = (m.map UInt8.ofNat).toArray := congrArg ByteArray.data h
  have h2 : l.map UInt8.ofNat = m.map UInt8.ofNat := congrArg Array.toList h1
  rw [← map_back l hl, ← map_back m hm, h2]
theorem strB_dec {l m : List Nat} (hl : ∀ x ∈ l, x < 256) (hm : ∀ x ∈ m, x < 256) : decide (strB l = strB m) = decide (l = m) := by
  by_cases h : l = m
  · subst h; simp
  · rw [decide_eq_false h, decide_eq_false fun e => h (strB_inj hl hm e)]
theorem strB_list (l : List Nat) : (strB l).toList = l.map UInt8.ofNat := by rw [ByteArray.toList_eq]; rfl
theorem strB_beq {l m : List Nat} (hl : ∀ x ∈ l, x < 256) (hm : ∀ x ∈ m, x < 256) : ((strB l).toList == (strB m).toList) = decide (l = m) := by
  rw [strB_list, strB_list]
  by_cases h : l = m
  · subst h; simp
  · rw [decide_eq_false h]
    exact beq_eq_false_iff_ne.2 fun e => h (by rw [← map_back l hl, ← map_back m hm, e])
end Go.Proofs.YtledlicandlekaaDoor
