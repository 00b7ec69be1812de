import Derived.Test.YtledlicandlekabSpecWith
namespace Go.Proofs.Ytledlicandlekab
open Go.RowKit
/-- 'x > nm', as the model has it. -/
def gtB (x nm : ByteArray) : Bool := !(Op.bytesLess x.toList nm.toList || x.toList == nm.toList)
/-- The place of the first name above nm. -/
def posE (l : List (ByteArray × Int)) (nm : ByteArray) : Nat := l.findIdx fun e => gtB e.1 nm
/-- nm bound anew in l, which lacks it. -/
def insE (l : List (ByteArray × Int)) (nm : ByteArray) (nd : Int) : List (ByteArray × Int) := l.take (posE l nm) ++ (nm, nd) :: l.drop (posE l nm)
/-- What l1With has written behind k entries. -/
def outK (l : List (ByteArray × Int)) (nm : ByteArray) (nd : Int) (k : Nat) : List (ByteArray × Int) := if k ≤ posE l nm then l.take k else l.take (posE l nm) ++ (nm, nd) :: (l.take k).drop (posE l nm)
theorem outK_lo {l : List (ByteArray × Int)} {nm : ByteArray} {nd : Int} {k : Nat} (hk : k < l.length) (h : k < posE l nm) : outK l nm nd (k + 1) = outK l nm nd k ++ [(l[k].1, l[k].2)] := by
  unfold outK
  rw [if_pos (by omega), if_pos (by omega), List.take_succ_eq_append_getElem hk]
theorem outK_at {l : List (ByteArray × Int)} {nm : ByteArray} {nd : Int} {k : Nat} (hk : k < l.length) (h : k = posE l nm) : outK l nm nd (k + 1) = (outK l nm nd k ++ [(nm, nd)]) ++ [(l[k].1, l[k].2)] := by
  unfold outK
  rw [if_neg (by omega), if_pos (by omega), ← h, List.take_succ_eq_append_getElem hk]
  have e : (l.take k ++ [l[k]]).drop k = [l[k]] := by
    rw [List.drop_append_of_le_length (by simp; omega)]
    simp
  rw [e]
  simp
theorem outK_hi {l : List (ByteArray × Int)} {nm : ByteArray} {nd : Int} {k : Nat} (hk : k < l.length) (h : posE l nm < k) : outK l nm nd (k + 1) = outK l nm nd k ++ [(l[k].1, l[k].2)] := by
  unfold outK
  rw [if_neg (by omega), if_neg (by omega), List.take_succ_eq_append_getElem hk, List.drop_append_of_le_length (by simp; omega)]
  simp
theorem outK_zero (l : List (ByteArray × Int)) (nm : ByteArray) (nd : Int) : outK l nm nd 0 = [] := by unfold outK; rw [if_pos (by omega)]; rfl
theorem posE_le (l : List (ByteArray × Int)) (nm : ByteArray) : posE l nm ≤ l.length := List.findIdx_le_length
theorem outK_end {l : List (ByteArray × Int)} {nm : ByteArray} {nd : Int} (h : posE l nm < l.length) : outK l nm nd l.length = insE l nm nd := by
  unfold outK insE
  rw [if_neg (by omega), List.take_length]
theorem outK_end' {l : List (ByteArray × Int)} {nm : ByteArray} {nd : Int} (h : ¬ posE l nm < l.length) : outK l nm nd l.length ++ [(nm, nd)] = insE l nm nd := by
  have := posE_le l nm
  unfold outK insE
  rw [if_pos (by omega), show posE l nm = l.length from by omega]
  simp
theorem outK_len (l : List (ByteArray × Int)) (nm : ByteArray) (nd : Int) (k : Nat) : (outK l nm nd k).length ≤ l.length + 1 := by
  unfold outK
  split <;> simp <;> omega
theorem gt_at {l : List (ByteArray × Int)} {nm : ByteArray} {k : Nat} (hk : k < l.length) (h : k = posE l nm) : gtB l[k].1 nm = true := by
  subst h
  exact List.findIdx_getElem (w := hk)
theorem gt_lo {l : List (ByteArray × Int)} {nm : ByteArray} {k : Nat} (hk : k < l.length) (h : k < posE l nm) : gtB l[k].1 nm = false := by
  have := List.not_of_lt_findIdx h
  simpa using this
end Go.Proofs.Ytledlicandlekab
