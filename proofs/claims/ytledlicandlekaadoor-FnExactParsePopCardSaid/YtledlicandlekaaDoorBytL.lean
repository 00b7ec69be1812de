import Derived.Test.YtledlicandlekaaDoorStrB
namespace Go.Proofs.YtledlicandlekaaDoor
open Go.RowKit
/-- The bytes of a string. -/
def bytesL (s : ByteArray) : List Nat := s.data.toList.map UInt8.toNat
theorem bytesL_len (s : ByteArray) : (bytesL s).length = s.size := by simp [bytesL]
theorem bytesL_lt (s : ByteArray) : ∀ x ∈ bytesL s, x < 256 := by
  intro x hx
  simp only [bytesL, List.mem_map] at hx
  obtain ⟨u, _, rfl⟩ := hx
  exact u.toNat_lt
theorem strB_bytesL (s : ByteArray) : strB (bytesL s) = s := by
  unfold strB bytesL
  rw [List.map_map]
  have : (UInt8.ofNat ∘ UInt8.toNat) = id := by funext u; simp
  rw [this]
  simp
theorem bytesL_at (s : ByteArray) (k : Nat) (h : k < s.size) : (bytesL s)[k]'(by rw [bytesL_len]; exact h) = (s[k]'h).toNat := by
  simp only [bytesL, List.getElem_map]
  rfl
end Go.Proofs.YtledlicandlekaaDoor
