import Derived.Test.YtknnpgffdbkfnaaDoorBackMath
import Derived.Test.YtknnpgffdbkfnaaDoorDrawNm2
import Derived.Test.YtknnpgffdbkfnaaDoorImplFl
import Derived.Test.YtknnpgffdbkfnaaDoorImplRf3
import Derived.Test.YtknnpgffdbkfnaaDoorImplLet
import Derived.Test.YtknnpgffdbkfnaaDoorNames
import Derived.Test.YtknnpgffdbkfnaaDoorImplRead
namespace Go.Proofs.YtknnpgffdbkfnaaDoor
open Go.RowKit
theorem flags_back (f : Nat) (W : World) (hf : f < 2147483648) (hM : MaxL W) :
    Calls Tryd.prog 10 #[.string ((⟨#[40]⟩ ++ flS f 31) ++ ⟨#[41]⟩)] W fun e w' => e = .returned (.agg #[.bool true, .int .u32 (f : Int)]) ∧ Below W.heap.size W w' := by
  have hz : ((⟨#[40]⟩ ++ flS f 31) ++ ⟨#[41]⟩ : ByteArray).size ≤ 1048576 := by
    have h := flS_size f 31
    rw [ByteArray.size_append, ByteArray.size_append]
    have h1 : (⟨#[40]⟩ : ByteArray).size = 1 := rfl
    have h2 : (⟨#[41]⟩ : ByteArray).size = 1 := rfl
    omega
  have h := implRf_any _ W hz hM
  rw [rf_back f hf] at h
  exact h
theorem bytes_letters (f : Nat) (hf : f < 2147483648) : bytesL (strB (lettersOf f)) = lettersOf f := by
  obtain ⟨is, hg, e, _⟩ := letters_is f hf
  rw [e]
  show ((is.map fLet).map UInt8.ofNat).map UInt8.toNat = _
  refine map_back _ fun x hx => ?_
  obtain ⟨i, hi, rfl⟩ := List.mem_map.1 hx
  have := fLet_lt i (hg.2 i hi)
  omega
theorem letters_back (f : Nat) (W : World) (hf : f < 2147483648) :
    Calls Tryd.prog 12 #[.string (strB (lettersOf f))] W fun e w' => e = .returned (.agg #[.bool true, .int .u32 (f : Int)]) ∧ Below W.heap.size W w' := by
  refine (implLetterFlags_any _ W).mono ?_
  rintro e w' ⟨ok, f', rfl, hA, hb⟩
  rw [bytes_letters f hf] at hA
  obtain ⟨rfl, rfl⟩ := let_back hf hA
  exact ⟨rfl, hb⟩
theorem name_size (u : Nat) (s : Int) (f : Nat) (hu : u < 4294967296) (hs : s < 2000000000000) : (nameOf u s f).size ≤ 1048576 := by
  unfold nameOf
  split
  · show 0 ≤ _
    omega
  · unfold nameS
    have z1 := decS_size u (by omega)
    have z2 := decS_size s.toNat (by omega)
    have z3 := letters_size f
    simp only [ByteArray.size_append]
    have e : ∀ x : List UInt8, (⟨x.toArray⟩ : ByteArray).size = x.length := fun x => by show x.toArray.size = _; simp
    have h1 : (⟨#[99, 117, 114, 47]⟩ : ByteArray).size = 4 := rfl
    have h2 : (⟨#[46]⟩ : ByteArray).size = 1 := rfl
    have h3 : (⟨#[58, 50, 44]⟩ : ByteArray).size = 3 := rfl
    omega
theorem names_back (u : Nat) (s : Nat) (f : Nat) (W : World) (hu : 1 ≤ u) (hu2 : u < 4294967296) (hs : s ≤ 1000000000000) (hf : f < 2147483648) (hE : Env W) :
    Calls Tryd.prog 7 #[.string (nameOf u (s : Int) f)] W fun e w' => e = .returned (.agg #[.bool true, .int .u32 (u : Int), .int .i64 (s : Int), .int .u32 (f : Int)]) ∧ Below W.heap.size W w' := by
  refine (implRead_any _ W (name_size u s f hu2 (by omega)) hE).mono ?_
  rintro e w' ⟨ok, u', s', f', rfl, hA, hb⟩
  obtain ⟨rfl, rfl, rfl, rfl⟩ := name_back hu hu2 hs hf hA
  exact ⟨rfl, hb⟩
theorem names_none (W : World) (hE : Env W) :
    Calls Tryd.prog 7 #[.string ⟨#[]⟩] W fun e w' => ∃ u s f : Int, e = .returned (.agg #[.bool false, .int .u32 u, .int .i64 s, .int .u32 f]) ∧ Below W.heap.size W w' := by
  refine (implRead_any _ W (by show 0 ≤ _; omega) hE).mono ?_
  rintro e w' ⟨ok, u', s', f', rfl, hA, hb⟩
  obtain rfl := empty_no hA
  exact ⟨u', s', f', rfl, hb⟩
theorem cells2 {w w' : World} {g : Nat} {c0 c1 : Value} {t : TypeId} (h : w.heap[g]? = some (.cells #[c0, c1] t (0, 0))) (hb : Below w.heap.size w w') : w'.cell? ⟨g, 0, none⟩ = some c0 ∧ w'.cell? ⟨g, 1, none⟩ = some c1 := by
  have hh := (hb.block g (lt_of_block h)).trans h
  constructor
  · rw [cell_of_row _ _ _ _ _ _ hh]; rfl
  · rw [cell_of_row _ _ _ _ _ _ hh]; rfl
end Go.Proofs.YtknnpgffdbkfnaaDoor
