import Derived.Test.YtledlicandlekabBSearch
import Derived.Test.YtledlicandlekabShelfI
namespace Go.Proofs.Ytledlicandlekab
open Go.RowKit
/-- A row of strings of the call's own. -/
def OwnS (w : World) (base : Nat) (v : Value) (xs : List ByteArray) : Prop := w.ownsRow base 9 1 v xs.length (xs.map Value.string)
theorem OwnS.at {w : World} {base : Nat} {a : Option Addr} {n cap : Nat} {xs : List ByteArray} (h : OwnS w base (.slice a n cap) xs) : StrAt w a xs := fun hp => by
  rcases h.2 with ⟨_, hn⟩ | ⟨g, cap', cur, h', _, hg, _, _, _, hx⟩
  · omega
  · simp only [Value.slice.injEq] at h'
    refine ⟨g, 0, h'.1, fun i hi => ?_⟩
    rw [cell_of_row w g _ _ _ (0, 0) hg]
    have h3 : (cur.toList.take (xs.length * 1))[i]? = some (.string xs[i]) := by rw [hx]; simp [hi]
    rw [List.getElem?_take_of_lt (by omega)] at h3
    simpa using h3
/-- What slices.Insert of one string, in a block of its own, is asked to do. -/
def InsertLaw : Prop := ∀ (base : Nat) (a : Option Addr) (cap i : Nat) (xs : List ByteArray) (t : ByteArray) (w : World), xs.length ≤ 1048576 → i ≤ xs.length → base ≤ w.heap.size → OwnS w base (.slice a xs.length cap) xs →
    Calls Try.prog 85 #[.slice a xs.length cap, .int .i64 (i : Int), .slice (some ⟨w.heap.size, 0, none⟩) 1 1] (w.alloc (.cells #[.string t] 9)) fun e w' => ∃ v, e = .returned v ∧ OwnS w' base v (xs.take i ++ t :: xs.drop i) ∧ Below base w w'
set_option maxRecDepth 20000 in
set_option maxHeartbeats 1000000 in
theorem insOrd_any (hI : InsertLaw) (base : Nat) (a : Option Addr) (cap : Nat) (xs : List ByteArray) (t : ByteArray) (w : World) (hn : xs.length ≤ 1048576) (hb : base ≤ w.heap.size) (ho : OwnS w base (.slice a xs.length cap) xs) (hso : xs.Pairwise fun x y => Op.bytesLess x.toList y.toList = true) :
    Calls Try.prog 76 #[.slice a xs.length cap, .string t] w fun e w' => ∃ v i, e = .returned v ∧ OwnS w' base v (xs.take i ++ t :: xs.drop i) ∧ (∀ k (h : k < xs.length), k < i → Op.bytesLess xs[k].toList t.toList = true) ∧ (∀ k (h : k < xs.length), i ≤ k → Op.bytesLess xs[k].toList t.toList = false) ∧ Below base w w' := by
  have HB := hide (bsearch_any a cap xs t w hn ho.at hso)
  clear hso
  go_enter Try.func76, Try.ntmps76
  go_wp2_with fail
  refine HB.out.mono ?_
  rintro e w1 ⟨⟨i, f, rfl, hi, hlo, hhi⟩, rfl⟩
  have HLO := hide hlo
  have HHI := hide hhi
  clear hlo hhi HB
  go_wp2_with fail
  refine (hI base a cap i xs t w1 hn hi hb ho).mono ?_
  rintro e w2 ⟨v, rfl, hv, hw⟩
  have HV := hide hv
  have HW := hide hw
  clear hv hw
  go_wp2
  go_ret
  exact ⟨v, i, rfl, HV.out, HLO.out, HHI.out, HW.out⟩
end Go.Proofs.Ytledlicandlekab
