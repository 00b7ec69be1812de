import Derived.Test.YtledlicandlekaaDoorSplMath
import Derived.Test.YtledlicandlekaaDoorStrB
import Derived.Lib.ConvBytes
namespace Go.Proofs.YtledlicandlekaaDoor
open Go.RowKit
/-- A row that a conversion has made of a string: its bytes l, then what is behind them. -/
structure RowF (w : World) (g c : Nat) (l : List Nat) : Prop where
  ex : ∃ cur : Array Value, w.heap[g]? = some (.cells cur 5 (c, c + 1)) ∧ cur.size = c ∧ ∀ j (h : j < l.length), cur[j]? = some (bv l[j])
  le : l.length ≤ c
theorem RowF.cell {w : World} {g c : Nat} {l : List Nat} (h : RowF w g c l) (j : Nat) (hj : j < l.length) : w.cell? ⟨g, j, none⟩ = some (.int .u8 (l[j] : Int)) := by
  obtain ⟨cur, hc, hs, he⟩ := h.ex
  rw [cell_of_row w g j _ _ _ hc]
  exact he j hj
theorem RowF.frozen {w : World} {g c : Nat} {l : List Nat} (h : RowF w g c l) (j : Nat) (hj : j < l.length) : w.frozen? ⟨g, j, none⟩ = false := by
  obtain ⟨cur, hc, hs, he⟩ := h.ex
  have := h.le
  simp [World.frozen?, hc]
  omega
theorem RowF.lt {w : World} {g c : Nat} {l : List Nat} (h : RowF w g c l) : g < w.heap.size := by
  obtain ⟨cur, hc, _⟩ := h.ex
  exact lt_of_block hc
theorem RowF.row {w : World} {g c : Nat} {l : List Nat} (h : RowF w g c l) : RowAt w (some ⟨g, 0, none⟩) l := fun _ => ⟨g, 0, rfl, fun i hi => by rw [Nat.zero_add]; exact h.cell i hi⟩
theorem RowF.set {w : World} {g c : Nat} {l : List Nat} (h : RowF w g c l) (j x : Nat) : RowF (w.setCell ⟨g, j, none⟩ (.int .u8 (x : Int))) g c (l.set j x) := by
  obtain ⟨cur, hc, hs, he⟩ := h.ex
  refine ⟨⟨cur.setIfInBounds j (.int .u8 (x : Int)), ?_, by simpa using hs, fun i hi => ?_⟩, by rw [List.length_set]; exact h.le⟩
  · rw [setCell_eq_setRow w g j _ _ _ _ hc, setRow_heap w g _ _ _ _ hc]
  · rw [List.length_set] at hi
    have hle := h.le
    rw [Array.getElem?_setIfInBounds, List.getElem_set]
    by_cases e : j = i
    · subst e
      rw [if_pos rfl, if_pos (by omega), if_pos rfl]
      rfl
    · rw [if_neg e, if_neg e]
      exact he i hi
theorem rowF_new (w : World) (l : List Nat) (hb : ∀ x ∈ l, x < 256) : RowF (Lib.bytesWorld w 5 (strB l)) w.heap.size (Lib.bytesCells w 5 (strB l)).size l := by
  refine ⟨⟨_, Lib.bytesWorld_at_new w 5 (strB l), rfl, fun j hj => ?_⟩, ?_⟩
  · have hj2 : j < (strB l).data.size := by simpa [strB] using hj
    unfold Lib.bytesCells
    rw [Array.getElem?_append_left (by simpa using hj2)]
    simp only [Array.getElem?_map]
    rw [Array.getElem?_eq_getElem hj2]
    simp only [Option.map_some]
    congr 1
    have : ((strB l).data[j]'hj2).toNat = l[j] := by
      simp [strB]
      exact hb _ (List.getElem_mem hj)
    rw [this]
    rfl
  · unfold Lib.bytesCells
    simp [strB]
theorem bytesW_below (w : World) (s : ByteArray) : Below w.heap.size w (Lib.bytesWorld w 5 s) := by
  refine ⟨rfl, rfl, rfl, by rw [Lib.bytesWorld_size]; omega, fun k hk => Lib.bytesWorld_at_old w 5 s k hk⟩
theorem strB_size (l : List Nat) : (strB l).size = l.length := by simp [strB, ByteArray.size]
def mapTo (f : Nat → Nat) (l : List Nat) (k : Nat) : List Nat := (l.take k).map f ++ l.drop k
theorem mapTo_len (f : Nat → Nat) (l : List Nat) (k : Nat) (h : k ≤ l.length) : (mapTo f l k).length = l.length := by simp [mapTo]; omega
theorem mapTo_at (f : Nat → Nat) (l : List Nat) (k : Nat) (h : k < l.length) : (mapTo f l k)[k]'(by rw [mapTo_len f l k (by omega)]; exact h) = l[k] := by
  unfold mapTo
  rw [List.getElem_append_right (by simp; omega)]
  simp
  congr 1
  omega
theorem mapTo_set (f : Nat → Nat) (l : List Nat) (k : Nat) (h : k < l.length) : (mapTo f l k).set k (f l[k]) = mapTo f l (k + 1) := by
  unfold mapTo
  rw [List.set_append_right _ _ (by simp; omega)]
  have e : k - ((l.take k).map f).length = 0 := by simp; omega
  rw [e, List.drop_eq_getElem_cons h, List.set_cons_zero, List.take_succ_eq_append_getElem h, List.map_append]
  simp only [List.map_cons, List.map_nil, List.append_assoc, List.cons_append, List.nil_append]
theorem mapTo_same (f : Nat → Nat) (l : List Nat) (k : Nat) (h : k < l.length) (e : f l[k] = l[k]) : mapTo f l (k + 1) = mapTo f l k := by
  rw [← mapTo_set f l k h, e]
  have hlen : k < (mapTo f l k).length := by rw [mapTo_len f l k (by omega)]; exact h
  have h2 : (mapTo f l k).set k ((mapTo f l k)[k]'hlen) = mapTo f l k := List.set_getElem_self hlen
  rw [mapTo_at f l k h] at h2
  exact h2
theorem mapTo_end (f : Nat → Nat) (l : List Nat) : mapTo f l l.length = l.map f := by simp [mapTo]
set_option maxRecDepth 20000 in
set_option maxHeartbeats 1000000 in
theorem capitals_any (l : List Nat) (w : World) (hl : l.length ≤ 1048576) (hb : ∀ x ∈ l, x < 256) :
    Calls Tryd.prog 68 #[.string (strB l)] w fun e w' => e = .returned (.string (strB (l.map upN))) ∧ Below w.heap.size w w' := by
  have hconv := Lib.run_convert_string_bytes (P := Tryd.prog) w 9 22 5 (strB l) Tryd.underlying9 Tryd.underlying22 Tryd.underlying5
  rw [strB_size] at hconv
  have HF := hide (rowF_new w l hb)
  have HB := hide (bytesW_below w (strB l))
  go_enter Tryd.func68, Tryd.ntmps68
  generalize Lib.bytesWorld w 5 (strB l) = w1 at hconv HF HB
  generalize (Lib.bytesCells w 5 (strB l)).size = cc at HF
  generalize grownCap w l.length 0 5 = gc at hconv
  generalize strB l = sl at hconv ⊢
  go_wp2
  clear hconv
  go_loopw [4, 5, 10] (fun _ _ i wr => ∃ k : Nat, k ≤ l.length ∧ i = .int .i64 (k : Int) ∧ RowF wr w.heap.size cc (mapTo upN l k) ∧ Below w.heap.size w wr) (fun _ _ i _ => l.length - (intOf i).toNat)
  case atStart => exact ⟨0, Nat.zero_le _, rfl, HF.out, HB.out⟩
  case round =>
    obtain ⟨k, hk, rfl, hF, hB⟩ := hrel
    clear HF HB
    by_cases hlt : k < l.length
    · have hml := mapTo_len upN l k hk
      have hc := hF.cell k (by omega)
      rw [mapTo_at upN l k hlt] at hc
      have hfz := hF.frozen k (by omega)
      have hx : l[k] < 256 := hb _ (List.getElem_mem hlt)
      have HST := hide (mapTo_set upN l k hlt)
      have HSM := hide (mapTo_same upN l k hlt)
      have HF := hide hF
      have HB := hide hB
      generalize l[k] = x at hc hx HST HSM
      clear hF hB hml hb
      by_cases h1 : 97 ≤ x
      · by_cases h2 : x ≤ 122
        · have hfx : upN x = x - 97 + 65 := by unfold upN; rw [if_pos ⟨h1, h2⟩]; omega
          have HS2 := hide (show RowF (wr.setCell ⟨w.heap.size, k, none⟩ (.int .u8 (((x - 97 + 65 : Nat)) : Int))) w.heap.size cc (mapTo upN l (k + 1)) from by
            have h := HF.out.set k (x - 97 + 65)
            have e := HST.out
            rw [hfx] at e
            rw [e] at h
            exact h)
          have HB2 := hide (HB.out.setCell (p := ⟨w.heap.size, k, none⟩) (Nat.le_refl _) (.int .u8 (((x - 97 + 65 : Nat)) : Int)))
          have hi1 : (97 : Int) ≤ (x : Int) := by omega
          have hi2 : (x : Int) ≤ 122 := by omega
          have he : ((x - 97 + 65 : Nat) : Int) = (x : Int) - 97 + 65 := by omega
          rw [he] at HS2 HB2
          clear HF HB HST HSM hfx he
          go_wp2
          go_roundw
          case rel => exact ⟨k + 1, by omega, by go_num, HS2.out, HB2.out⟩
          case measure => simp [intOf]; omega
        · have hi1 : (97 : Int) ≤ (x : Int) := by omega
          have hi2 : ¬ (x : Int) ≤ 122 := by omega
          have hfx : upN x = x := by unfold upN; rw [if_neg (fun h => h2 h.2)]
          have HS2 := hide (show RowF wr w.heap.size cc (mapTo upN l (k + 1)) by rw [HSM.out hfx]; exact HF.out)
          clear HF HST HSM hfx
          go_wp2
          go_roundw
          case rel => exact ⟨k + 1, by omega, by go_num, HS2.out, HB.out⟩
          case measure => simp [intOf]; omega
      · have hi1 : ¬ (97 : Int) ≤ (x : Int) := by omega
        have hfx : upN x = x := by unfold upN; rw [if_neg (fun h => h1 h.1)]
        have HS2 := hide (show RowF wr w.heap.size cc (mapTo upN l (k + 1)) by rw [HSM.out hfx]; exact HF.out)
        clear HF HST HSM hfx
        go_wp2
        go_roundw
        case rel => exact ⟨k + 1, by omega, by go_num, HS2.out, HB.out⟩
        case measure => simp [intOf]; omega
    · obtain rfl : k = l.length := by omega
      rw [mapTo_end] at hF
      have hcv : (convert 22 9 (.slice (some ⟨w.heap.size, 0, none⟩) l.length gc)).run Tryd.prog wr = .ok (.string (strB (l.map upN))) wr := by
        have h := run_string_of wr (some ⟨w.heap.size, 0, none⟩) gc (l.map upN) hF.row
        rw [List.length_map] at h
        exact h
      have HB := hide hB
      clear hF hB hb
      generalize hsr : strB (l.map upN) = sr at hcv
      have HSR := hide hsr
      clear hsr
      go_wp2
      go_ret
      exact ⟨by rw [HSR.out]; rfl, HB.out⟩
end Go.Proofs.YtledlicandlekaaDoor
