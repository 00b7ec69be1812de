import Derived.Test.YtledlicandlekaaDoorCutIm2
namespace Go.Proofs.YtledlicandlekaaDoor
open Go.RowKit
/-- What bytes.Cut at the line's end answers. -/
def cutR (b off c : Nat) (d : List Nat) : Value := match findEnd d with
  | some e => .tuple #[.slice (some ⟨b, off, none⟩) e c, .slice (some ⟨b, if c = e + 2 then off else off + (e + 2), none⟩) (d.length - (e + 2)) (c - (e + 2)), .bool true]
  | none => .tuple #[.slice (some ⟨b, off, none⟩) d.length c, .slice none 0 0, .bool false]
theorem ints_256 {d : List Nat} (h : ∀ x ∈ d, x < 256) : ∀ x ∈ intsOf d, 0 ≤ x ∧ x < 256 := by
  intro x hx
  unfold intsOf at hx
  obtain ⟨y, hy, rfl⟩ := List.mem_map.1 hx
  have := h y hy
  omega
theorem bcut_any (b off c : Nat) (d : List Nat) (g cc : Nat) (w : World) (h256 : ∀ x ∈ d, x < 256) (hd : d.length ≤ 1048576) (hcap : d.length ≤ c) (hT : Tx w b off d) (hm : ∃ m, w.cell? ⟨0, 0, none⟩ = some (.int .i64 m))
    (h0 : w.cell? ⟨g, 0, none⟩ = some (.int .u8 13)) (h1 : w.cell? ⟨g, 1, none⟩ = some (.int .u8 10)) :
    Calls Tryd.prog 43 #[.slice (some ⟨b, off, none⟩) d.length c, .slice (some ⟨g, 0, none⟩) 2 cc] w fun e w' => e = .returned (cutR b off c d) ∧ ∃ q, w' = w.drewN q := by
  obtain ⟨m, hm⟩ := hm
  refine (Tryd.bytes_Cut_all (some ⟨b, off, none⟩) (some ⟨g, 0, none⟩) d.length c 2 cc (intsOf d) [13, 10] m w (intsOf_len d) rfl (ints_256 h256) (by decide) hT.bytesIn (two_bytes h0 h1) (fun h => by cases h) hcap (by omega) (by omega) hm).mono fun e w' ⟨he, hw⟩ => ⟨he.trans ?_, hw⟩
  rw [bytes_intsOf, index_end h256]
  unfold Lib.cutV cutR Lib.fromV
  cases findEnd d with
  | none => rfl
  | some e =>
    simp only []
    rw [if_pos (by omega)]
    simp only [Int.toNat_natCast, Option.map_some, addr_add]
    by_cases hc : c = e + 2
    · rw [if_pos hc, if_pos hc]
    · rw [if_neg hc, if_neg hc]
theorem bsuf_any (b off c : Nat) (r : List Nat) (g cc : Nat) (w : World) (h256 : ∀ x ∈ r, x < 256) (hd : r.length ≤ 1048576) (hcap : r.length ≤ c) (hT : Tx w b off r) (h0 : w.cell? ⟨g, 0, none⟩ = some (.int .u8 125)) :
    Calls Tryd.prog 61 #[.slice (some ⟨b, off, none⟩) r.length c, .slice (some ⟨g, 0, none⟩) 1 cc] w fun e w' => e = .returned (.tuple #[.slice (some ⟨b, off, none⟩) (if r.getLast? = some 125 then r.length - 1 else r.length) c, .bool (decide (r.getLast? = some 125))]) ∧ w' = w := by
  refine (Tryd.bytes_CutSuffix_all (some ⟨b, off, none⟩) (some ⟨g, 0, none⟩) r.length c 1 cc (intsOf r) [125] w (intsOf_len r) rfl hcap (by omega) hT.bytesIn (one_byte h0)).mono fun e w' ⟨he, hw⟩ => ⟨he.trans ?_, hw⟩
  unfold Lib.trimSuffixV Lib.bytesTrimSuffix Lib.sliceTo
  simp only []
  rw [bytes_intsOf, suf_end h256]
  by_cases hl : r.getLast? = some 125
  · simp [hl]
  · simp [hl]
theorem bpre_any (b off c : Nat) (r : List Nat) (g cc : Nat) (w : World) (h256 : ∀ x ∈ r, x < 256) (hcap : r.length ≤ c) (hT : Tx w b off r) (h0 : w.cell? ⟨g, 0, none⟩ = some (.int .u8 13)) (h1 : w.cell? ⟨g, 1, none⟩ = some (.int .u8 10)) :
    Calls Tryd.prog 45 #[.slice (some ⟨b, off, none⟩) r.length c, .slice (some ⟨g, 0, none⟩) 2 cc] w fun e w' => e = .returned (.tuple #[if begE r then .slice (some ⟨b, if c = 2 then off else off + 2, none⟩) (r.length - 2) (c - 2) else .slice (some ⟨b, off, none⟩) r.length c, .bool (begE r)]) ∧ w' = w := by
  refine (Tryd.bytes_CutPrefix_all (some ⟨b, off, none⟩) (some ⟨g, 0, none⟩) r.length c 2 cc (intsOf r) [13, 10] w (intsOf_len r) rfl hcap hT.bytesIn (two_bytes h0 h1)).mono fun e w' ⟨he, hw⟩ => ⟨he.trans ?_, hw⟩
  unfold Lib.trimPrefixV Lib.bytesTrimPrefix Lib.sliceFrom
  simp only []
  rw [bytes_intsOf, pre_end h256]
  cases begE r
  · simp
  · by_cases hc : c = 2
    · simp [hc]
    · simp [hc]
/-- What literalOf answers. -/
def litR (r : Option (Nat × Nat)) : Value := match r with
  | some (n, i) => .tuple #[.int .i64 (i : Int), .int .i64 (n : Int), .bool true]
  | none => .tuple #[.int .i64 0, .int .i64 0, .bool false]
end Go.Proofs.YtledlicandlekaaDoor
