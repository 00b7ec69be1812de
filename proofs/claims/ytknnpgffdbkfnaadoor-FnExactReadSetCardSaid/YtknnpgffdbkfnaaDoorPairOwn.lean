import Derived.Test.YtknnpgffdbkfnaaDoorPairs
import Derived.Deep.RegionWith
namespace Go.Proofs.YtknnpgffdbkfnaaDoor
open Go.RowKit
/-- The pairs 'ps' (from, to) lie at 'a'. -/
def PrAt (w : World) (a : Option Addr) (ps : List (Int × Int)) : Prop :=
  0 < ps.length → ∃ b off, a = some ⟨b, off, none⟩ ∧ ∀ i (h : i < ps.length), w.cell? ⟨b, off + i * 2, none⟩ = some (.int .u32 ps[i].1) ∧ w.cell? ⟨b, off + i * 2 + 1, none⟩ = some (.int .u32 ps[i].2)
theorem PrAt.below {w w' : World} {a : Option Addr} {ps : List (Int × Int)} (h : PrAt w a ps) (hb : Below w.heap.size w w') : PrAt w' a ps := fun hp => by
  obtain ⟨b, off, rfl, hc⟩ := h hp
  refine ⟨b, off, rfl, fun i hi => ?_⟩
  obtain ⟨h1, h2⟩ := hc i hi
  exact ⟨by rw [hb.cell (p := ⟨b, off + i * 2, none⟩) (lt_of_cell0 h1)]; exact h1, by rw [hb.cell (p := ⟨b, off + i * 2 + 1, none⟩) (lt_of_cell0 h2)]; exact h2⟩
theorem Tryd.infoPair : (Tryd.prog.info? 86).map (fun i => (i.zero, i.size, i.bytes)) = some (some (.agg #[.int .u32 0, .int .u32 0]), 2, 8) := by kernel_rfl
def prP (e : Int × Int) : Value × Value := (.int .u32 e.1, .int .u32 e.2)
/-- The pairs of a call's own. -/
def OwnP (w : World) (base : Nat) (v : Value) (es : List (Int × Int)) : Prop := Own2 w base 86 v (es.map prP)
theorem OwnP.at {w : World} {base : Nat} {a : Option Addr} {n cap : Nat} {es : List (Int × Int)} (h : OwnP w base (.slice a n cap) es) : PrAt w a es := fun hp => by
  rcases h.2 with ⟨_, hn⟩ | ⟨g, cap', cur, h', _⟩
  · simp at hn; simp [hn] at hp
  · simp only [Value.slice.injEq] at h'
    obtain ⟨rfl, rfl, rfl⟩ := h'
    refine ⟨g, 0, rfl, fun i hi => ?_⟩
    obtain ⟨h0, h1⟩ := Own2.cells h i (by simpa using hi)
    rw [Nat.zero_add]
    simp [prP] at h0 h1
    exact ⟨h0, h1⟩
theorem eqPair_same (x y : Int) (w : World) :
    Calls Tryd.prog 65 #[.agg #[.int .u32 x, .int .u32 y], .agg #[.int .u32 x, .int .u32 y]] w fun e w' => e = .returned (.bool true) ∧ Below w.heap.size w w' := by
  go_enter Tryd.func65, Tryd.ntmps65
  go_wp2
  go_ret
  exact ⟨rfl, ((Below.refl _ _).alloc (Nat.le_refl _) _).alloc (by simp) _⟩
theorem eqPairS_same (a a' : Option Addr) (cap cap' : Nat) (es : List (Int × Int)) (w : World) (hl : es.length ≤ 9223372036854775807) (hr : PrAt w a es) (hr' : PrAt w a' es) :
    Calls Tryd.prog 44 #[.slice a es.length cap, .slice a' es.length cap'] w fun e w' => e = .returned (.bool true) ∧ Below w.heap.size w w' := by
  go_enter Tryd.func44, Tryd.ntmps44
  go_wp2
  go_loopw [5] (fun i wr => ∃ k : Nat, k ≤ es.length ∧ i = .int .i64 k ∧ Below w.heap.size w wr) (fun i _ => es.length - (intOf i).toNat)
  case atStart => exact ⟨0, Nat.zero_le _, rfl, Below.refl _ _⟩
  case round =>
    obtain ⟨k, hk, rfl, hnx⟩ := hrel
    by_cases hlt : k < es.length
    · obtain ⟨b, off, rfl, hc⟩ := (hr.below hnx) (by omega)
      obtain ⟨b', off', rfl, hc'⟩ := (hr'.below hnx) (by omega)
      obtain ⟨hc0, hc1⟩ := hc k hlt
      obtain ⟨hd0, hd1⟩ := hc' k hlt
      have HN := hide hnx
      clear hc hc' hr hr' hnx
      generalize es[k].1 = s0 at hc0 hd0
      generalize es[k].2 = n0 at hc1 hd1
      go_wp2
      go_region_with (go_at_call 65; refine (eqPair_same s0 n0 _).mono ?_; rintro e w2 ⟨rfl, hb⟩)
      all_goals
        have hnx2 : Below w.heap.size w w2 := HN.out.drew.trans (hb.mono HN.out.size)
        have HN2 := hide hnx2
        clear hnx2 hb hc0 hc1 hd0 hd1
        go_wp2
        go_roundw
        case rel => exact ⟨k + 1, by omega, by go_num, HN2.out⟩
        case measure => simp [intOf]; omega
    · go_wp2
      go_ret
      exact ⟨rfl, hnx⟩
end Go.Proofs.YtknnpgffdbkfnaaDoor
