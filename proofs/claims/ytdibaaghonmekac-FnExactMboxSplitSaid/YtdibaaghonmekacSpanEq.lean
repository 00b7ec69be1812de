import Derived.Test.YtdibaaghonmekacImplSplit
import Derived.Test.YtdibaaghonmekacLawSmall
import Derived.Deep.RegionWith
namespace Go.Proofs.Ytdibaaghonmekac
open Go.RowKit
abbrev SP := Nat × Nat × List Nat
/-- Spans that lie at an address. -/
def SpansAt (w : World) (a : Option Addr) (xs : List SP) : Prop :=
  0 < xs.length → ∃ b off, a = some ⟨b, off, none⟩ ∧ ∀ i (h : i < xs.length), ∃ ai ci, w.cell? ⟨b, off + i * 3, none⟩ = some (.int .i64 (xs[i].1 : Int)) ∧ w.cell? ⟨b, off + i * 3 + 1, none⟩ = some (.int .i64 (xs[i].2.1 : Int)) ∧ w.cell? ⟨b, off + i * 3 + 2, none⟩ = some (.slice ai xs[i].2.2.length ci) ∧ RowAt w ai xs[i].2.2
theorem SpansAt.below {w w' : World} {a : Option Addr} {xs : List SP} (h : SpansAt w a xs) (hb : Below w.heap.size w w') : SpansAt w' a xs := fun hp => by
  obtain ⟨b, off, rfl, hc⟩ := h hp
  refine ⟨b, off, rfl, fun i hi => ?_⟩
  obtain ⟨ai, ci, h1, h2, h3, h4⟩ := hc i hi
  exact ⟨ai, ci, by rw [hb.cell (p := ⟨b, off + i * 3, none⟩) (lt_of_cell0 h1)]; exact h1, by rw [hb.cell (p := ⟨b, off + i * 3 + 1, none⟩) (lt_of_cell0 h2)]; exact h2, by rw [hb.cell (p := ⟨b, off + i * 3 + 2, none⟩) (lt_of_cell0 h3)]; exact h3, h4.below hb⟩
/-- A list of spans of the call's own, told by what it holds. -/
def OwnX (w : World) (lo : Nat) (v : Value) (vs : List S3) (xs : List SP) : Prop := vs.map (fun x : S3 => (x.1, x.2.1)) = xs.map (fun x => (x.1, x.2.1)) ∧ OwnS w lo v vs (xs.map (·.2.2))
theorem OwnX.below {B lo : Nat} {w w' : World} {v : Value} {vs : List S3} {xs : List SP} (h : OwnX w lo v vs xs) (hb : Below B w w') (hB : w.heap.size ≤ B) : OwnX w' lo v vs xs := ⟨h.1, h.2.below hb hB⟩
theorem OwnX.len {w : World} {lo : Nat} {v : Value} {vs : List S3} {xs : List SP} (h : OwnX w lo v vs xs) : vs.length = xs.length := by have := h.2.len; simpa using this
theorem OwnX.pair {w : World} {lo : Nat} {v : Value} {vs : List S3} {xs : List SP} (h : OwnX w lo v vs xs) (i : Nat) (hi : i < xs.length) : ∃ x : S3, vs[i]? = some x ∧ x.1 = xs[i].1 ∧ x.2.1 = xs[i].2.1 ∧ OwnB w lo x.2.2 xs[i].2.2 := by
  obtain ⟨x, hx, ho⟩ := h.2.body i (by simpa using hi)
  rw [List.getElem_map] at ho
  refine ⟨x, hx, ?_, ?_, ho⟩
  · have e : (vs.map (fun x : S3 => (x.1, x.2.1)))[i]? = (xs.map (fun x => (x.1, x.2.1)))[i]? := by rw [h.1]
    rw [List.getElem?_map, List.getElem?_map, hx, List.getElem?_eq_getElem hi] at e
    simp at e
    exact e.1
  · have e : (vs.map (fun x : S3 => (x.1, x.2.1)))[i]? = (xs.map (fun x => (x.1, x.2.1)))[i]? := by rw [h.1]
    rw [List.getElem?_map, List.getElem?_map, hx, List.getElem?_eq_getElem hi] at e
    simp at e
    exact e.2
theorem OwnX.cells {w : World} {lo : Nat} {a : Option Addr} {n cap : Nat} {vs : List S3} {xs : List SP} (h : OwnX w lo (.slice a n cap) vs xs) (hp : 0 < xs.length) : ∃ g, a = some ⟨g, 0, none⟩ ∧ n = xs.length ∧ ∀ i (hi : i < xs.length), ∃ x : S3, vs[i]? = some x ∧ w.cell? ⟨g, i * 3, none⟩ = some (.int .i64 (xs[i].1 : Int)) ∧ w.cell? ⟨g, i * 3 + 1, none⟩ = some (.int .i64 (xs[i].2.1 : Int)) ∧ w.cell? ⟨g, i * 3 + 2, none⟩ = some x.2.2 ∧ OwnB w lo x.2.2 xs[i].2.2 := by
  rcases h.2.row.2 with ⟨_, hn⟩ | ⟨g, cap', cur, h', _⟩
  · simp at hn; simp [hn] at hp
  · simp only [Value.slice.injEq] at h'
    obtain ⟨rfl, rfl, rfl⟩ := h'
    refine ⟨g, rfl, by simp, fun i hi => ?_⟩
    obtain ⟨x, hx, e1, e2, ho⟩ := h.pair i hi
    have hl := h.len
    have ex : vs[i]'(by omega) = x := by rw [List.getElem?_eq_getElem (by omega)] at hx; simpa using hx
    obtain ⟨k0, k1, k2⟩ := cells3_get vs i (by omega)
    rw [ex] at k0 k1 k2
    have c0 := World.ownsRow.cells h.2.row (g := g) rfl (i * 3) _ k0
    have c1 := World.ownsRow.cells h.2.row (g := g) rfl (i * 3 + 1) _ k1
    have c2 := World.ownsRow.cells h.2.row (g := g) rfl (i * 3 + 2) _ k2
    rw [addr_add, Nat.zero_add] at c0 c1 c2
    exact ⟨x, hx, by rw [← e1]; exact c0, by rw [← e2]; exact c1, c2, ho⟩
theorem OwnX.at {w : World} {lo : Nat} {a : Option Addr} {n cap : Nat} {vs : List S3} {xs : List SP} (h : OwnX w lo (.slice a n cap) vs xs) : SpansAt w a xs := fun hp => by
  obtain ⟨g, rfl, _, hc⟩ := h.cells hp
  refine ⟨g, 0, rfl, fun i hi => ?_⟩
  obtain ⟨x, _, c0, c1, c2, ho⟩ := hc i hi
  obtain ⟨ai, ci, e⟩ := ho.slice
  rw [e] at c2 ho
  exact ⟨ai, ci, by rw [Nat.zero_add]; exact c0, by rw [Nat.zero_add]; exact c1, by rw [Nat.zero_add]; exact c2, ho.row⟩
theorem eqSpan_same (a a' : Option Addr) (l : List Nat) (cap cap' p q : Nat) (w : World) (hl : l.length ≤ 9223372036854775807) (hr : RowAt w a l) (hr' : RowAt w a' l) :
    Calls Try.prog 53 #[.agg #[.int .i64 (p : Int), .int .i64 (q : Int), .slice a l.length cap], .agg #[.int .i64 (p : Int), .int .i64 (q : Int), .slice a' l.length cap']] w fun e w' => e = .returned (.bool true) ∧ Below w.heap.size w w' := by
  have hb0 : ∀ o1 o2 : Obj, Below w.heap.size w ((w.alloc o1).alloc o2) := fun _ _ => ((Below.refl _ _).alloc (Nat.le_refl _) _).alloc (by simp) _
  have HR := hide (fun o1 o2 => hr.below (hb0 o1 o2))
  have HR' := hide (fun o1 o2 => hr'.below (hb0 o1 o2))
  have HB := hide hb0
  have h1 : ((p : Int) != (p : Int)) = false := by simp
  have h2 : ((q : Int) != (q : Int)) = false := by simp
  clear hb0 hr hr'
  go_enter Try.func53, Try.ntmps53
  go_wp2_with fail
  refine (eqByteS_any a a' cap cap' l l _ hl (HR.out _ _) (HR'.out _ _)).mono ?_
  rintro e w2 ⟨rfl, n, e2⟩
  have hb2 := below_more (HB.out _ _) (drewn_below e2)
  clear e2
  rw [decide_eq_true (rfl : l = l)]
  have HN := hide hb2
  clear hb2 HR HR' HB
  go_wp2
  go_ret
  exact ⟨rfl, HN.out⟩
theorem eqSpanS_same (a a' : Option Addr) (cap cap' : Nat) (es : List SP) (w : World) (hl : es.length ≤ 9223372036854775807) (hls : ∀ e ∈ es, e.2.2.length ≤ 9223372036854775807) (hr : SpansAt w a es) (hr' : SpansAt w a' es) :
    Calls Try.prog 40 #[.slice a es.length cap, .slice a' es.length cap'] w fun e w' => e = .returned (.bool true) ∧ Below w.heap.size w w' := by
  go_enter Try.func40, Try.ntmps40
  go_wp2
  go_loopw [5] (fun i wr => ∃ k : Nat, k ≤ es.length ∧ i = .int .i64 k ∧ Below w.heap.size w wr) (fun i _ => es.length - (intOf i).toNat)
  case atStart => exact ⟨0, Nat.zero_le _, rfl, Below.refl _ _⟩
  case round =>
    obtain ⟨k, hk, rfl, hnx⟩ := hrel
    by_cases hlt : k < es.length
    · obtain ⟨b, off, rfl, hc⟩ := (hr.below hnx) (by omega)
      obtain ⟨b', off', rfl, hc'⟩ := (hr'.below hnx) (by omega)
      obtain ⟨ai, ci, hc0, hc1, hc2, hri⟩ := hc k hlt
      obtain ⟨ai', ci', hd0, hd1, hd2, hri'⟩ := hc' k hlt
      have hkl := hls _ (List.getElem_mem hlt)
      have HRI := hide hri
      have HRI' := hide hri'
      have HKL := hide hkl
      have HN := hide hnx
      clear hc hc' hr hr' hnx hri hri' hkl hls
      generalize es[k].1 = p0 at hc0 hd0
      generalize es[k].2.1 = q0 at hc1 hd1
      generalize es[k].2.2 = l0 at hc2 hd2 HRI HRI' HKL
      go_wp2
      go_region_with (go_at_call 53; refine (eqSpan_same ai ai' l0 ci ci' p0 q0 _ HKL.out (HRI.out.drew 1) (HRI'.out.drew 1)).mono ?_; rintro e w2 ⟨rfl, hb⟩)
      all_goals
        have hnx2 : Below w.heap.size w w2 := HN.out.drew.trans (hb.mono HN.out.size)
        have HN2 := hide hnx2
        clear hnx2 hb hc0 hc1 hd0 hd1 hc2 hd2
        go_wp2
        go_roundw
        case rel => exact ⟨k + 1, by omega, by go_num, HN2.out⟩
        case measure => simp [intOf]; omega
    · go_wp2
      go_ret
      exact ⟨rfl, hnx⟩
theorem eqSpans_same (a a' : Option Addr) (cap cap' : Nat) (ok : Bool) (es : List SP) (w : World) (hl : es.length ≤ 9223372036854775807) (hls : ∀ e ∈ es, e.2.2.length ≤ 9223372036854775807) (hr : SpansAt w a es) (hr' : SpansAt w a' es) :
    Calls Try.prog 23 #[.agg #[.bool ok, .slice a es.length cap], .agg #[.bool ok, .slice a' es.length cap']] w fun e w' => e = .returned (.bool true) ∧ Below w.heap.size w w' := by
  have hb0 : ∀ o1 o2 : Obj, Below w.heap.size w ((w.alloc o1).alloc o2) := fun _ _ => ((Below.refl _ _).alloc (Nat.le_refl _) _).alloc (by simp) _
  have HR := hide (fun o1 o2 => hr.below (hb0 o1 o2))
  have HR' := hide (fun o1 o2 => hr'.below (hb0 o1 o2))
  have HB := hide hb0
  have h1 : (ok != ok) = false := by simp
  clear hb0 hr hr'
  go_enter Try.func23, Try.ntmps23
  go_wp2_with fail
  refine (eqSpanS_same a a' cap cap' es _ hl hls (HR.out _ _) (HR'.out _ _)).mono ?_
  rintro e w2 ⟨rfl, hb2⟩
  have HN := hide (below_more (HB.out _ _) hb2)
  clear hb2 HR HR' HB
  go_wp2
  go_ret
  exact ⟨rfl, HN.out⟩
end Go.Proofs.Ytdibaaghonmekac
