import Derived.Test.YtledlicandlekabDiskIn
import Derived.ProofKit
import Derived.OpenShut
import Derived.ShutString
import Derived.ChangeOld
import Derived.Below
import Derived.Deep.SlicePairs
namespace Go.Proofs.Ytledlicandlekab
open Go.ChangeShapes Go.WideShapes Go.ChangeAt Go.RowKit Go.Deep
set_option linter.unusedVariables false
section
variable {H : Type} {enc : TypeId × Value → H} {W : World}
theorem spot_none {a : Addr} {v : Value} (h : W.cell? a = some v) : a.spot = none := World.cell?_spot h
theorem bytes_open {fuel : Nat} {v : Value} {x : DataW H × List MemPlace} (h : DataW.trod enc Try.prog W 0 (fun _ => true) true fuel 28 [v] = some x) :
    ∃ (a : Option Addr) (c : Nat) (l : List Nat), v = .slice a l.length c ∧ RowAt W a l ∧ l.length ≤ 9223372036854775807 := by
  rcases open_ints Try.underlying28 Try.underlying5 (by kernel_rfl) h with ⟨hcs, _⟩ | ⟨x, l, c, zs, hcs, _, hl, hm, hz, _, hcell, hwz⟩
  · simp only [List.cons.injEq, and_true] at hcs
    exact ⟨none, 0, [], hcs, fun h => absurd h (Nat.lt_irrefl _), by simp⟩
  · simp only [List.cons.injEq, and_true] at hcs
    have hz2 : zs.length = c := by simpa using hz
    have hlen : ((zs.take l).map Int.toNat).length = l := by simp; omega
    refine ⟨some x, c, (zs.take l).map Int.toNat, by rw [hlen]; exact hcs, fun hp => ?_, by rw [hlen]; unfold maxLen at hm; omega⟩
    obtain ⟨b, off, spot⟩ := x
    have hc := hcell 0 (by omega)
    have hspot : spot = none := by simpa [Addr.add] using World.cell?_spot hc
    subst hspot
    refine ⟨b, off, rfl, fun i hi => ?_⟩
    have hi' : i < zs.length := by omega
    have h1 := hcell i hi'
    have hb : 0 ≤ zs[i] ∧ zs[i] ≤ 255 := by
      have := hwz zs[i] (List.getElem_mem hi')
      simp [Lit.wf, IntKind.min, IntKind.max, IntKind.signed, IntKind.bits] at this
      exact this
    rw [addr_add] at h1
    rw [h1]
    simp only [List.getElem_map, List.getElem_take, List.getD_eq_getElem?_getD, List.getElem?_eq_getElem hi', Option.getD_some]
    rw [Int.toNat_of_nonneg hb.1]
theorem ents_open {fuel : Nat} {v : Value} {x : DataW H × List MemPlace} (h : DataW.trod enc Try.prog W 0 (fun _ => true) true fuel 23 [v] = some x) :
    ∃ (a : Option Addr) (c : Nat) (es : List (ByteArray × Int)), v = .slice a es.length c ∧ EntAt W a es ∧ es.length ≤ 9223372036854775807 ∧ ∀ e ∈ es, e.1.size ≤ 9223372036854775807 := by
  rcases open_slice_pairs Try.underlying23 Try.underlying89 (by kernel_rfl) rfl rfl (by kernel_rfl) (by kernel_rfl) h with ⟨hcs, _⟩ | ⟨x, l, c, m, fu, V0, V1, D0, D1, P0, P1, hcs, _, hl, hm, hmm, _, hx⟩
  · simp only [List.cons.injEq, and_true] at hcs
    exact ⟨none, 0, [], hcs, (fun h => absurd h (Nat.lt_irrefl _)), by simp, (fun e he => by cases he)⟩
  · simp only [List.cons.injEq, and_true] at hcs
    have hmm2 : m = c := by simpa using hmm
    have each : ∀ i, i < l → ∃ q : ByteArray × Int, W.cell? (x.add (i * 2)) = some (.string q.1) ∧ W.cell? (x.add (i * 2 + 1)) = some (.int .i64 q.2) ∧ q.1.size ≤ 9223372036854775807 := fun i hi => by
      obtain ⟨x0, x1, t0, t1⟩ := hx i (by omega)
      obtain ⟨s, g0, _, hs⟩ := DataW.trod_string Try.underlying9 t0
      obtain ⟨z, g1, _⟩ := DataW.trod_int Try.underlying3 t1
      simp only [List.cons.injEq, and_true] at g0 g1
      exact ⟨(s, z), by rw [x0, g0], by rw [x1, g1], by unfold maxLen at hs; simp only; omega⟩
    obtain ⟨q, hq⟩ := choose_lt each
    have hlen : ((List.range l).map q).length = l := by simp
    refine ⟨some x, c, (List.range l).map q, by rw [hlen]; exact hcs, fun hp => ?_, by rw [hlen]; unfold maxLen at hm; omega, fun e he => ?_⟩
    · obtain ⟨b, off, spot⟩ := x
      have hspot : spot = none := by simpa [Addr.add] using World.cell?_spot (hq 0 (by omega)).1
      subst hspot
      refine ⟨b, off, rfl, fun i hi => ?_⟩
      obtain ⟨k0, k1, _⟩ := hq i (by omega)
      rw [addr_add] at k0 k1
      simp only [List.getElem_map, List.getElem_range]
      exact ⟨k0, k1⟩
    · obtain ⟨i, hi, rfl⟩ := List.mem_map.1 he
      exact (hq i (List.mem_range.1 hi)).2.2
theorem nodes_open {fuel : Nat} {v : Value} {x : DataW H × List MemPlace} (h : DataW.trod enc Try.prog W 0 (fun _ => true) true fuel 22 [v] = some x) :
    ∃ (a : Option Addr) (c : Nat) (es : List (List Nat × Int)), v = .slice a es.length c ∧ NodeAt W a es ∧ es.length ≤ 9223372036854775807 ∧ ∀ e ∈ es, e.1.length ≤ 9223372036854775807 := by
  rcases open_slice_pairs Try.underlying22 Try.underlying87 (by kernel_rfl) rfl rfl (by kernel_rfl) (by kernel_rfl) h with ⟨hcs, _⟩ | ⟨x, l, c, m, fu, V0, V1, D0, D1, P0, P1, hcs, _, hl, hm, hmm, _, hx⟩
  · simp only [List.cons.injEq, and_true] at hcs
    exact ⟨none, 0, [], hcs, (fun h => absurd h (Nat.lt_irrefl _)), by simp, (fun e he => by cases he)⟩
  · simp only [List.cons.injEq, and_true] at hcs
    have hmm2 : m = c := by simpa using hmm
    have each : ∀ i, i < l → ∃ q : List Nat × Int, (∃ ai ci, W.cell? (x.add (i * 2)) = some (.slice ai q.1.length ci) ∧ RowAt W ai q.1) ∧ W.cell? (x.add (i * 2 + 1)) = some (.int .i64 q.2) ∧ q.1.length ≤ 9223372036854775807 := fun i hi => by
      obtain ⟨x0, x1, t0, t1⟩ := hx i (by omega)
      obtain ⟨ai, ci, bl, g0, hr, hbl⟩ := bytes_open t0
      obtain ⟨z, g1, _⟩ := DataW.trod_int Try.underlying3 t1
      simp only [List.cons.injEq, and_true] at g1
      exact ⟨(bl, z), ⟨ai, ci, by rw [x0, g0], hr⟩, by rw [x1, g1], hbl⟩
    obtain ⟨q, hq⟩ := choose_lt each
    have hlen : ((List.range l).map q).length = l := by simp
    refine ⟨some x, c, (List.range l).map q, by rw [hlen]; exact hcs, fun hp => ?_, by rw [hlen]; unfold maxLen at hm; omega, fun e he => ?_⟩
    · obtain ⟨b, off, spot⟩ := x
      obtain ⟨⟨_, _, k00, _⟩, _⟩ := hq 0 (by omega)
      have hspot : spot = none := by simpa [Addr.add] using World.cell?_spot k00
      subst hspot
      refine ⟨b, off, rfl, fun i hi => ?_⟩
      obtain ⟨⟨ai, ci, k0, kr⟩, k1, _⟩ := hq i (by omega)
      rw [addr_add] at k0 k1
      simp only [List.getElem_map, List.getElem_range]
      exact ⟨ai, ci, k0, k1, kr⟩
    · obtain ⟨i, hi, rfl⟩ := List.mem_map.1 he
      exact (hq i (List.mem_range.1 hi)).2.2
set_option maxRecDepth 20000 in
theorem ops_open {fuel : Nat} {v : Value} {x : DataW H × List MemPlace} (h : DataW.trod enc Try.prog W 0 (fun _ => true) true fuel 24 [v] = some x) :
    ∃ (a : Option Addr) (c : Nat) (es : List (Int × ByteArray × ByteArray × Int)), v = .slice a es.length c ∧ OpAt W a es ∧ es.length ≤ 9223372036854775807 ∧ (∀ e ∈ es, e.2.1.size ≤ 9223372036854775807 ∧ e.2.2.1.size ≤ 9223372036854775807) ∧ ∀ o ∈ es, (Lit.int .i64 o.2.2.2).wf = true := by
  have ce : Try.prog.cellsOf 91 = 4 := by kernel_rfl
  have c3 : Try.prog.cellsOf 3 = 1 := by kernel_rfl
  have c9 : Try.prog.cellsOf 9 = 1 := by kernel_rfl
  rcases open_slice Try.underlying24 h with ⟨hcs, _⟩ | ⟨x, l, c, m, fu, D, Pl, hcs, _, hl, hm, hmm, _, hx⟩
  · simp only [List.cons.injEq, and_true] at hcs
    exact ⟨none, 0, [], hcs, (fun h => absurd h (Nat.lt_irrefl _)), by simp, (fun e he => by cases he), (fun e he => by cases he)⟩
  · simp only [List.cons.injEq, and_true] at hcs
    have hmm2 : m = c := by simpa using hmm
    have each : ∀ i, i < l → ∃ q : Int × ByteArray × ByteArray × Int, W.cell? (x.add (i * 4)) = some (.int .i64 q.1) ∧ W.cell? (x.add (i * 4 + 1)) = some (.string q.2.1) ∧ W.cell? (x.add (i * 4 + 2)) = some (.string q.2.2.1) ∧ W.cell? (x.add (i * 4 + 3)) = some (.int .i64 q.2.2.2) ∧ q.2.1.size ≤ 9223372036854775807 ∧ q.2.2.1.size ≤ 9223372036854775807 ∧ (Lit.int .i64 q.2.2.2).wf = true := fun i hi => by
      obtain ⟨cs', h1, h2⟩ := hx i (by omega)
      rw [ce] at h1
      obtain ⟨_, hlen, hcell⟩ := World.cells?_some h1
      obtain ⟨xs, k, hk, hxy, _, hxl, hf⟩ := DataW.trod_struct Try.underlying91 h2
      match cs', hlen with
      | [v0, v1, v2, v3], _ =>
        have e0 := hcell 0 (by omega)
        have e1 := hcell 1 (by omega)
        have e2 := hcell 2 (by omega)
        have e3 := hcell 3 (by omega)
        rw [add_add] at e0 e1 e2 e3
        have hxl4 : xs.length = 4 := hxl
        match xs, hxl4 with
        | [y0, y1, y2, y3], _ =>
          have g0 : (DataW.trod enc Try.prog W 0 (fun _ => true) true k 3 (([v0, v1, v2, v3].drop 0).take (Try.prog.cellsOf 3)) = some y0) := hf 0 _ rfl
          rw [c3] at g0
          have g0 : DataW.trod enc Try.prog W 0 (fun _ => true) true k 3 [v0] = some y0 := g0
          have g1 : (DataW.trod enc Try.prog W 0 (fun _ => true) true k 9 (([v0, v1, v2, v3].drop 1).take (Try.prog.cellsOf 9)) = some y1) := hf 1 _ rfl
          rw [c9] at g1
          have g1 : DataW.trod enc Try.prog W 0 (fun _ => true) true k 9 [v1] = some y1 := g1
          have g2 : (DataW.trod enc Try.prog W 0 (fun _ => true) true k 9 (([v0, v1, v2, v3].drop 2).take (Try.prog.cellsOf 9)) = some y2) := hf 2 _ rfl
          rw [c9] at g2
          have g2 : DataW.trod enc Try.prog W 0 (fun _ => true) true k 9 [v2] = some y2 := g2
          have g3 : (DataW.trod enc Try.prog W 0 (fun _ => true) true k 3 (([v0, v1, v2, v3].drop 3).take (Try.prog.cellsOf 3)) = some y3) := hf 3 _ rfl
          rw [c3] at g3
          have g3 : DataW.trod enc Try.prog W 0 (fun _ => true) true k 3 [v3] = some y3 := g3
          obtain ⟨z0, r0, _⟩ := DataW.trod_int Try.underlying3 g0
          obtain ⟨s1, r1, _, hs1⟩ := DataW.trod_string Try.underlying9 g1
          obtain ⟨s2, r2, _, hs2⟩ := DataW.trod_string Try.underlying9 g2
          obtain ⟨z3, r3, _, w3⟩ := DataW.trod_int Try.underlying3 g3
          simp only [List.cons.injEq, and_true] at r0 r1 r2 r3
          subst r0 r1 r2 r3
          exact ⟨(z0, s1, s2, z3), by simpa using e0, by simpa using e1, by simpa using e2, by simpa using e3, by unfold maxLen at hs1; simp only; omega, by unfold maxLen at hs2; simp only; omega, w3⟩
    obtain ⟨q, hq⟩ := choose_lt each
    have hlen : ((List.range l).map q).length = l := by simp
    refine ⟨some x, c, (List.range l).map q, by rw [hlen]; exact hcs, fun hp => ?_, by rw [hlen]; unfold maxLen at hm; omega, fun e he => ?_, fun e he => ?_⟩
    · obtain ⟨b, off, spot⟩ := x
      have hspot : spot = none := by simpa [Addr.add] using World.cell?_spot (hq 0 (by omega)).1
      subst hspot
      refine ⟨b, off, rfl, fun i hi => ?_⟩
      obtain ⟨k0, k1, k2, k3, _⟩ := hq i (by omega)
      rw [addr_add] at k0 k1 k2 k3
      simp only [List.getElem_map, List.getElem_range]
      exact ⟨k0, k1, k2, k3⟩
    · obtain ⟨i, hi, rfl⟩ := List.mem_map.1 he
      exact ⟨(hq i (List.mem_range.1 hi)).2.2.2.2.1, (hq i (List.mem_range.1 hi)).2.2.2.2.2.1⟩
    · obtain ⟨i, hi, rfl⟩ := List.mem_map.1 he
      exact (hq i (List.mem_range.1 hi)).2.2.2.2.2.2
set_option maxRecDepth 20000 in
theorem disk_open {base : Nat} {v : Value} {d : DataW H} {ps : List MemPlace} (hval : Value.okWide Try.prog W .any base 26 v) (h : DataW.Trod enc Try.prog W 0 (fun _ => true) true 26 v d ps) : ∃ D, InDisk W v D := by
  obtain ⟨cs, rfl, hsz⟩ := okWide_struct Try.underlying26 hval
  obtain ⟨fuel, hf⟩ := h
  obtain ⟨xs, k, hk, hxy, hl5, hxl, hfl⟩ := DataW.trod_struct Try.underlying26 hf
  have ce : Try.prog.cellsOf 26 = 5 := by kernel_rfl
  have c3 : Try.prog.cellsOf 3 = 1 := by kernel_rfl
  have cn : Try.prog.cellsOf 22 = 1 := by kernel_rfl
  have cen : Try.prog.cellsOf 23 = 1 := by kernel_rfl
  have co : Try.prog.cellsOf 24 = 1 := by kernel_rfl
  rw [ce] at hsz
  obtain ⟨l⟩ := cs
  have hll : l.length = 5 := by simpa using hsz
  match l, hll with
  | [v0, v1, v2, v3, v4], _ =>
    have hxl5 : xs.length = 5 := hxl
    match xs, hxl5 with
    | [y0, y1, y2, y3, y4], _ =>
      have g0 : (DataW.trod enc Try.prog W 0 (fun _ => true) true k 22 (([v0, v1, v2, v3, v4].drop 0).take (Try.prog.cellsOf 22)) = some y0) := hfl 0 _ rfl
      rw [cn] at g0
      have g0 : DataW.trod enc Try.prog W 0 (fun _ => true) true k 22 [v0] = some y0 := g0
      have g1 : (DataW.trod enc Try.prog W 0 (fun _ => true) true k 23 (([v0, v1, v2, v3, v4].drop 1).take (Try.prog.cellsOf 23)) = some y1) := hfl 1 _ rfl
      rw [cen] at g1
      have g1 : DataW.trod enc Try.prog W 0 (fun _ => true) true k 23 [v1] = some y1 := g1
      have g2 : (DataW.trod enc Try.prog W 0 (fun _ => true) true k 23 (([v0, v1, v2, v3, v4].drop 2).take (Try.prog.cellsOf 23)) = some y2) := hfl 2 _ rfl
      rw [cen] at g2
      have g2 : DataW.trod enc Try.prog W 0 (fun _ => true) true k 23 [v2] = some y2 := g2
      have g3 : (DataW.trod enc Try.prog W 0 (fun _ => true) true k 24 (([v0, v1, v2, v3, v4].drop 3).take (Try.prog.cellsOf 24)) = some y3) := hfl 3 _ rfl
      rw [co] at g3
      have g3 : DataW.trod enc Try.prog W 0 (fun _ => true) true k 24 [v3] = some y3 := g3
      have g4 : (DataW.trod enc Try.prog W 0 (fun _ => true) true k 3 (([v0, v1, v2, v3, v4].drop 4).take (Try.prog.cellsOf 3)) = some y4) := hfl 4 _ rfl
      rw [c3] at g4
      have g4 : DataW.trod enc Try.prog W 0 (fun _ => true) true k 3 [v4] = some y4 := g4
      obtain ⟨a1, c1, ns, rfl, r1, n1, h1⟩ := nodes_open g0
      obtain ⟨a2, c2, es, rfl, r2, n2, h2⟩ := ents_open g1
      obtain ⟨a3, c3', ks, rfl, r3, n3, h3⟩ := ents_open g2
      obtain ⟨a4, c4, os, rfl, r4, n4, h4, h5⟩ := ops_open g3
      obtain ⟨qt, r5, _⟩ := DataW.trod_int Try.underlying3 g4
      obtain rfl : v4 = .int .i64 qt := by injection r5
      exact ⟨⟨ns, es, ks, os, qt⟩, ⟨a1, c1, a2, c2, a3, c3', a4, c4, rfl, r1, r2, r3, r4⟩, n1, n2, n3, n4, h1, h2, h3, h4, h5⟩
end
end Go.Proofs.Ytledlicandlekab
