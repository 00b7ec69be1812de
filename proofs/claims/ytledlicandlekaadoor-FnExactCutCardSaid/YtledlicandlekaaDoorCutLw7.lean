import Derived.Test.YtledlicandlekaaDoorCutLw6
namespace Go.Proofs.YtledlicandlekaaDoor
open Go.RowKit
theorem OwnU.cellAt {w : World} {lo g n cap i : Nat} {vs : List U4} {us : List UnitM} {x : U4} (h : OwnU w lo (.slice (some ⟨g, 0, none⟩) n cap) vs us) (hx : vs[i]? = some x) :
    w.cell? ⟨g, i * 4, none⟩ = some x.1 ∧ w.cell? ⟨g, i * 4 + 1, none⟩ = some x.2.1 ∧ w.cell? ⟨g, i * 4 + 2, none⟩ = some (.bool x.2.2.1) ∧ w.cell? ⟨g, i * 4 + 3, none⟩ = some (.bool x.2.2.2) ∧ ∀ o, w.frozen? ⟨g, o, none⟩ = false := by
  obtain ⟨hl, rfl⟩ := List.getElem?_eq_some_iff.1 hx
  obtain ⟨e0, e1, e2, e3⟩ := cellsU_get vs i hl
  have hn : n = us.length := by
    obtain ⟨a', c', e⟩ := h.slice
    simp only [Value.slice.injEq] at e
    exact e.2.1
  subst hn
  have h0 := World.ownsRow.cells h.row (g := g) rfl _ _ e0
  have h1 := World.ownsRow.cells h.row (g := g) rfl _ _ e1
  have h2 := World.ownsRow.cells h.row (g := g) rfl _ _ e2
  have h3 := World.ownsRow.cells h.row (g := g) rfl _ _ e3
  rw [addr_add, Nat.zero_add] at h0 h1 h2 h3
  exact ⟨h0, h1, h2, h3, fun o => World.ownsRow.frozenAt h.row o⟩
theorem OwnU.bodyAt {w : World} {lo i : Nat} {v : Value} {vs : List U4} {us : List UnitM} {x : U4} (h : OwnU w lo v vs us) (hi : i < us.length) (hx : vs[i]? = some x) : OwnB w lo x.1 us[i].1 ∧ OwnB w lo x.2.1 us[i].2.1 := by
  obtain ⟨y, hy, o1, o2, _⟩ := h.body i hi
  obtain rfl : y = x := by rw [hx] at hy; simpa using hy.symm
  exact ⟨o1, o2⟩
set_option maxHeartbeats 1000000 in
theorem markUnitS_any (lo hi k : Nat) (a : Option Addr) (cap : Nat) (us : List UnitM) (vs : List U4) (w : World) (hk : kAt k us us.length ≤ 4503599627370496) (hl : us.length ≤ 4503599627370496) (hlo : lo ≤ w.heap.size) (hown : OwnU w lo (.slice a us.length cap) vs us) (hsp : ∀ g, (Value.slice a us.length cap).ownBlock = some g → g < hi) (hin : ∀ s ∈ slicesU vs, ∀ g, s.ownBlock = some g → g < hi) :
    Calls Tryd.prog 26 #[.slice a us.length cap, .int .i64 (k : Int)] w fun e w' => e = .returned (.int .i64 ((kAt k us us.length : Nat) : Int)) ∧ (∃ vs', slicesU vs' = slicesU vs ∧ OwnU w' lo (.slice a us.length cap) vs' (mus k us)) ∧ UFr lo hi (slicesU vs) w w' := by
  go_enter Tryd.func26, Tryd.ntmps26
  go_wp2
  go_loopw [1, 5] (fun s i wr => ∃ j : Nat, j ≤ us.length ∧ i = .int .i64 j ∧ s = .int .i64 ((kAt k us j : Nat) : Int) ∧ (∃ vs', slicesU vs' = slicesU vs ∧ OwnU wr lo (.slice a us.length cap) vs' (muM k us j)) ∧ UFr lo hi (slicesU vs) w wr) (fun _ i _ => us.length - (intOf i).toNat)
  case atStart => exact ⟨0, Nat.zero_le _, rfl, by cases us <;> rfl, ⟨vs, rfl, by rw [muM_zero]; exact hown⟩, UFr.refl _ _ _ _⟩
  case round =>
    obtain ⟨j, hj, rfl, rfl, ⟨vs1, hm1, hown'⟩, hfr⟩ := hrel
    clear hown
    by_cases hlt : j < us.length
    · have hml := muM_length k us j hj
      obtain ⟨g, rfl, hgl, hfz, hc⟩ := hown'.cells (by omega)
      obtain ⟨ai, ci, pi, qi, p, q, hx, c0, c1, c2, c3, o1, o2⟩ := hc j (by omega)
      have hat := muM_at k us j hlt (by omega)
      have hset := muM_set k us j hlt
      have hkj := kAt_succ k us j hlt
      have hk1 := kAt_le k us (j + 1) (by omega)
      have HKJ := hide hkj
      rw [hkj] at hk1
      unfold unK at hk1
      have HUL := hide (show unK us[j] = us[j].1.length + us[j].2.1.length + 2 from rfl)
      have HK := hide (Nat.le_trans hk1 hk)
      rw [hat] at hx c0 c1 o1 o2
      have hin1 : Value.slice ai us[j].1.length ci ∈ slicesU vs := by rw [← hm1]; exact List.mem_of_getElem? (at_get hx).1
      have hin2 : Value.slice pi us[j].2.1.length qi ∈ slicesU vs := by rw [← hm1]; exact List.mem_of_getElem? (at_get hx).2
      have L1 := hide (fun w1 (o : OwnB w1 lo (.slice ai us[j].1.length ci) (marks (kAt k us j) us[j].1.length)) (gr : wr.grownBy w1 (Value.slice ai us[j].1.length ci).ownBlock) => hown'.line (by omega) hx o gr)
      have F1 := hide (fun w1 (gr : wr.grownBy w1 (Value.slice ai us[j].1.length ci).ownBlock) (hz : w1.heap.size = wr.heap.size) => hfr.line hlo hin1 (hin _ hin1) o1 gr hz)
      have O1 := hide o1
      have hK := HK.out
      have HX0 := hide hx
      have HAT := hide hat
      have HSET := hide hset
      have HM1 := hide hm1
      have HO := hide hown'
      clear hkj hk1 hk c1 c2 c3 o1 o2 hfz hc hfr hx hat hset hm1 hown'
      go_wp2_with fail
      refine (markByteS_any lo ai ci (kAt k us j) us[j].1 wr (by omega) (by omega) O1.out).mono ?_
      rintro e w1 ⟨rfl, m1, g1, z1⟩
      have hown1 := L1.out w1 m1 g1
      have hfr1 := F1.out w1 g1 z1
      simp only [HAT.out] at hown1
      have hj1 : j < ((muM k us j).set j (marks (kAt k us j) us[j].1.length, us[j].2)).length := by rw [List.length_set]; omega
      have o2 := (hown1.bodyAt hj1 HX0.out).2
      simp only [List.getElem_set_self] at o2
      have c1 := (hown1.cellAt HX0.out).2.1
      simp only [] at c1
      have L2 := hide (fun w2 (o : OwnB w2 lo (.slice pi us[j].2.1.length qi) (marks (kAt k us j + us[j].1.length) us[j].2.1.length)) (gr : w1.grownBy w2 (Value.slice pi us[j].2.1.length qi).ownBlock) => hown1.bodyS hj1 HX0.out o gr)
      have F2 := hide (fun w2 (gr : w1.grownBy w2 (Value.slice pi us[j].2.1.length qi).ownBlock) (hz : w2.heap.size = w1.heap.size) => hfr1.line hlo hin2 (hin _ hin2) o2 gr hz)
      have O2 := hide o2
      clear L1 F1 O1 m1 g1 z1 c0 hown1 hfr1 o2 HO
      go_wp2_with fail
      refine (markByteS_any lo pi qi (kAt k us j + us[j].1.length) us[j].2.1 w1 (by omega) (by omega) O2.out).mono ?_
      rintro e w2 ⟨rfl, m2, g2, z2⟩
      have hown2 := L2.out w2 m2 g2
      have hfr2 := F2.out w2 g2 z2
      simp only [List.getElem_set_self, List.set_set] at hown2
      obtain ⟨-, -, c2, c3, hfz⟩ := hown2.cellAt HX0.out
      simp only [] at c2 c3
      have f2 := hfz (j * 4 + 2)
      have f3 := hfz (j * 4 + 3)
      have hj2 : j < ((muM k us j).set j (marks (kAt k us j) us[j].1.length, marks (kAt k us j + us[j].1.length) us[j].2.1.length, us[j].2.2)).length := by rw [List.length_set]; omega
      obtain ⟨vs3, hs3, hown3, hg3⟩ := hown2.flags (i := j) (p := decide ((kAt k us j + us[j].1.length + us[j].2.1.length) % 3 = 0)) (q := decide ((kAt k us j + us[j].1.length + us[j].2.1.length + 1) % 3 = 0)) hj2
      simp only [List.getElem_set_self, List.set_set] at hown3
      have hset2 := HSET.out
      unfold mark1 at hset2
      rw [hset2] at hown3
      have hfr3 := hfr2.spine hlo hsp hown2.row (by decide) hg3 (by simp)
      have HX := hide (And.intro (show ∃ vs', slicesU vs' = slicesU vs ∧ OwnU _ lo (.slice (some ⟨g, 0, none⟩) us.length cap) vs' (muM k us (j + 1)) from ⟨vs3, hs3.trans HM1.out, hown3⟩) hfr3)
      clear hown2 hfr2 hown3 hfr3 hg3 hset2 hs3 m2 g2 z2 L2 F2 O2 c1 hfz hj1 hj2 HX0 HAT HSET HM1 hin1 hin2 hin hsp hml
      generalize kAt k us j = K at *
      generalize us[j].1.length = L at *
      generalize us[j].2.1.length = M at *
      generalize hR : K + L + M = R at *
      have hb2 : decide (R % 3 = 0) = ((R : Int) % 3 == 0) := by rw [Bool.eq_iff_iff]; simp; omega
      have hb3 : decide ((R + 1) % 3 = 0) = (((R : Int) + 1) % 3 == 0) := by rw [Bool.eq_iff_iff]; simp; omega
      rw [hb2, hb3] at HX
      have HRR := hide hR
      have hRb : R ≤ 4503599627370494 := by omega
      clear hb2 hb3 hR hK
      go_wp2
      go_roundw
      case rel => exact ⟨j + 1, by omega, by go_num, val_int (by have h1 := HKJ.out; have h2 := HUL.out; have h5 := HRR.out; omega), HX.out.1, HX.out.2⟩
      case measure => simp [intOf]; omega
    · obtain rfl : j = us.length := by omega
      rw [muM_len] at hown'
      go_wp2
      go_ret
      exact ⟨rfl, ⟨vs1, hm1, hown'⟩, hfr⟩
end Go.Proofs.YtledlicandlekaaDoor
