import Derived.Test.YtledlicandlekaaDoorCutLw7
namespace Go.Proofs.YtledlicandlekaaDoor
open Go.RowKit
theorem oneOf_unK {lits : Bool} {d : List Nat} {u : UnitM} {k : Nat} (h : oneOf lits d = some (u, k)) : unK u ≤ k := by
  unfold oneOf at h
  cases he : findEnd d with
  | none => rw [he] at h; cases h
  | some e =>
    obtain ⟨h1, _, _⟩ := findEnd_lt he
    rw [he] at h
    simp only at h
    split at h
    · simp only [Option.some.injEq, Prod.mk.injEq] at h
      rw [← h.1]; unfold unK badU; simp; omega
    · split at h
      · simp only [Option.some.injEq, Prod.mk.injEq] at h
        rw [← h.1]; unfold unK; simp; omega
      · next n i hli =>
        have hi : i < e := by
          split at hli
          · have := (litOf_lt hli).1
            rw [List.length_take] at this; omega
          · cases hli
        repeat' split at h
        all_goals first
          | (cases h; done)
          | (simp only [Option.some.injEq, Prod.mk.injEq] at h; rw [← h.1]; unfold unK; first | (unfold badU; simp; omega) | (simp; omega))
theorem cut_sum (lits : Bool) : ∀ (f : Nat) (d : List Nat) (k : Nat), kAt k (cutOf lits f d).1 (cutOf lits f d).1.length + (cutOf lits f d).2.length ≤ k + d.length
  | 0, d, k => Nat.le_refl _
  | f + 1, d, k => by
    cases ho : oneOf lits d with
    | none =>
      have e : cutOf lits (f + 1) d = ([], d) := by simp only [cutOf, ho]
      rw [e]
      exact Nat.le_refl _
    | some x =>
      obtain ⟨u, n⟩ := x
      have e : cutOf lits (f + 1) d = (u :: (cutOf lits f (d.drop n)).1, (cutOf lits f (d.drop n)).2) := by simp only [cutOf, ho]
      rw [e]
      have h1 := cut_sum lits f (d.drop n) (k + unK u)
      have h2 := oneOf_unK ho
      have h3 := (oneOf_size ho).2
      rw [List.length_drop] at h1
      show kAt (k + unK u) (cutOf lits f (d.drop n)).1 (cutOf lits f (d.drop n)).1.length + _ ≤ _
      show _ + (cutOf lits f (d.drop n)).2.length ≤ _
      omega
theorem kAt_count : ∀ (k : Nat) (us : List UnitM), k + us.length ≤ kAt k us us.length
  | k, [] => Nat.le_refl _
  | k, u :: r => by
    have h := kAt_count (k + unK u) r
    show k + (r.length + 1) ≤ kAt (k + unK u) r r.length
    unfold unK at h ⊢
    omega
theorem kAt_mem (k : Nat) (us : List UnitM) (i : Nat) (h : i < us.length) : unK us[i] ≤ kAt k us us.length := by
  have h1 := kAt_le k us (i + 1) (by omega)
  rw [kAt_succ k us i h] at h1
  omega
theorem kAt_each (k : Nat) (us : List UnitM) : ∀ u ∈ us, u.1.length ≤ kAt k us us.length ∧ u.2.1.length ≤ kAt k us us.length := by
  intro u hu
  obtain ⟨i, hi, rfl⟩ := List.getElem_of_mem hu
  have := kAt_mem k us i hi
  unfold unK at this
  omega
set_option maxHeartbeats 1000000 in
theorem markUnits_any (lo hi k : Nat) (a p : Option Addr) (cap q : Nat) (us : List UnitM) (r : List Nat) (vs : List U4) (w : World) (hk : kAt k us us.length ≤ 4503599627370496) (hl : us.length ≤ 4503599627370496) (hr : r.length ≤ 1048576) (hlo : lo ≤ w.heap.size) (hown : OwnU w lo (.slice a us.length cap) vs us) (hrest : OwnB w lo (.slice p r.length q) r) (hap : ∀ y ∈ slicesU vs, apartV y (.slice p r.length q)) (hhi : hi ≤ w.heap.size) (hsp : ∀ g, (Value.slice a us.length cap).ownBlock = some g → g < hi) (hin : ∀ s ∈ slicesU vs, ∀ g, s.ownBlock = some g → g < hi) (hrs : ∀ g, (Value.slice p r.length q).ownBlock = some g → g < hi) :
    Calls Tryd.prog 12 #[.agg #[.slice a us.length cap, .slice p r.length q], .int .i64 (k : Int)] w fun e w' => e = .returned (.int .i64 ((kAt k us us.length + r.length : Nat) : Int)) ∧ (∃ vs', OwnU w' lo (.slice a us.length cap) vs' (mus k us)) ∧ OwnB w' lo (.slice p r.length q) (marks (kAt k us us.length) r.length) ∧ Below lo w w' ∧ (∀ g, hi ≤ g → g < w.heap.size → w'.heap[g]? = w.heap[g]?) := by
  have hb := (Below.refl w.heap.size w).alloc (Nat.le_refl _) (.cells #[.slice a us.length cap, .slice p r.length q] 25)
  have hbox := blk_new w #[.slice a us.length cap, .slice p r.length q] 25
  have H1 := hide (markUnitS_any lo hi k a cap us vs _ hk hl (Nat.le_trans hlo hb.size) (hown.below hb (Nat.le_refl _)) hsp hin)
  have HR := hide (hrest.below hb (Nat.le_refl _))
  have HB := hide (hb.mono hlo)
  have HK0 := hide (fun g (hg : g < w.heap.size) => hb.block g hg)
  have HZ := hide hb.size
  have HX := hide hbox
  have HAP := hide hap
  clear hb hbox hown hrest hap
  go_enter Tryd.func12, Tryd.ntmps12
  go_wp2_with fail
  generalize w.alloc (.cells #[.slice a us.length cap, .slice p r.length q] 25) = w1 at H1 HR HB HX HK0 HZ ⊢
  refine H1.out.mono ?_
  rintro e w2 ⟨rfl, ⟨vs2, hs2, o2⟩, f2⟩
  have hx2 : Blk w2 w.heap.size #[.slice a us.length cap, .slice p r.length q] 25 := (f2.new _ hhi (lt_of_block HX.out)).trans HX.out
  have q1 : w2.cell? ⟨w.heap.size, 1, none⟩ = some (.slice p r.length q) := hx2.cell 1
  have hr2 := f2.own _ _ HR.out HAP.out
  have HO2 := hide o2
  have HF2 := hide f2
  have HS2 := hide hs2
  have HR2 := hide hr2
  clear H1 HR HX o2 f2 hs2 hr2 hx2
  have HK := hide hk
  have H3 := hide (markByteS_any lo p q (kAt k us us.length) r w2 hk (by omega) HR2.out)
  generalize hKe : kAt k us us.length = K at H3 HK hk ⊢
  have HKE := hide hKe
  clear hk hKe
  go_wp2_with fail
  refine H3.out.mono ?_
  rintro e w3 ⟨rfl, o3, g3, z3⟩
  have hU : OwnU w3 lo (.slice a us.length cap) vs2 (mus k us) := HO2.out.grownR g3 (fun y hy => HAP.out y (by rw [← HS2.out]; exact hy)) HR2.out
  have hB : Below lo w w3 := (HB.out.trans HF2.out.bel).grown g3 (Nat.le_trans hlo (HB.out.trans HF2.out.bel).size) (fun b hb => (World.ownsRow.lt HR2.out b hb).1)
  have hN : ∀ g, hi ≤ g → g < w.heap.size → w3.heap[g]? = w.heap[g]? := fun g h1 h2 => (g3.block g (by rw [HF2.out.sz]; exact Nat.lt_of_lt_of_le h2 HZ.out) (fun e => by have := hrs g e.symm; omega)).trans ((HF2.out.new g h1 (Nat.lt_of_lt_of_le h2 HZ.out)).trans (HK0.out g h2))
  go_wp2
  go_ret
  exact ⟨ret_int (by rw [HKE.out]; omega), ⟨vs2, hU⟩, by rw [HKE.out]; exact o3, hB, hN⟩
end Go.Proofs.YtledlicandlekaaDoor
