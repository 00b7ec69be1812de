import Derived.Test.YtledlicandlekabBsF
import Derived.Test.YtledlicandlekabDiskIn
import Derived.Test.YtledlicandlekabCloneB
namespace Go.Proofs.Ytledlicandlekab
open Go.RowKit
/-- What a valid disk tells of a name. -/
def readD (D : MDisk) (nm : ByteArray) : Bool × List Nat :=
  match nodeIn D.names nm with
  | some n => (true, (D.nodes.getD n.toNat ([], 0)).1)
  | none => (false, [])
theorem readD_some {D : MDisk} {nm : ByteArray} {n : Int} {k : Nat} (h : nodeIn D.names nm = some n) (hk : n = (k : Int)) (hl : k < D.nodes.length) : readD D nm = (true, (D.nodes[k]).1) := by
  unfold readD
  rw [h]
  subst hk
  simp [List.getD, hl]
theorem readD_none {D : MDisk} {nm : ByteArray} (h : nodeIn D.names nm = none) : readD D nm = (false, []) := by
  unfold readD
  rw [h]
theorem nodeIn_absent {es : List EN} {nm : ByteArray} (h : ∀ m, (nm, m) ∉ es) : nodeIn es nm = none := by
  cases e : nodeIn es nm with
  | none => rfl
  | some n => exact absurd (nodeIn_of e) (h n)
/-- What dataOf answers. -/
def DataPost (D : MDisk) (nm : ByteArray) (e : Ending) (w' : World) : Prop := ∃ a c, e = .returned (.tuple #[.slice a (readD D nm).2.length c, .bool (readD D nm).1]) ∧ RowAt w' a (readD D nm).2
set_option maxRecDepth 20000 in
set_option maxHeartbeats 1000000 in
theorem dataOf_any (v : Value) (D : MDisk) (nm : ByteArray) (w : World) (hv : ValidD D) (hd : DiskAt w v D) :
    Calls Try.prog 30 #[v, .string nm] w fun e w' => DataPost D nm e w' ∧ Below w.heap.size w w' := by
  obtain ⟨a1, c1, a2, c2, a3, c3, a4, c4, rfl, r1, r2, r3, r4⟩ := hd
  have hok : okList (D.nodes.length : Int) D.names = true := hv.2.2.2.2.1
  obtain ⟨hap, hso, hle, hnd⟩ := okList_apart hok
  have hnl : D.nodes.length ≤ 600 := by have h := hv.2.2.2.1; unfold okNodes at h; exact (of_decide_eq_true h).1
  have hA := (Below.refl w.heap.size w).alloc (Nat.le_refl _) (.cells #[.slice a1 D.nodes.length c1, .slice a2 D.names.length c2, .slice a3 D.kept.length c3, .slice a4 D.pend.length c4, .int .i64 D.quota] 36)
  have L0 := Laid.new w #[.slice a1 D.nodes.length c1, .slice a2 D.names.length c2, .slice a3 D.kept.length c3, .slice a4 D.pend.length c4, .int .i64 D.quota] 36
  have HBS := hide (fun (W : World) (hb : Below w.heap.size w W) => bsearchF_any a2 c2 D.names nm W (by omega) (r2.below hb) hso)
  have HR1 := hide (fun (W : World) (hb : Below w.heap.size w W) => r1.below hb)
  have HR2 := hide (fun (W : World) (hb : Below w.heap.size w W) => r2.below hb)
  have HNI := hide (fun (n : Int) => nodeIn_iff (n := n) (s := nm) hap.good)
  have HND := hide hnd
  clear r1 r2 r3 r4 hap hso hnd hok hv
  go_enter Try.func30, Try.ntmps30
  go_wp2_with fail
  generalize w.alloc (.cells #[.slice a1 D.nodes.length c1, .slice a2 D.names.length c2, .slice a3 D.kept.length c3, .slice a4 D.pend.length c4, .int .i64 D.quota] 36) = w0 at hA L0 ⊢
  refine (HBS.out w0 hA).mono ?_
  rintro e w1 ⟨⟨i, f, rfl, hft, hff⟩, hb1⟩
  have HB1 := hide (hA.trans (hb1.mono hA.size))
  have L1 := L0.below hb1 L0.lt
  cases f with
  | false =>
    have HN := hide (readD_none (nodeIn_absent (hff rfl)))
    clear hft hff hA L0 hb1 HBS L1
    go_wp2
    go_ret2
    exact ⟨⟨none, 0, by rw [HN.out]; rfl, by rw [HN.out]; exact fun h => absurd h (Nat.lt_irrefl _)⟩, HB1.out⟩
  | true =>
    obtain ⟨hi, hnm⟩ := hft rfl
    have hmem : (nm, D.names[i].2) ∈ D.names := by rw [← hnm]; exact List.getElem_mem hi
    obtain ⟨hn0, hn1⟩ := HND.out _ hmem
    obtain ⟨k, hk⟩ := Int.eq_ofNat_of_zero_le hn0
    simp only at hk hn1
    have hkl : k < D.nodes.length := by omega
    have HRD := hide (readD_some ((HNI.out _).2 hmem) hk hkl)
    obtain ⟨b2, o2, e2, hc2⟩ := (HR2.out w1 HB1.out) (by omega)
    obtain ⟨b1, o1, e1, hc1⟩ := (HR1.out w1 HB1.out) (by omega)
    obtain ⟨ai, ci, k0, k1, krow⟩ := hc1 k hkl
    have g1 := (hc2 i hi).2
    rw [hk] at g1
    subst e1 e2
    have t0 : w1.cell? ⟨w.heap.size, 0, none⟩ = some (.slice (some ⟨b1, o1, none⟩) D.nodes.length c1) := L1.cell 0
    have t1 : w1.cell? ⟨w.heap.size, 1, none⟩ = some (.slice (some ⟨b2, o2, none⟩) D.names.length c2) := L1.cell 1
    have hii : (i : Int) < (D.names.length : Int) := by omega
    have hkk : (k : Int) < (D.nodes.length : Int) := by omega
    have HROW := hide krow
    generalize D.nodes[k].1 = bl at k0 HRD HROW
    generalize D.nodes[k].2 = sf at k1
    clear hft hff hA L0 hb1 HBS L1 hmem hn0 hn1 hk hc1 hc2 krow HND HNI HR1 HR2 hnm
    go_wp2
    go_quiet (fail)
    go_wp2
    go_ret2
    exact ⟨⟨ai, ci, by rw [HRD.out]; rfl, by rw [HRD.out]; exact HROW.out.below (below_drewN (Below.refl _ _) _)⟩, below_drewN HB1.out _⟩
end Go.Proofs.Ytledlicandlekab
