import Derived.Test.YtledlicandlekabMarkD3
import Derived.Test.YtledlicandlekabDiskIn
namespace Go.Proofs.Ytledlicandlekab
open Go.RowKit
def Kept (w w' : World) : Prop := ∀ g t n, Raw w g t n → Raw w' g t n
def SlRaw (w : World) (lo hi : Nat) (t : TypeId) (sz : Nat) (v : Value) : Prop := v = .slice none 0 0 ∨ ∃ g n cap m, v = .slice (some ⟨g, 0, none⟩) n cap ∧ Raw w g t m ∧ n * sz ≤ m ∧ lo ≤ g ∧ g < hi ∧ n ≤ 1048576
def NdRaw (w : World) (lo hi : Nat) (v : Value) : Prop := v = .slice none 0 0 ∨ ∃ g n cap m vs, v = .slice (some ⟨g, 0, none⟩) n cap ∧ NodesRaw w lo hi g n m vs ∧ n ≤ 1048576
theorem SlRaw.turn {w w' : World} {lo hi sz : Nat} {t : TypeId} {v : Value} (h : SlRaw w lo hi t sz v) (hk : Kept w w') : SlRaw w' lo hi t sz v := by
  rcases h with rfl | ⟨g, n, cap, m, e, r, rest⟩
  · exact .inl rfl
  · exact .inr ⟨g, n, cap, m, e, hk _ _ _ r, rest⟩
theorem NdRaw.below {w w' : World} {lo hi : Nat} {v : Value} (h : NdRaw w lo hi v) (hb : Below w.heap.size w w') : NdRaw w' lo hi v := by
  rcases h with rfl | ⟨g, n, cap, m, vs, e, r, rest⟩
  · exact .inl rfl
  · exact .inr ⟨g, n, cap, m, vs, e, r.turn (fun _ _ _ h => h.of_eq (hb.block _ h.lt)) (fun j _ => cell_of_block (hb.block _ r.raw.lt)), rest⟩
theorem SlRaw.below {w w' : World} {lo hi sz : Nat} {t : TypeId} {v : Value} (h : SlRaw w lo hi t sz v) (hb : Below w.heap.size w w') : SlRaw w' lo hi t sz v := h.turn (fun _ _ _ h => h.of_eq (hb.block _ h.lt))
theorem markN_el (lo hi k : Nat) (v : Value) (w : World) (hk : k ≤ 1048576) (h : NdRaw w lo hi v) :
    Calls Try.prog 36 #[v, .int .i64 (k : Int)] w fun e w' => (∃ k' : Nat, e = .returned (.int .i64 (k' : Int)) ∧ k' ≤ k + 1099512676352) ∧ Kept w w' ∧ Out lo hi w w' := by
  rcases h with rfl | ⟨g, n, cap, m, vs, rfl, r, hn⟩
  · refine (markN_nil k w).mono ?_
    rintro e w' ⟨rfl, rfl⟩
    exact ⟨⟨k, rfl, by omega⟩, fun _ _ _ h => h, Out.refl _ _ _⟩
  · refine (markN_raw lo hi g n cap m k vs w hn hk r).mono ?_
    rintro e w' ⟨⟨k', rfl, hk'⟩, h1, h2⟩
    exact ⟨⟨k', rfl, by omega⟩, h1, h2⟩
theorem markE_el (lo hi k : Nat) (v : Value) (w : World) (hk : k ≤ 1125899906842624) (h : SlRaw w lo hi 58 2 v) :
    Calls Try.prog 37 #[v, .int .i64 (k : Int)] w fun e w' => (∃ k' : Nat, e = .returned (.int .i64 (k' : Int)) ∧ k' ≤ k + 2097152) ∧ Kept w w' ∧ Out lo hi w w' := by
  rcases h with rfl | ⟨g, n, cap, m, rfl, r, hm, hl, hh, hn⟩
  · refine (markE_nil k w).mono ?_
    rintro e w' ⟨rfl, rfl⟩
    exact ⟨⟨k, rfl, by omega⟩, fun _ _ _ h => h, Out.refl _ _ _⟩
  · refine (markE_raw lo hi g n cap m k w hn hk r hm hl hh).mono ?_
    rintro e w' ⟨rfl, h1, h2⟩
    exact ⟨⟨_, rfl, by omega⟩, h1, h2⟩
theorem markO_el (lo hi k : Nat) (v : Value) (w : World) (hk : k ≤ 1125899906842624) (h : SlRaw w lo hi 74 4 v) :
    Calls Try.prog 38 #[v, .int .i64 (k : Int)] w fun e w' => (∃ k' : Nat, e = .returned (.int .i64 (k' : Int)) ∧ k' ≤ k + 4194304) ∧ Kept w w' ∧ Out lo hi w w' := by
  rcases h with rfl | ⟨g, n, cap, m, rfl, r, hm, hl, hh, hn⟩
  · refine (markO_nil k w).mono ?_
    rintro e w' ⟨rfl, rfl⟩
    exact ⟨⟨k, rfl, by omega⟩, fun _ _ _ h => h, Out.refl _ _ _⟩
  · refine (markO_raw lo hi g n cap m k w hn hk r hm hl hh).mono ?_
    rintro e w' ⟨rfl, h1, h2⟩
    exact ⟨⟨_, rfl, by omega⟩, h1, h2⟩
/-- A disk, whatever it holds, all in blocks of [lo, hi). -/
structure DiskRaw (w : World) (lo hi : Nat) (v : Value) : Prop where
  ex : ∃ a1 m1 c1 a2 m2 c2 a3 m3 c3 a4 m4 c4 q, v = .agg #[.slice a1 m1 c1, .slice a2 m2 c2, .slice a3 m3 c3, .slice a4 m4 c4, .int .i64 q] ∧ NdRaw w lo hi (.slice a1 m1 c1) ∧ SlRaw w lo hi 58 2 (.slice a2 m2 c2) ∧ SlRaw w lo hi 58 2 (.slice a3 m3 c3) ∧ SlRaw w lo hi 74 4 (.slice a4 m4 c4)
theorem DiskRaw.below {w w' : World} {lo hi : Nat} {v : Value} (h : DiskRaw w lo hi v) (hb : Below w.heap.size w w') : DiskRaw w' lo hi v := by
  obtain ⟨a1, m1, c1, a2, m2, c2, a3, m3, c3, a4, m4, c4, q, e, r1, r2, r3, r4⟩ := h.ex
  exact ⟨a1, m1, c1, a2, m2, c2, a3, m3, c3, a4, m4, c4, q, e, r1.below hb, r2.below hb, r3.below hb, r4.below hb⟩
theorem ownB_el {w : World} {base : Nat} {v : Value} {l : List Nat} (h : OwnB w base v l) (hl : l.length ≤ 1048576) : ElOk w base w.heap.size v := by
  rcases h.2 with ⟨hv, hn⟩ | ⟨g, cap, cur, hv, hb, hg, hnc, hcm, hcs, hx⟩
  · exact .inl hv
  · exact .inr ⟨g, l.length, cap, cur.size, hv, ⟨cur, hg, rfl⟩, by omega, hb, lt_of_block hg, hl⟩
theorem ownE_sl {w : World} {base : Nat} {v : Value} {es : List (ByteArray × Int)} (h : OwnE w base v es) (hl : es.length ≤ 1048576) : SlRaw w base w.heap.size 58 2 v := by
  rcases h.2 with ⟨hv, hn⟩ | ⟨g, cap, cur, hv, hb, hg, hnc, hcm, hcs, hx⟩
  · exact .inl hv
  · rw [List.length_map] at hv hnc
    exact .inr ⟨g, es.length, cap, cur.size, hv, ⟨cur, hg, rfl⟩, by rw [hcs]; exact Nat.mul_le_mul_right _ hnc, hb, lt_of_block hg, hl⟩
theorem ownO_sl {w : World} {base : Nat} {v : Value} {es : List (Int × ByteArray × ByteArray × Int)} (h : OwnO w base v es) (hl : es.length ≤ 1048576) : SlRaw w base w.heap.size 74 4 v := by
  rcases h.2 with ⟨hv, hn⟩ | ⟨g, cap, cur, hv, hb, hg, hnc, hcm, hcs, hx⟩
  · exact .inl hv
  · rw [List.length_map] at hv hnc
    exact .inr ⟨g, es.length, cap, cur.size, hv, ⟨cur, hg, rfl⟩, by rw [hcs]; exact Nat.mul_le_mul_right _ hnc, hb, lt_of_block hg, hl⟩
theorem ownN_nd {w : World} {base : Nat} {v : Value} {ns : List (List Nat × Int)} (h : OwnN w base v ns) (hl : ns.length ≤ 1048576) (hls : ∀ e ∈ ns, e.1.length ≤ 1048576) : NdRaw w base w.heap.size v := by
  obtain ⟨vs, hlen, h2, hi⟩ := h
  have h2' := h2
  rcases h2.2 with ⟨hv, hn⟩ | ⟨g, cap, cur, hv, hb, hg, hnc, hcm, hcs, hx⟩
  · exact .inl hv
  · refine .inr ⟨g, ns.length, cap, cur.size, fun j => (vs.getD j (.slice none 0 0, .slice none 0 0)).1, by rw [hv, hlen], ⟨⟨cur, hg, rfl⟩, by rw [hcs]; exact Nat.mul_le_mul_right _ (by omega), hb, lt_of_block hg, fun j hj => ?_, fun j hj => ?_⟩, hl⟩
    · rw [hv] at h2'
      have := (Own2.cells h2' j (by omega)).1
      rw [this]
      simp [List.getD, show j < vs.length by omega]
    · obtain ⟨x, hx1, hx2⟩ := hi j hj
      have e : (vs.getD j (.slice none 0 0, .slice none 0 0)).1 = x := by simp [List.getD, hx1]
      rw [e]
      exact ownB_el hx2 (hls _ (List.getElem_mem hj))
theorem ownD_raw {w : World} {base : Nat} {v : Value} {D : MDisk} (h : OwnD w base v D) (hM : Modest D) : DiskRaw w base w.heap.size v := by
  obtain ⟨v1, v2, v3, v4, rfl, h1, h2, h3, h4⟩ := h
  have r1 := ownN_nd h1 hM.n1 (fun e he => by have := node_le D.nodes e he; have := hM.sum; omega)
  have r2 := ownE_sl h2 hM.n2
  have r3 := ownE_sl h3 hM.n3
  have r4 := ownO_sl h4 hM.n4
  obtain ⟨a1, c1, rfl⟩ := h1.slice
  obtain ⟨a2, c2, rfl⟩ := h2.slice
  obtain ⟨a3, c3, rfl⟩ := h3.slice
  obtain ⟨a4, c4, rfl⟩ := h4.slice
  exact ⟨_, _, _, _, _, _, _, _, _, _, _, _, _, rfl, r1, r2, r3, r4⟩
set_option maxRecDepth 20000 in
set_option maxHeartbeats 1000000 in
theorem markDisk_raw (lo hi : Nat) (v : Value) (w : World) (hhi : hi ≤ w.heap.size) (h : DiskRaw w lo hi v) :
    Calls Try.prog 11 #[v, .int .i64 1] w fun e w' => (∃ k' : Nat, e = .returned (.int .i64 (k' : Int))) ∧ Out lo hi w w' := by
  obtain ⟨a1, m1, c1, a2, m2, c2, a3, m3, c3, a4, m4, c4, q, rfl, r1, r2, r3, r4⟩ := h.ex
  have hA := (Below.refl w.heap.size w).alloc (Nat.le_refl _) (.cells #[.slice a1 m1 c1, .slice a2 m2 c2, .slice a3 m3 c3, .slice a4 m4 c4, .int .i64 q] 36)
  have L0 := Laid.new w #[.slice a1 m1 c1, .slice a2 m2 c2, .slice a3 m3 c3, .slice a4 m4 c4, .int .i64 q] 36
  have HN := hide (markN_el lo hi 1 _ _ (by omega) (r1.below hA))
  have HO0 := hide (show Out lo hi w _ from Out.of_below hA)
  have HE2 := hide (r2.below hA)
  have HE3 := hide (r3.below hA)
  have HE4 := hide (r4.below hA)
  clear h r1 r2 r3 r4
  go_enter Try.func11, Try.ntmps11
  go_wp2_with fail
  generalize w.alloc (.cells #[.slice a1 m1 c1, .slice a2 m2 c2, .slice a3 m3 c3, .slice a4 m4 c4, .int .i64 q] 36) = w0 at hA L0 HN HO0 HE2 HE3 HE4 ⊢
  refine HN.out.mono ?_
  rintro e w1 ⟨⟨k1, rfl, hk1⟩, hkp1, ho1⟩
  have L1 : Laid w1 w.heap.size #[.slice a1 m1 c1, .slice a2 m2 c2, .slice a3 m3 c3, .slice a4 m4 c4, .int .i64 q] 36 := (ho1.block w.heap.size L0.lt (.inr hhi)).trans L0
  have t1 : w1.cell? ⟨w.heap.size, 1, none⟩ = some (.slice a2 m2 c2) := L1.cell 1
  have HM := hide (markE_el lo hi k1 _ w1 (by omega) (HE2.out.turn hkp1))
  replace HE3 := hide (HE3.out.turn hkp1)
  replace HE4 := hide (HE4.out.turn hkp1)
  replace HO0 := hide (HO0.out.trans ho1)
  clear HN HE2 hkp1 ho1 L0 hA
  go_wp2_with fail
  refine HM.out.mono ?_
  rintro e w2 ⟨⟨k2, rfl, hk2⟩, hkp2, ho2⟩
  have L2 : Laid w2 w.heap.size #[.slice a1 m1 c1, .slice a2 m2 c2, .slice a3 m3 c3, .slice a4 m4 c4, .int .i64 q] 36 := (ho2.block w.heap.size L1.lt (.inr hhi)).trans L1
  have t2 : w2.cell? ⟨w.heap.size, 2, none⟩ = some (.slice a3 m3 c3) := L2.cell 2
  replace HM := hide (markE_el lo hi k2 _ w2 (by omega) (HE3.out.turn hkp2))
  replace HE4 := hide (HE4.out.turn hkp2)
  replace HO0 := hide (HO0.out.trans ho2)
  clear HE3 hkp2 ho2 L1 t1
  go_wp2_with fail
  refine HM.out.mono ?_
  rintro e w3 ⟨⟨k3, rfl, hk3⟩, hkp3, ho3⟩
  have L3 : Laid w3 w.heap.size #[.slice a1 m1 c1, .slice a2 m2 c2, .slice a3 m3 c3, .slice a4 m4 c4, .int .i64 q] 36 := (ho3.block w.heap.size L2.lt (.inr hhi)).trans L2
  have t3 : w3.cell? ⟨w.heap.size, 3, none⟩ = some (.slice a4 m4 c4) := L3.cell 3
  replace HM := hide (markO_el lo hi k3 _ w3 (by omega) (HE4.out.turn hkp3))
  replace HO0 := hide (HO0.out.trans ho3)
  clear HE4 hkp3 ho3 L2 t2 L3
  go_wp2_with fail
  refine HM.out.mono ?_
  rintro e w4 ⟨⟨k4, rfl, hk4⟩, hkp4, ho4⟩
  replace HO0 := hide (HO0.out.trans ho4)
  clear hkp4 ho4 t3 HM
  go_wp2
  go_ret
  exact ⟨⟨k4, rfl⟩, HO0.out⟩
end Go.Proofs.Ytledlicandlekab
