import Derived.Test.YtpbpidfjecejcaaGreatDoorPkm
import Derived.Test.YtpbpidfjecejcaaGreatDoorPkn
import Derived.Test.YtpbpidfjecejcaaGreatDoorPkh
import Derived.Test.YtpbpidfjecejcaaGreatDoorPke
import Derived.Test.YtpbpidfjecejcaaGreatDoorPki
namespace Go.Proofs.YtpbpidfjecejcaaGreatDoor
open Go.RowKit Go.Maps
theorem mem_sumE : ∀ {es : List (ByteArray × Int)} {e : ByteArray × Int}, e ∈ es → e.1.size ≤ sumE es
  | x :: r, e, h => by
    rcases List.mem_cons.1 h with rfl | h
    · simp only [sumE]; omega
    · have := mem_sumE h; simp only [sumE]; omega
theorem mem_sumO : ∀ {es : List (Int × ByteArray × ByteArray × Int)} {e : Int × ByteArray × ByteArray × Int}, e ∈ es → e.2.1.size + e.2.2.1.size ≤ sumO es
  | x :: r, e, h => by
    rcases List.mem_cons.1 h with rfl | h
    · simp only [sumO]; omega
    · have := mem_sumO h; simp only [sumO]; omega
/-- What the readers ask of a disk that came in. -/
structure InDisk (w : World) (v : Value) (D : MDisk) : Prop where
  at_ : DiskAt w v D
  n1 : D.nodes.length ≤ 9223372036854775807
  n2 : D.names.length ≤ 9223372036854775807
  n3 : D.kept.length ≤ 9223372036854775807
  n4 : D.pend.length ≤ 9223372036854775807
  h1 : ∀ e ∈ D.nodes, e.1.length ≤ 9223372036854775807
  h2 : ∀ e ∈ D.names, e.1.size ≤ 9223372036854775807
  h3 : ∀ e ∈ D.kept, e.1.size ≤ 9223372036854775807
  h4 : ∀ e ∈ D.pend, e.2.1.size ≤ 9223372036854775807 ∧ e.2.2.1.size ≤ 9223372036854775807
  wf : ∀ o ∈ D.pend, (Lit.int .i64 o.2.2.2).wf = true
def szOf (D : MDisk) : Nat := szD D.nodes D.names D.kept D.pend
theorem modest_of {D : MDisk} (h : szOf D ≤ 1048576) : Modest D := by
  unfold szOf szD at h
  exact ⟨by omega, by omega, by omega, by omega, by omega, fun e he => by have := mem_sumE he; omega, fun e he => by have := mem_sumE he; omega, fun o ho => by have := mem_sumO ho; omega⟩
theorem nodes_small {D : MDisk} (h : szOf D ≤ 1048576) : ∀ e ∈ D.nodes, e.1.length ≤ 1048576 := fun e he => by
  have := node_le D.nodes e he
  unfold szOf szD at h
  omega
theorem szDisk_v {w : World} {v : Value} {D : MDisk} (h : InDisk w v D) :
    Calls Tryz.prog 10 #[v, .int .i64 1048576] w fun e w' => e = .returned (.int .i64 (szRest 1048576 (szOf D))) ∧ Below w.heap.size w w' := by
  obtain ⟨⟨a1, c1, a2, c2, a3, c3, a4, c4, rfl, r1, r2, r3, r4⟩, n1, n2, n3, n4, h1, h2, h3, h4, wf⟩ := h
  exact szDisk_any a1 a2 a3 a4 c1 c2 c3 c4 D.quota D.nodes D.names D.kept D.pend w n1 n2 n3 n4 h1 h2 h3 h4 r1 r2 r3 r4
theorem specValid_v {w : World} {v : Value} {D : MDisk} (h : DiskAt w v D) (hM : Modest D) : Calls Tryz.prog 41 #[v] w (ValPost w (ValidD D)) := by
  obtain ⟨a1, c1, a2, c2, a3, c3, a4, c4, rfl, r1, r2, r3, r4⟩ := h
  exact specValid_any a1 a2 a3 a4 c1 c2 c3 c4 D w hM r1 r2 r3 r4
theorem implValid_v {w : World} {v : Value} {D : MDisk} (h : DiskAt w v D) (hM : Modest D) (hw : ∀ o ∈ D.pend, (Lit.int .i64 o.2.2.2).wf = true) : Calls Tryz.prog 48 #[v] w (ValPost w (ValidD D)) := by
  obtain ⟨a1, c1, a2, c2, a3, c3, a4, c4, rfl, r1, r2, r3, r4⟩ := h
  exact implValid_any entries_holds a1 a2 a3 a4 c1 c2 c3 c4 D w hM hw r1 r2 r3 r4
theorem InDisk.below {w w' : World} {v : Value} {D : MDisk} (h : InDisk w v D) (hb : Below w.heap.size w w') : InDisk w' v D := { h with at_ := h.at_.below hb }
theorem InDisk.shape {w : World} {v : Value} {D : MDisk} (h : InDisk w v D) : ∃ a1 m1 c1 a2 m2 c2 a3 m3 c3 a4 m4 c4 q, v = .agg #[.slice a1 m1 c1, .slice a2 m2 c2, .slice a3 m3 c3, .slice a4 m4 c4, .int .i64 q] := by
  obtain ⟨⟨a1, c1, a2, c2, a3, c3, a4, c4, rfl, _⟩, _⟩ := h
  exact ⟨_, _, _, _, _, _, _, _, _, _, _, _, _, rfl⟩
theorem DiskAt.shape {w : World} {v : Value} {D : MDisk} (h : DiskAt w v D) : ∃ a1 m1 c1 a2 m2 c2 a3 m3 c3 a4 m4 c4 q, v = .agg #[.slice a1 m1 c1, .slice a2 m2 c2, .slice a3 m3 c3, .slice a4 m4 c4, .int .i64 q] := by
  obtain ⟨a1, c1, a2, c2, a3, c3, a4, c4, rfl, _⟩ := h
  exact ⟨_, _, _, _, _, _, _, _, _, _, _, _, _, rfl⟩
end Go.Proofs.YtpbpidfjecejcaaGreatDoor
namespace Go.Proofs.YtpbpidfjecejcaaGreatDoor
open Go.RowKit
def Kept (w w' : World) : Prop := ∀ g t n, Raw w g t n → Raw w' g t n
def SlRaw (w : World) (lo hi : Nat) (t : TypeId) (sz : Nat) (v : Value) : Prop := v = .slice none 0 0 ∨ ∃ g n cap m, v = .slice (some ⟨g, 0, none⟩) n cap ∧ Raw w g t m ∧ n * sz ≤ m ∧ lo ≤ g ∧ g < hi ∧ n ≤ 1048576
def NdRaw (w : World) (lo hi : Nat) (v : Value) : Prop := v = .slice none 0 0 ∨ ∃ g n cap m vs, v = .slice (some ⟨g, 0, none⟩) n cap ∧ NodesRaw w lo hi g n m vs ∧ n ≤ 1048576
theorem SlRaw.turn {w w' : World} {lo hi sz : Nat} {t : TypeId} {v : Value} (h : SlRaw w lo hi t sz v) (hk : Kept w w') : SlRaw w' lo hi t sz v := by
  rcases h with rfl | ⟨g, n, cap, m, e, r, rest⟩
  · exact .inl rfl
  · exact .inr ⟨g, n, cap, m, e, hk _ _ _ r, rest⟩
theorem NdRaw.below {w w' : World} {lo hi : Nat} {v : Value} (h : NdRaw w lo hi v) (hb : Below w.heap.size w w') : NdRaw w' lo hi v := by
  rcases h with rfl | ⟨g, n, cap, m, vs, e, r, rest⟩
  · exact .inl rfl
  · exact .inr ⟨g, n, cap, m, vs, e, r.turn (fun _ _ _ h => h.of_eq (hb.block _ h.lt)) (fun j _ => cell_of_block (hb.block _ r.raw.lt)), rest⟩
theorem SlRaw.below {w w' : World} {lo hi sz : Nat} {t : TypeId} {v : Value} (h : SlRaw w lo hi t sz v) (hb : Below w.heap.size w w') : SlRaw w' lo hi t sz v := h.turn (fun _ _ _ h => h.of_eq (hb.block _ h.lt))
theorem markN_el (lo hi k : Nat) (v : Value) (w : World) (hk : k ≤ 1048576) (h : NdRaw w lo hi v) :
    Calls Tryz.prog 31 #[v, .int .i64 (k : Int)] w fun e w' => (∃ k' : Nat, e = .returned (.int .i64 (k' : Int)) ∧ k' ≤ k + 1099512676352) ∧ Kept w w' ∧ Out lo hi w w' := by
  rcases h with rfl | ⟨g, n, cap, m, vs, rfl, r, hn⟩
  · refine (markN_nil k w).mono ?_
    rintro e w' ⟨rfl, rfl⟩
    exact ⟨⟨k, rfl, by omega⟩, fun _ _ _ h => h, Out.refl _ _ _⟩
  · refine (markN_raw lo hi g n cap m k vs w hn hk r).mono ?_
    rintro e w' ⟨⟨k', rfl, hk'⟩, h1, h2⟩
    exact ⟨⟨k', rfl, by omega⟩, h1, h2⟩
theorem markE_el (lo hi k : Nat) (v : Value) (w : World) (hk : k ≤ 1125899906842624) (h : SlRaw w lo hi 102 2 v) :
    Calls Tryz.prog 32 #[v, .int .i64 (k : Int)] w fun e w' => (∃ k' : Nat, e = .returned (.int .i64 (k' : Int)) ∧ k' ≤ k + 2097152) ∧ Kept w w' ∧ Out lo hi w w' := by
  rcases h with rfl | ⟨g, n, cap, m, rfl, r, hm, hl, hh, hn⟩
  · refine (markE_nil k w).mono ?_
    rintro e w' ⟨rfl, rfl⟩
    exact ⟨⟨k, rfl, by omega⟩, fun _ _ _ h => h, Out.refl _ _ _⟩
  · refine (markE_raw lo hi g n cap m k w hn hk r hm hl hh).mono ?_
    rintro e w' ⟨rfl, h1, h2⟩
    exact ⟨⟨_, rfl, by omega⟩, h1, h2⟩
theorem markO_el (lo hi k : Nat) (v : Value) (w : World) (hk : k ≤ 1125899906842624) (h : SlRaw w lo hi 105 4 v) :
    Calls Tryz.prog 33 #[v, .int .i64 (k : Int)] w fun e w' => (∃ k' : Nat, e = .returned (.int .i64 (k' : Int)) ∧ k' ≤ k + 4194304) ∧ Kept w w' ∧ Out lo hi w w' := by
  rcases h with rfl | ⟨g, n, cap, m, rfl, r, hm, hl, hh, hn⟩
  · refine (markO_nil k w).mono ?_
    rintro e w' ⟨rfl, rfl⟩
    exact ⟨⟨k, rfl, by omega⟩, fun _ _ _ h => h, Out.refl _ _ _⟩
  · refine (markO_raw lo hi g n cap m k w hn hk r hm hl hh).mono ?_
    rintro e w' ⟨rfl, h1, h2⟩
    exact ⟨⟨_, rfl, by omega⟩, h1, h2⟩
/-- A disk, whatever it holds, all in blocks of [lo, hi). -/
structure DiskRaw (w : World) (lo hi : Nat) (v : Value) : Prop where
  ex : ∃ a1 m1 c1 a2 m2 c2 a3 m3 c3 a4 m4 c4 q, v = .agg #[.slice a1 m1 c1, .slice a2 m2 c2, .slice a3 m3 c3, .slice a4 m4 c4, .int .i64 q] ∧ NdRaw w lo hi (.slice a1 m1 c1) ∧ SlRaw w lo hi 102 2 (.slice a2 m2 c2) ∧ SlRaw w lo hi 102 2 (.slice a3 m3 c3) ∧ SlRaw w lo hi 105 4 (.slice a4 m4 c4)
theorem DiskRaw.below {w w' : World} {lo hi : Nat} {v : Value} (h : DiskRaw w lo hi v) (hb : Below w.heap.size w w') : DiskRaw w' lo hi v := by
  obtain ⟨a1, m1, c1, a2, m2, c2, a3, m3, c3, a4, m4, c4, q, e, r1, r2, r3, r4⟩ := h.ex
  exact ⟨a1, m1, c1, a2, m2, c2, a3, m3, c3, a4, m4, c4, q, e, r1.below hb, r2.below hb, r3.below hb, r4.below hb⟩
theorem ownB_el {w : World} {base : Nat} {v : Value} {l : List Nat} (h : OwnB w base v l) (hl : l.length ≤ 1048576) : ElOk w base w.heap.size v := by
  rcases h.2 with ⟨hv, hn⟩ | ⟨g, cap, cur, hv, hb, hg, hnc, hcm, hcs, hx⟩
  · exact .inl hv
  · exact .inr ⟨g, l.length, cap, cur.size, hv, ⟨cur, hg, rfl⟩, by omega, hb, lt_of_block hg, hl⟩
theorem ownE_sl {w : World} {base : Nat} {v : Value} {es : List (ByteArray × Int)} (h : OwnE w base v es) (hl : es.length ≤ 1048576) : SlRaw w base w.heap.size 102 2 v := by
  rcases h.2 with ⟨hv, hn⟩ | ⟨g, cap, cur, hv, hb, hg, hnc, hcm, hcs, hx⟩
  · exact .inl hv
  · rw [List.length_map] at hv hnc
    exact .inr ⟨g, es.length, cap, cur.size, hv, ⟨cur, hg, rfl⟩, by rw [hcs]; exact Nat.mul_le_mul_right _ hnc, hb, lt_of_block hg, hl⟩
theorem ownO_sl {w : World} {base : Nat} {v : Value} {es : List (Int × ByteArray × ByteArray × Int)} (h : OwnO w base v es) (hl : es.length ≤ 1048576) : SlRaw w base w.heap.size 105 4 v := by
  rcases h.2 with ⟨hv, hn⟩ | ⟨g, cap, cur, hv, hb, hg, hnc, hcm, hcs, hx⟩
  · exact .inl hv
  · rw [List.length_map] at hv hnc
    exact .inr ⟨g, es.length, cap, cur.size, hv, ⟨cur, hg, rfl⟩, by rw [hcs]; exact Nat.mul_le_mul_right _ hnc, hb, lt_of_block hg, hl⟩
theorem ownN_nd {w : World} {base : Nat} {v : Value} {ns : List (List Nat × Int)} (h : OwnN w base v ns) (hl : ns.length ≤ 1048576) (hls : ∀ e ∈ ns, e.1.length ≤ 1048576) : NdRaw w base w.heap.size v := by
  obtain ⟨vs, hlen, h2, hi⟩ := h
  have h2' := h2
  rcases h2.2 with ⟨hv, hn⟩ | ⟨g, cap, cur, hv, hb, hg, hnc, hcm, hcs, hx⟩
  · exact .inl hv
  · refine .inr ⟨g, ns.length, cap, cur.size, fun j => (vs.getD j (.slice none 0 0, .slice none 0 0)).1, by rw [hv, hlen], ⟨⟨cur, hg, rfl⟩, by rw [hcs]; exact Nat.mul_le_mul_right _ (by omega), hb, lt_of_block hg, fun j hj => ?_, fun j hj => ?_⟩, hl⟩
    · rw [hv] at h2'
      have := (Own2.cells h2' j (by omega)).1
      rw [this]
      simp [List.getD, show j < vs.length by omega]
    · obtain ⟨x, hx1, hx2⟩ := hi j hj
      have e : (vs.getD j (.slice none 0 0, .slice none 0 0)).1 = x := by simp [List.getD, hx1]
      rw [e]
      exact ownB_el hx2 (hls _ (List.getElem_mem hj))
theorem ownD_raw {w : World} {base : Nat} {v : Value} {D : MDisk} (h : OwnD w base v D) (hM : Modest D) : DiskRaw w base w.heap.size v := by
  obtain ⟨v1, v2, v3, v4, rfl, h1, h2, h3, h4⟩ := h
  have r1 := ownN_nd h1 hM.n1 (fun e he => by have := node_le D.nodes e he; have := hM.sum; omega)
  have r2 := ownE_sl h2 hM.n2
  have r3 := ownE_sl h3 hM.n3
  have r4 := ownO_sl h4 hM.n4
  obtain ⟨a1, c1, rfl⟩ := h1.slice
  obtain ⟨a2, c2, rfl⟩ := h2.slice
  obtain ⟨a3, c3, rfl⟩ := h3.slice
  obtain ⟨a4, c4, rfl⟩ := h4.slice
  exact ⟨_, _, _, _, _, _, _, _, _, _, _, _, _, rfl, r1, r2, r3, r4⟩
set_option maxRecDepth 20000 in
set_option maxHeartbeats 1000000 in
theorem markDisk_raw (lo hi : Nat) (v : Value) (w : World) (hhi : hi ≤ w.heap.size) (h : DiskRaw w lo hi v) :
    Calls Tryz.prog 8 #[v, .int .i64 1] w fun e w' => (∃ k' : Nat, e = .returned (.int .i64 (k' : Int))) ∧ Out lo hi w w' := by
  obtain ⟨a1, m1, c1, a2, m2, c2, a3, m3, c3, a4, m4, c4, q, rfl, r1, r2, r3, r4⟩ := h.ex
  have hA := (Below.refl w.heap.size w).alloc (Nat.le_refl _) (.cells #[.slice a1 m1 c1, .slice a2 m2 c2, .slice a3 m3 c3, .slice a4 m4 c4, .int .i64 q] 27)
  have L0 := Laid.new w #[.slice a1 m1 c1, .slice a2 m2 c2, .slice a3 m3 c3, .slice a4 m4 c4, .int .i64 q] 27
  have HN := hide (markN_el lo hi 1 _ _ (by omega) (r1.below hA))
  have HO0 := hide (show Out lo hi w _ from Out.of_below hA)
  have HE2 := hide (r2.below hA)
  have HE3 := hide (r3.below hA)
  have HE4 := hide (r4.below hA)
  clear h r1 r2 r3 r4
  go_enter Tryz.func8, Tryz.ntmps8
  go_wp2_with fail
  generalize w.alloc (.cells #[.slice a1 m1 c1, .slice a2 m2 c2, .slice a3 m3 c3, .slice a4 m4 c4, .int .i64 q] 27) = w0 at hA L0 HN HO0 HE2 HE3 HE4 ⊢
  refine HN.out.mono ?_
  rintro e w1 ⟨⟨k1, rfl, hk1⟩, hkp1, ho1⟩
  have L1 : Laid w1 w.heap.size #[.slice a1 m1 c1, .slice a2 m2 c2, .slice a3 m3 c3, .slice a4 m4 c4, .int .i64 q] 27 := (ho1.block w.heap.size L0.lt (.inr hhi)).trans L0
  have t1 : w1.cell? ⟨w.heap.size, 1, none⟩ = some (.slice a2 m2 c2) := L1.cell 1
  have HM := hide (markE_el lo hi k1 _ w1 (by omega) (HE2.out.turn hkp1))
  replace HE3 := hide (HE3.out.turn hkp1)
  replace HE4 := hide (HE4.out.turn hkp1)
  replace HO0 := hide (HO0.out.trans ho1)
  clear HN HE2 hkp1 ho1 L0 hA
  go_wp2_with fail
  refine HM.out.mono ?_
  rintro e w2 ⟨⟨k2, rfl, hk2⟩, hkp2, ho2⟩
  have L2 : Laid w2 w.heap.size #[.slice a1 m1 c1, .slice a2 m2 c2, .slice a3 m3 c3, .slice a4 m4 c4, .int .i64 q] 27 := (ho2.block w.heap.size L1.lt (.inr hhi)).trans L1
  have t2 : w2.cell? ⟨w.heap.size, 2, none⟩ = some (.slice a3 m3 c3) := L2.cell 2
  replace HM := hide (markE_el lo hi k2 _ w2 (by omega) (HE3.out.turn hkp2))
  replace HE4 := hide (HE4.out.turn hkp2)
  replace HO0 := hide (HO0.out.trans ho2)
  clear HE3 hkp2 ho2 L1 t1
  go_wp2_with fail
  refine HM.out.mono ?_
  rintro e w3 ⟨⟨k3, rfl, hk3⟩, hkp3, ho3⟩
  have L3 : Laid w3 w.heap.size #[.slice a1 m1 c1, .slice a2 m2 c2, .slice a3 m3 c3, .slice a4 m4 c4, .int .i64 q] 27 := (ho3.block w.heap.size L2.lt (.inr hhi)).trans L2
  have t3 : w3.cell? ⟨w.heap.size, 3, none⟩ = some (.slice a4 m4 c4) := L3.cell 3
  replace HM := hide (markO_el lo hi k3 _ w3 (by omega) (HE4.out.turn hkp3))
  replace HO0 := hide (HO0.out.trans ho3)
  clear HE4 hkp3 ho3 L2 t2 L3
  go_wp2_with fail
  refine HM.out.mono ?_
  rintro e w4 ⟨⟨k4, rfl, hk4⟩, hkp4, ho4⟩
  replace HO0 := hide (HO0.out.trans ho4)
  clear hkp4 ho4 t3 HM
  go_wp2
  go_ret
  exact ⟨⟨k4, rfl⟩, HO0.out⟩
end Go.Proofs.YtpbpidfjecejcaaGreatDoor
namespace Go.Proofs.YtpbpidfjecejcaaGreatDoor
open Go.RowKit
/-- Only the blocks of S may have changed. -/
structure Fr (S : Nat → Prop) (w w' : World) : Prop where
  os : w'.os = w.os
  tape : w'.tape = w.tape
  output : w'.output = w.output
  size : w.heap.size ≤ w'.heap.size
  block : ∀ g, g < w.heap.size → ¬ S g → w'.heap[g]? = w.heap[g]?
theorem Fr.refl (S : Nat → Prop) (w : World) : Fr S w w := ⟨rfl, rfl, rfl, Nat.le_refl _, fun _ _ _ => rfl⟩
theorem Fr.trans {S : Nat → Prop} {a b c : World} (h : Fr S a b) (k : Fr S b c) : Fr S a c :=
  ⟨k.os.trans h.os, k.tape.trans h.tape, k.output.trans h.output, Nat.le_trans h.size k.size, fun g hg hn => (k.block g (Nat.lt_of_lt_of_le hg h.size) hn).trans (h.block g hg hn)⟩
theorem Fr.mono {S S' : Nat → Prop} {w w' : World} (h : Fr S w w') (hs : ∀ g, S g → S' g) : Fr S' w w' := ⟨h.os, h.tape, h.output, h.size, fun g hg hn => h.block g hg (fun e => hn (hs g e))⟩
theorem Fr.of_grown {S : Nat → Prop} {w w' : World} {row : Option Nat} (h : w.grownBy w' row) (hr : ∀ k, row = some k → S k) : Fr S w w' :=
  ⟨h.os, h.tape, h.output, h.size, fun g hg hn => h.block g hg (fun e => hn (hr g e.symm))⟩
theorem Fr.of_below {S : Nat → Prop} {w w' : World} (h : Below w.heap.size w w') : Fr S w w' := ⟨h.os, h.tape, h.output, h.size, fun g hg _ => h.block g hg⟩
theorem Fr.andThen {S : Nat → Prop} {a b c : World} (h : Fr S a b) (k : Below b.heap.size b c) : Fr S a c := h.trans (Fr.of_below k)
theorem Fr.set {S : Nat → Prop} {a w : World} {g j : Nat} {u : Value} (h : Fr S a w) (hg : S g) : Fr S a (w.setCell ⟨g, j, none⟩ u) :=
  ⟨h.os, h.tape, h.output, by simpa using h.size, fun k hk ho => by
    rw [heap_setCell_other w ⟨g, j, none⟩ k u (fun e => ho (by simp at e; rw [e]; exact hg))]
    exact h.block k hk ho⟩
theorem Fr.below {S : Nat → Prop} {B : Nat} {w w' : World} (h : Fr S w w') (hs : ∀ g, S g → B ≤ g) (hB : B ≤ w.heap.size) : Below B w w' :=
  (Out.below (lo := B) (hi := w.heap.size) ⟨h.os, h.tape, h.output, h.size, fun k hk ho => h.block k hk (fun e => by have := hs k e; omega)⟩ (Nat.le_refl _) hB)
def awayV (a b : Value) : Prop := a.ownBlock = none ∨ a.ownBlock ≠ b.ownBlock
theorem awayV.symm {a b : Value} (h : awayV a b) : awayV b a := by
  cases hb : b.ownBlock with
  | none => exact .inl hb
  | some g =>
    refine .inr fun e => ?_
    rcases h with h | h
    · rw [hb, h] at e; cases e
    · exact h e.symm
theorem away_not {a b : Value} (h : awayV a b) : ∀ g, a.ownBlock = some g → ¬ b.ownBlock = some g := fun g ha hb => by
  rcases h with h | h
  · rw [h] at ha; cases ha
  · exact h (ha.trans hb.symm)
/-- A row of the call's own stands where its block has not changed. -/
theorem owns_fr {S : Nat → Prop} {w w' : World} {base e k n : Nat} {v : Value} {xs : List Value} (h : w.ownsRow base e k v n xs) (f : Fr S w w') (hn : ∀ g, v.ownBlock = some g → ¬ S g) : w'.ownsRow base e k v n xs := by
  refine ⟨h.1, ?_⟩
  rcases h.2 with hn' | ⟨g, cap, cur, rfl, hbase, hg, rest⟩
  · exact .inl hn'
  · exact .inr ⟨g, cap, cur, rfl, hbase, (f.block g (lt_of_block hg) (hn g rfl)).trans hg, rest⟩
theorem owns_away {w : World} {b1 b2 e1 e2 k1 k2 n1 n2 : Nat} {v x : Value} {xs ys : List Value} (h1 : w.ownsRow b1 e1 k1 v n1 xs) (h2 : w.ownsRow b2 e2 k2 x n2 ys) (he : e1 ≠ e2) : awayV v x := by
  rcases h1.2 with ⟨rfl, _⟩ | ⟨g, cap, cur, rfl, _, hg, _⟩
  · exact .inl rfl
  · refine .inr fun e => ?_
    rcases h2.2 with ⟨rfl, _⟩ | ⟨g', cap', cur', rfl, _, hg', _⟩
    · simp [Value.ownBlock] at e
    · simp only [Value.ownBlock, Option.some.injEq] at e
      subst e
      rw [hg] at hg'
      simp only [Option.some.injEq, Obj.cells.injEq] at hg'
      exact he hg'.2.1
theorem awayP {ss : List Value} (h : ss.Pairwise awayV) {p q : Nat} {y z : Value} (hp : ss[p]? = some y) (hq : ss[q]? = some z) (hne : p ≠ q) : awayV y z := by
  obtain ⟨hpl, hy⟩ := List.getElem?_eq_some_iff.1 hp
  obtain ⟨hql, hz⟩ := List.getElem?_eq_some_iff.1 hq
  have hh := List.pairwise_iff_getElem.1 h
  rcases Nat.lt_or_ge p q with hpq | hpq
  · have := hh p q hpl hql hpq
    rw [hy, hz] at this
    exact this
  · have := hh q p hql hpl (by omega)
    rw [hy, hz] at this
    exact this.symm
end Go.Proofs.YtpbpidfjecejcaaGreatDoor
namespace Go.Proofs.YtpbpidfjecejcaaGreatDoor
open Go.RowKit
/-- What marking writes into a list of entries. -/
def marksE (k n : Nat) : List (ByteArray × Int) := (List.range n).map fun i => (mtx (k + 2 * i), ((k + 2 * i + 1 : Nat) : Int))
theorem marksE_length (k n : Nat) : (marksE k n).length = n := by simp [marksE]
theorem marksE_at (k n i : Nat) (h : i < (marksE k n).length) : (marksE k n)[i] = (mtx (k + 2 * i), ((k + 2 * i + 1 : Nat) : Int)) := by simp [marksE]
theorem marksE_succ (k n : Nat) : marksE k (n + 1) = marksE k n ++ [(mtx (k + 2 * n), ((k + 2 * n + 1 : Nat) : Int))] := by simp [marksE, List.range_succ]
def markedE (k : Nat) (l : List (ByteArray × Int)) (i : Nat) : List (ByteArray × Int) := marksE k i ++ l.drop i
theorem markedE_zero (k : Nat) (l : List (ByteArray × Int)) : markedE k l 0 = l := by simp [markedE, marksE]
theorem markedE_len (k : Nat) (l : List (ByteArray × Int)) : markedE k l l.length = marksE k l.length := by simp [markedE]
theorem markedE_length (k : Nat) (l : List (ByteArray × Int)) (i : Nat) (h : i ≤ l.length) : (markedE k l i).length = l.length := by simp [markedE, marksE_length]; omega
theorem markedE_set (k : Nat) (l : List (ByteArray × Int)) (i : Nat) (h : i < l.length) : (markedE k l i).set i (mtx (k + 2 * i), ((k + 2 * i + 1 : Nat) : Int)) = markedE k l (i + 1) := by
  unfold markedE
  rw [List.set_append_right _ _ (by simp [marksE_length])]
  have e : i - (marksE k i).length = 0 := by simp [marksE_length]
  rw [e, List.drop_eq_getElem_cons h, List.set_cons_zero, marksE_succ]
  simp
theorem OwnE.at0 {w : World} {base : Nat} {a : Option Addr} {n cap : Nat} {es : List (ByteArray × Int)} (h : OwnE w base (.slice a n cap) es) (hp : 0 < es.length) : ∃ g, a = some ⟨g, 0, none⟩ ∧ base ≤ g ∧ g < w.heap.size := by
  rcases h.2 with ⟨_, hn⟩ | ⟨g, cap', cur, h', hb, hg, _⟩
  · simp at hn; simp [hn] at hp
  · simp only [Value.slice.injEq] at h'
    exact ⟨g, h'.1, hb, lt_of_block hg⟩
set_option maxRecDepth 20000 in
set_option maxHeartbeats 1000000 in
theorem markE_own (base : Nat) (a : Option Addr) (cap k : Nat) (l : List (ByteArray × Int)) (w : World) (hk0 : 0 < k) (hk : k + 2 * l.length ≤ 4503599627370000) (hown : OwnE w base (.slice a l.length cap) l) :
    Calls Tryz.prog 32 #[.slice a l.length cap, .int .i64 (k : Int)] w fun e w' => e = .returned (.int .i64 ((k + 2 * l.length : Nat) : Int)) ∧ OwnE w' base (.slice a l.length cap) (marksE k l.length) ∧ Fr (fun g => (Value.slice a l.length cap).ownBlock = some g) w w' := by
  go_enter Tryz.func32, Tryz.ntmps32
  go_wp2
  go_loopw [1, 5] (fun s i wr => ∃ j : Nat, j ≤ l.length ∧ i = .int .i64 j ∧ s = .int .i64 ((k + 2 * j : Nat) : Int) ∧ OwnE wr base (.slice a l.length cap) (markedE k l j) ∧ Fr (fun g => (Value.slice a l.length cap).ownBlock = some g) w wr) (fun _ i _ => l.length - (intOf i).toNat)
  case atStart => exact ⟨0, Nat.zero_le _, rfl, rfl, by rw [markedE_zero]; exact hown, Fr.refl _ _⟩
  case round =>
    obtain ⟨j, hj, rfl, rfl, hown', hf⟩ := hrel
    clear hown
    by_cases hlt : j < l.length
    · have hml := markedE_length k l j hj
      obtain ⟨b, rfl, hb1, hb2⟩ := hown'.at0 (by omega)
      have hset : ((markedE k l j).map entP).set j (.string (mtx (k + 2 * j)), .int .i64 ((k + 2 * j + 1 : Nat) : Int)) = (markedE k l (j + 1)).map entP := by
        rw [← markedE_set k l j hlt, List.map_set]; rfl
      obtain ⟨s', hs'⟩ : ∃ s', s' = k + 2 * j := ⟨_, rfl⟩
      rw [← hs'] at hset ⊢
      have hb' : s' ≤ 4503599627370000 := by omega
      have HO := hide hown'
      have HF := hide hf
      have HJ := hide hs'
      have HS := hide hset
      have h0 : 0 < s' := by omega
      clear hown' hf hs' hset
      go_wp2_with fail
      refine (markText_is s' wr h0 (by omega)).mono ?_
      rintro e w2 ⟨rfl, hb2⟩
      have ho2 : OwnE w2 _ _ _ := HO.out.below hb2
      obtain ⟨hc0, hc1⟩ := Own2.cells ho2 j (by rw [List.length_map]; omega)
      have hf0 := Own2.frozen ho2 (j * 2)
      have hf1 := Own2.frozen ho2 (j * 2 + 1)
      have hst := Own2.store ho2 j (.string (mtx s')) (.int .i64 ((s' + 1 : Nat) : Int))
      rw [HS.out] at hst
      have hfr := ((HF.out.andThen hb2).set (g := b) (j := j * 2) (u := .string (mtx s')) rfl).set (g := b) (j := j * 2 + 1) (u := .int .i64 ((s' + 1 : Nat) : Int)) rfl
      have e1 : ((s' + 1 : Nat) : Int) = (s' : Int) + 1 := by omega
      rw [e1] at hst hfr
      have HX := hide (And.intro hst hfr)
      generalize (((markedE k l j).map entP)[j]'(by rw [List.length_map]; omega)).1 = y0 at hc0
      generalize (((markedE k l j).map entP)[j]'(by rw [List.length_map]; omega)).2 = y1 at hc1
      clear hst hfr ho2 hb2 HO HF HS hml e1
      generalize mtx s' = tx at HX ⊢
      go_wp2
      go_roundw
      case rel => exact ⟨j + 1, by omega, by go_num, by rw [show k + 2 * (j + 1) = s' + 1 + 1 from by have := HJ.out; omega]; go_num, HX.out.1, HX.out.2⟩
      case measure => simp [intOf]; omega
    · obtain rfl : j = l.length := by omega
      rw [markedE_len] at hown'
      have HO := hide hown'
      have HF := hide hf
      clear hown' hf
      go_wp2
      go_ret
      exact ⟨rfl, HO.out, HF.out⟩
set_option maxRecDepth 20000 in
set_option maxHeartbeats 1000000 in
theorem heldE_any (a : Option Addr) (cap k n : Nat) (w : World) (hk0 : 0 < k) (hk : k + 2 * n ≤ 4503599627370000) (hr : EntAt w a (marksE k n)) :
    Calls Tryz.prog 35 #[.slice a n cap, .int .i64 (k : Int)] w fun e w' => e = .returned (.int .i64 ((k + 2 * n : Nat) : Int)) ∧ Below w.heap.size w w' := by
  go_enter Tryz.func35, Tryz.ntmps35
  go_wp2
  go_loopw [1, 5] (fun s i wr => ∃ j : Nat, j ≤ n ∧ i = .int .i64 j ∧ s = .int .i64 ((k + 2 * j : Nat) : Int) ∧ Below w.heap.size w wr) (fun _ i _ => n - (intOf i).toNat)
  case atStart => exact ⟨0, Nat.zero_le _, rfl, rfl, Below.refl _ _⟩
  case round =>
    obtain ⟨j, hj, rfl, rfl, hb⟩ := hrel
    by_cases hlt : j < n
    · have hml := marksE_length k n
      have hr0 := hr.below hb
      have HR := hide hr
      obtain ⟨b, off, rfl, hc⟩ := hr0 (by omega)
      obtain ⟨hc0, hc1⟩ := hc j (by omega)
      rw [marksE_at k n j (by omega)] at hc0 hc1
      simp only [] at hc0 hc1
      obtain ⟨s', hs'⟩ : ∃ s', s' = k + 2 * j := ⟨_, rfl⟩
      rw [← hs'] at hc0 hc1 ⊢
      have e1 : ((s' + 1 : Nat) : Int) = (s' : Int) + 1 := by omega
      rw [e1] at hc1
      have hb' : s' ≤ 4503599627370000 := by omega
      have h0 : 0 < s' := by omega
      have HB := hide hb
      have HJ := hide hs'
      clear hr hc hml e1 hb hs'
      have HT := hide (fun W => markText_is s' W h0 (by omega))
      generalize mtx s' = tx at hc0 HT
      have hbq : (tx.toList == tx.toList) = true := by simp
      go_wp2
      go_region_with (go_at_call 55; refine (HT.out _).mono ?_; rintro e w2 ⟨rfl, hb2⟩; have d0 : w2.cell? ⟨b, off + j * 2, none⟩ = some (.string tx) := (hb2.cell (p := ⟨b, off + j * 2, none⟩) (lt_of_cell0 hc0)).trans hc0)
      all_goals
        have d1 : w2.cell? ⟨b, off + j * 2 + 1, none⟩ = some (.int .i64 ((s' : Int) + 1)) := (hb2.cell (p := ⟨b, off + j * 2 + 1, none⟩) (lt_of_cell0 hc1)).trans hc1
        have HN2 := hide (show Below w.heap.size w w2 from HB.out.drew.trans (hb2.mono HB.out.size))
        clear hc0 hc1 d0 hb2
        go_wp2
        go_roundw
        case rel => exact ⟨j + 1, by omega, by go_num, by rw [show k + 2 * (j + 1) = s' + 1 + 1 from by have := HJ.out; omega]; go_num, HN2.out⟩
        case measure => simp [intOf]; omega
    · obtain rfl : j = n := by omega
      have HB := hide hb
      clear hb
      go_wp2
      go_ret
      exact ⟨rfl, HB.out⟩
end Go.Proofs.YtpbpidfjecejcaaGreatDoor
namespace Go.Proofs.YtpbpidfjecejcaaGreatDoor
open Go.RowKit
abbrev OpM := Int × ByteArray × ByteArray × Int
def opK (k : Nat) : OpM := ((k : Int), mtx (k + 1), mtx (k + 2), ((k + 3 : Nat) : Int))
/-- What marking writes into a list of steps. -/
def marksO (k n : Nat) : List OpM := (List.range n).map fun i => opK (k + 4 * i)
theorem marksO_length (k n : Nat) : (marksO k n).length = n := by simp [marksO]
theorem marksO_at (k n i : Nat) (h : i < (marksO k n).length) : (marksO k n)[i] = opK (k + 4 * i) := by simp [marksO]
theorem marksO_succ (k n : Nat) : marksO k (n + 1) = marksO k n ++ [opK (k + 4 * n)] := by simp [marksO, List.range_succ]
def markedO (k : Nat) (l : List OpM) (i : Nat) : List OpM := marksO k i ++ l.drop i
theorem markedO_zero (k : Nat) (l : List OpM) : markedO k l 0 = l := by simp [markedO, marksO]
theorem markedO_len (k : Nat) (l : List OpM) : markedO k l l.length = marksO k l.length := by simp [markedO]
theorem markedO_length (k : Nat) (l : List OpM) (i : Nat) (h : i ≤ l.length) : (markedO k l i).length = l.length := by simp [markedO, marksO_length]; omega
theorem markedO_set (k : Nat) (l : List OpM) (i : Nat) (h : i < l.length) : (markedO k l i).set i (opK (k + 4 * i)) = markedO k l (i + 1) := by
  unfold markedO
  rw [List.set_append_right _ _ (by simp [marksO_length])]
  have e : i - (marksO k i).length = 0 := by simp [marksO_length]
  rw [e, List.drop_eq_getElem_cons h, List.set_cons_zero, marksO_succ]
  simp
theorem OwnO.at0 {w : World} {base : Nat} {a : Option Addr} {n cap : Nat} {es : List OpM} (h : OwnO w base (.slice a n cap) es) (hp : 0 < es.length) : ∃ g, a = some ⟨g, 0, none⟩ ∧ base ≤ g ∧ g < w.heap.size := by
  rcases h.2 with ⟨_, hn⟩ | ⟨g, cap', cur, h', hb, hg, _⟩
  · simp at hn; simp [hn] at hp
  · simp only [Value.slice.injEq] at h'
    exact ⟨g, h'.1, hb, lt_of_block hg⟩
/-- One cell of a list of steps is put. -/
theorem Own4.put {w : World} {base e g n cap : Nat} {l : List V4} (h : Own4 w base e (.slice (some ⟨g, 0, none⟩) n cap) l) (j i : Nat) (u : Value) (l' : List V4) (hl : (four l).set (j * 4 + i) u = four l') (hlen : l'.length = l.length) : Own4 (w.setCell ⟨g, j * 4 + i, none⟩ u) base e (.slice (some ⟨g, 0, none⟩) n cap) l' := by
  obtain ⟨a, c, e1⟩ := h.slice
  simp only [Value.slice.injEq] at e1
  obtain ⟨_, rfl, rfl⟩ := e1
  have h1 := (World.ownsRow.stored h (j * 4 + i) u).1
  unfold Own4
  rw [hlen, ← hl]
  exact h1
theorem four_put (l : List V4) (i : Nat) (u : Value) (h : i < l.length) :
    (four l).set (i * 4) u = four (l.set i (u, l[i].2)) ∧ (four l).set (i * 4 + 1) u = four (l.set i (l[i].1, u, l[i].2.2)) ∧ (four l).set (i * 4 + 2) u = four (l.set i (l[i].1, l[i].2.1, u, l[i].2.2.2)) ∧ (four l).set (i * 4 + 3) u = four (l.set i (l[i].1, l[i].2.1, l[i].2.2.1, u)) := by
  induction l generalizing i with
  | nil => simp at h
  | cons p l ih =>
    cases i with
    | zero => simp [four_cons]
    | succ i =>
      obtain ⟨h0, h1, h2, h3⟩ := ih i (by simpa using h)
      rw [four_cons, show (i + 1) * 4 + 3 = (i * 4 + 3) + 1 + 1 + 1 + 1 from by omega, show (i + 1) * 4 + 2 = (i * 4 + 2) + 1 + 1 + 1 + 1 from by omega, show (i + 1) * 4 + 1 = (i * 4 + 1) + 1 + 1 + 1 + 1 from by omega, show (i + 1) * 4 = i * 4 + 1 + 1 + 1 + 1 from by omega]
      simp only [List.set_cons_succ, four_cons, List.getElem_cons_succ]
      rw [h0, h1, h2, h3]
      exact ⟨rfl, rfl, rfl, rfl⟩
/-- Step j of the list is x: the marks on the way through one round. -/
theorem OwnO.put {w : World} {base g n cap j : Nat} {es : List OpM} (h : OwnO w base (.slice (some ⟨g, 0, none⟩) n cap) es) (hj : j < es.length) :
    (∀ z : Int, OwnO (w.setCell ⟨g, j * 4, none⟩ (.int .i64 z)) base (.slice (some ⟨g, 0, none⟩) n cap) (es.set j (z, es[j].2))) ∧ (∀ z : ByteArray, OwnO (w.setCell ⟨g, j * 4 + 1, none⟩ (.string z)) base (.slice (some ⟨g, 0, none⟩) n cap) (es.set j (es[j].1, z, es[j].2.2))) ∧ (∀ z : ByteArray, OwnO (w.setCell ⟨g, j * 4 + 2, none⟩ (.string z)) base (.slice (some ⟨g, 0, none⟩) n cap) (es.set j (es[j].1, es[j].2.1, z, es[j].2.2.2))) ∧ (∀ z : Int, OwnO (w.setCell ⟨g, j * 4 + 3, none⟩ (.int .i64 z)) base (.slice (some ⟨g, 0, none⟩) n cap) (es.set j (es[j].1, es[j].2.1, es[j].2.2.1, z))) := by
  have hj' : j < (es.map opP).length := by rw [List.length_map]; exact hj
  have hp := fun u => four_put (es.map opP) j u hj'
  simp only [List.getElem_map] at hp
  refine ⟨fun z => ?_, fun z => ?_, fun z => ?_, fun z => ?_⟩
  · refine Own4.put h j 0 _ _ ?_ (by simp)
    rw [List.map_set]; exact (hp _).1
  · refine Own4.put h j 1 _ _ ?_ (by simp)
    rw [List.map_set]; exact (hp _).2.1
  · refine Own4.put h j 2 _ _ ?_ (by simp)
    rw [List.map_set]; exact (hp _).2.2.1
  · refine Own4.put h j 3 _ _ ?_ (by simp)
    rw [List.map_set]; exact (hp _).2.2.2
theorem OwnO.cells {w : World} {base g n cap j : Nat} {es : List OpM} (h : OwnO w base (.slice (some ⟨g, 0, none⟩) n cap) es) (hj : j < es.length) : w.cell? ⟨g, j * 4, none⟩ = some (.int .i64 es[j].1) ∧ w.cell? ⟨g, j * 4 + 1, none⟩ = some (.string es[j].2.1) ∧ w.cell? ⟨g, j * 4 + 2, none⟩ = some (.string es[j].2.2.1) ∧ w.cell? ⟨g, j * 4 + 3, none⟩ = some (.int .i64 es[j].2.2.2) := by
  have := Own4.cells h j (by rw [List.length_map]; exact hj)
  simp only [List.getElem_map] at this
  exact this
end Go.Proofs.YtpbpidfjecejcaaGreatDoor
