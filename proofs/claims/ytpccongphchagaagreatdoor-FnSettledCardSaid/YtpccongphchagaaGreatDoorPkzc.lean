import Derived.Test.YtpccongphchagaaGreatDoorPks
import Derived.Test.YtpccongphchagaaGreatDoorPko
import Derived.Test.YtpccongphchagaaGreatDoorPkq
import Derived.Test.YtpccongphchagaaGreatDoorPkk
import Derived.Test.YtpccongphchagaaGreatDoorPkza
namespace Go.Proofs.YtpccongphchagaaGreatDoor
open Go.RowKit
theorem firstOf_any (a : Option Addr) (cap n : Nat) (d : Int) (w : World) (hn : n ≤ 1048576) (hc : n ≤ cap) :
    Calls Tryz.prog 31 #[.slice a n cap, .int .i64 d] w fun e w' => e = .returned (.slice a (min d.toNat n) cap) ∧ w' = w := by
  have he : (min (max d 0) (n : Int)).toNat = min d.toNat n := by omega
  have HE := hide he
  clear he
  go_enter Tryz.func31, Tryz.ntmps31
  go_wp2
  go_ret
  exact ⟨congrArg (fun m => Ending.returned (.slice a m cap)) HE.out, rfl⟩
theorem looseKept_any (a : Option Addr) (cap : Nat) (ps : List Int) (i z : Nat) (w : World) (hn : ps.length ≤ 1048576) (hi : i ≤ 1048576) (hz : z ≤ 1048576) (hr : IntAt w a ps) :
    Calls Tryz.prog 34 #[.slice a ps.length cap, .int .i64 (i : Int), .int .i64 (z : Int)] w fun e w' => e = .returned (.int .i64 (((if ps.length = 0 then 0 else (max (ps.getD (i % ps.length) 0) 0).toNat % (z + 1)) : Nat) : Int)) ∧ w' = w := by
  by_cases h0 : ps.length = 0
  · have hi0 : (ps.length : Int) = 0 := by omega
    rw [if_pos h0]
    go_enter Tryz.func34, Tryz.ntmps34
    go_wp2
    go_ret
    exact ⟨rfl, rfl⟩
  · obtain ⟨b, off, rfl, hc⟩ := hr (by omega)
    have hlt : i % ps.length < ps.length := Nat.mod_lt _ (by omega)
    have hc0 := hc (i % ps.length) hlt
    have hg : ps.getD (i % ps.length) 0 = ps[i % ps.length] := by simp [List.getD_eq_getElem?_getD, List.getElem?_eq_getElem hlt]
    rw [if_neg h0, hg]
    have hne : ¬ (ps.length : Int) = 0 := by omega
    have hmod : ((i : Int) % (ps.length : Int)) = ((i % ps.length : Nat) : Int) := by omega
    clear hc hr hg
    generalize ps[i % ps.length] = p at hc0 ⊢
    generalize i % ps.length = m at hlt hc0 hmod
    have HE := hide (show max p 0 % ((z : Int) + 1) = (((max p 0).toNat % (z + 1) : Nat) : Int) by rw [Int.natCast_emod, Int.toNat_of_nonneg (by omega)]; push_cast; rfl)
    go_enter Tryz.func34, Tryz.ntmps34
    go_wp2
    go_ret
    exact ⟨ret_int HE.out, rfl⟩
end Go.Proofs.YtpccongphchagaaGreatDoor
namespace Go.Proofs.YtpccongphchagaaGreatDoor
open Go.RowKit
def cmpI (x y : ByteArray) : Int := if Op.bytesLess x.toList y.toList then -1 else if x.toList = y.toList then 0 else 1
theorem cmpI_lt (x y : ByteArray) : cmpI x y < 0 ↔ Op.bytesLess x.toList y.toList = true := by
  unfold cmpI
  constructor
  · intro h
    by_cases e : Op.bytesLess x.toList y.toList = true
    · exact e
    · rw [if_neg e] at h
      split at h <;> omega
  · intro h; rw [if_pos h]; decide
theorem cmpI_zero (x y : ByteArray) : cmpI x y = 0 ↔ x = y := by
  unfold cmpI
  constructor
  · intro h
    by_cases e : Op.bytesLess x.toList y.toList = true
    · rw [if_pos e] at h; omega
    · rw [if_neg e] at h
      by_cases e3 : x.toList = y.toList
      · exact bytes_eq e3
      · rw [if_neg e3] at h; omega
  · rintro rfl
    rw [less_irrefl]
    simp
theorem cmpCompare_any (x y : ByteArray) (w : World) : Calls Tryz.prog 66 #[.string x, .string y] w fun e w' => e = .returned (.int .i64 (cmpI x y)) ∧ w' = w := by
  have HC := hide (show cmpI x y = if Op.bytesLess x.toList y.toList then -1 else if x.toList = y.toList then 0 else 1 from rfl)
  cases h1 : Op.bytesLess x.toList y.toList with
  | true =>
    have HC2 : Hid (cmpI x y = -1) := hide (by rw [HC.out, h1]; rfl)
    clear HC
    go_enter Tryz.func66, Tryz.ntmps66
    go_wp2_with fail
    refine (isNaN_any x w).mono ?_
    rintro e w1 ⟨rfl, rfl⟩
    go_wp2_with fail
    refine (isNaN_any y w1).mono ?_
    rintro e w2 ⟨rfl, rfl⟩
    go_wp2
    go_ret
    exact ⟨by rw [HC2.out]; rfl, rfl⟩
  | false =>
    by_cases h2 : x.toList = y.toList
    · have HC2 : Hid (cmpI x y = 0) := hide (by rw [HC.out, h1, if_neg (by decide), if_pos h2])
      have hb : (x.toList == y.toList) = true := by rw [h2]; simp
      clear HC h2
      go_enter Tryz.func66, Tryz.ntmps66
      go_wp2_with fail
      refine (isNaN_any x w).mono ?_
      rintro e w1 ⟨rfl, rfl⟩
      go_wp2_with fail
      refine (isNaN_any y w1).mono ?_
      rintro e w2 ⟨rfl, rfl⟩
      go_wp2
      go_ret
      exact ⟨by rw [HC2.out]; rfl, rfl⟩
    · have HC2 : Hid (cmpI x y = 1) := hide (by rw [HC.out, h1, if_neg (by decide), if_neg h2])
      have hb : (x.toList == y.toList) = false := beq_eq_false_iff_ne.2 h2
      clear HC h2
      go_enter Tryz.func66, Tryz.ntmps66
      go_wp2_with fail
      refine (isNaN_any x w).mono ?_
      rintro e w1 ⟨rfl, rfl⟩
      go_wp2_with fail
      refine (isNaN_any y w1).mono ?_
      rintro e w2 ⟨rfl, rfl⟩
      go_wp2
      go_ret
      exact ⟨by rw [HC2.out]; rfl, rfl⟩
theorem lit_any (s : ByteArray) (n : Int) (t : ByteArray) (w : World) : Calls Tryz.prog 65 #[.agg #[.string s, .int .i64 n], .string t] w fun e w' => e = .returned (.int .i64 (cmpI s t)) ∧ Below w.heap.size w w' := by
  have HA := hide ((Below.refl w.heap.size w).alloc (Nat.le_refl _) (.cells #[.string s, .int .i64 n] 37))
  generalize hq : cmpI s t = q
  go_enter Tryz.func65, Tryz.ntmps65
  go_wp2_with fail
  generalize w.alloc (.cells #[.string s, .int .i64 n] 37) = w1 at HA ⊢
  refine (cmpCompare_any s t w1).mono ?_
  rintro e w2 ⟨rfl, rfl⟩
  rw [hq]
  clear hq
  go_wp2
  go_ret
  exact ⟨rfl, HA.out⟩
end Go.Proofs.YtpccongphchagaaGreatDoor
namespace Go.Proofs.YtpccongphchagaaGreatDoor
open Go.RowKit
def fnLit : Value := .func (.func 65) #[] #[]
/-- What slices.BinarySearchFunc tells of sorted entries. -/
def BfPost (es : List EN) (t : ByteArray) (e : Ending) : Prop := ∃ (i : Nat) (f : Bool), e = .returned (.tuple #[.int .i64 (i : Int), .bool f]) ∧ (f = true → ∃ h : i < es.length, es[i].1 = t) ∧ (f = false → ∀ m, (t, m) ∉ es)
theorem bf_none {es : List EN} {t : ByteArray} {p : Nat} (hlo : ∀ k (h : k < es.length), k < p → Op.bytesLess es[k].1.toList t.toList = true) (hhi : ∀ k (h : k < es.length), p ≤ k → Op.bytesLess es[k].1.toList t.toList = false) (hso : Sorted es) (hne : ∀ h : p < es.length, es[p].1 ≠ t) : ∀ m, (t, m) ∉ es := by
  intro m hm
  obtain ⟨k, hk, e⟩ := List.getElem_of_mem hm
  have e1 : es[k].1 = t := by rw [e]
  rcases Nat.lt_trichotomy k p with h | h | h
  · have := hlo k hk h
    rw [e1, less_irrefl] at this
    cases this
  · subst h; exact hne hk e1
  · have hp : p < es.length := by omega
    have h1 := List.pairwise_iff_getElem.1 hso p k hp hk h
    rw [e1] at h1
    have h2 := hhi p hp (Nat.le_refl _)
    rw [h1] at h2
    cases h2
theorem sortedE_lo {es : List EN} {t : ByteArray} (hso : Sorted es) {m : Nat} (hm : m < es.length) (h : Op.bytesLess es[m].1.toList t.toList = true) : ∀ k (hk : k < es.length), k < m + 1 → Op.bytesLess es[k].1.toList t.toList = true := by
  intro k hk hk'
  by_cases e : k = m
  · subst e; exact h
  · exact less_trans _ _ _ (List.pairwise_iff_getElem.1 hso k m hk hm (by omega)) h
theorem sortedE_hi {es : List EN} {t : ByteArray} (hso : Sorted es) {m : Nat} (hm : m < es.length) (h : Op.bytesLess es[m].1.toList t.toList = false) : ∀ k (hk : k < es.length), m ≤ k → Op.bytesLess es[k].1.toList t.toList = false := by
  intro k hk hk'
  by_cases e : k = m
  · subst e; exact h
  · cases e2 : Op.bytesLess es[k].1.toList t.toList with
    | false => rfl
    | true =>
      have h3 := less_trans _ _ _ (List.pairwise_iff_getElem.1 hso m k hm hk (by omega)) e2
      rw [h] at h3
      cases h3
set_option maxRecDepth 20000 in
set_option maxHeartbeats 1000000 in
theorem bsearchF_any (a : Option Addr) (cap : Nat) (es : List EN) (t : ByteArray) (w : World) (hn : es.length ≤ 1048576) (hr : EntAt w a es) (hso : Sorted es) :
    Calls Tryz.prog 64 #[.slice a es.length cap, .string t, .func (.func 65) #[] #[]] w fun e w' => BfPost es t e ∧ Below w.heap.size w w' := by
  have HSO := hide hso
  have HR := hide hr
  clear hso hr
  go_enter Tryz.func64, Tryz.ntmps64
  go_wp2

  go_loopw [9, 10, 11] (fun i j _ wr => ∃ (p q : Nat), p ≤ q ∧ q ≤ es.length ∧ i = .int .i64 (p : Int) ∧ j = .int .i64 (q : Int) ∧ (∀ k (h : k < es.length), k < p → Op.bytesLess es[k].1.toList t.toList = true) ∧ (∀ k (h : k < es.length), q ≤ k → Op.bytesLess es[k].1.toList t.toList = false) ∧ Below w.heap.size w wr) (fun i j _ _ => (intOf j).toNat - (intOf i).toNat)
  case atStart => exact ⟨0, es.length, Nat.zero_le _, Nat.le_refl _, rfl, rfl, fun k _ h => by omega, fun k h h' => by omega, Below.refl _ _⟩
  case round =>
    obtain ⟨p, q, hpq, hq, rfl, rfl, hlo, hhi, hb⟩ := hrel
    have HLO := hide hlo
    have HHI := hide hhi
    have HB := hide hb
    clear hlo hhi
    by_cases hlt : p < q
    · have hpi : (p : Int) < (q : Int) := by omega
      obtain ⟨m, hm⟩ : ∃ m, m = (p + q) / 2 := ⟨_, rfl⟩
      have hm1 : p ≤ m ∧ m < q := by omega
      have hmi : ((p : Int) + (q : Int)) / 2 = (m : Int) := by omega
      clear hm
      obtain ⟨b, off, rfl, hc⟩ := (HR.out.below hb) (by omega)
      have hml : m < es.length := by omega
      obtain ⟨hcm, hcn⟩ := hc m hml
      have hmn : (m : Int) < (es.length : Int) := by omega
      have HL2 := hide (sortedE_lo (t := t) HSO.out hml)
      have HH2 := hide (sortedE_hi (t := t) HSO.out hml)
      generalize es[m].1 = xm at hcm HL2 HH2
      generalize es[m].2 = xn at hcn
      clear hc hb
      go_wp2_with fail
      refine (lit_any xm xn t wr).mono ?_
      rintro e w2 ⟨rfl, hb2⟩
      have HB2 := hide (HB.out.trans (hb2.mono HB.out.size))
      have HCL := hide (cmpI_lt xm t)
      clear hb2 hcm hcn
      generalize cmpI xm t = cv at HCL
      cases hq2 : Op.bytesLess xm.toList t.toList with
      | true =>
        have hcv : cv < 0 := HCL.out.2 hq2
        have HN := hide (HL2.out hq2)
        clear HL2 HH2 HCL hq2
        go_wp2
        go_roundw
        case rel => exact ⟨m + 1, q, by omega, hq, by go_num, rfl, HN.out, HHI.out, HB2.out⟩
        case measure => simp [intOf]; omega
      | false =>
        have hcv : ¬ cv < 0 := fun h => by rw [HCL.out.1 h] at hq2; cases hq2
        have HN := hide (HH2.out hq2)
        clear HL2 HH2 HCL hq2
        go_wp2
        go_roundw
        case rel => exact ⟨p, m, by omega, by omega, rfl, by go_num, HLO.out, HN.out, HB2.out⟩
        case measure => simp [intOf]; omega
    · obtain rfl : p = q := by omega
      by_cases hpl : p < es.length
      · have hpi : (p : Int) < (es.length : Int) := by omega
        obtain ⟨b, off, rfl, hc⟩ := (HR.out.below hb) (by omega)
        obtain ⟨hcm, hcn⟩ := hc p hpl
        have HNO := hide (fun (h : es[p].1 ≠ t) => bf_none HLO.out HHI.out HSO.out (fun _ => h))
        have HYE := hide (fun (h : es[p].1 = t) => (⟨hpl, h⟩ : ∃ h : p < es.length, es[p].1 = t))
        have HCZ := hide (cmpI_zero es[p].1 t)
        have HCC := hide (fun (W : World) => lit_any es[p].1 es[p].2 t W)
        generalize cmpI es[p].1 t = cv at HCZ HCC
        generalize hx1 : es[p].1 = xm at hcm HCC
        generalize hx2 : es[p].2 = xn at hcn HCC
        have HX1 := hide hx1
        clear hc hx1 hx2 hb
        by_cases h0 : cv = 0
        · have HF := hide (HYE.out (HCZ.out.1 h0))
          clear HCZ HYE HNO
          subst h0
          go_wp2_with fail
          refine (HCC.out wr).mono ?_
          rintro e w2 ⟨rfl, hb2⟩
          have HB2 := hide (HB.out.trans (hb2.mono HB.out.size))
          clear hb2 hcm hcn HCC
          go_wp2
          go_ret2
          exact ⟨⟨p, true, rfl, fun _ => HF.out, fun h => by cases h⟩, HB2.out⟩
        · have HF := hide (HNO.out (fun h => h0 (HCZ.out.2 h)))
          clear HCZ HYE HNO
          go_wp2_with fail
          refine (HCC.out wr).mono ?_
          rintro e w2 ⟨rfl, hb2⟩
          have HB2 := hide (HB.out.trans (hb2.mono HB.out.size))
          have hcb : (cv == 0) = false := by simpa using h0
          clear hb2 hcm hcn HCC
          go_wp2
          go_ret2
          exact ⟨⟨p, false, rfl, (fun h => by cases h), fun _ => HF.out⟩, HB2.out⟩
      · have hpi : ¬ (p : Int) < (es.length : Int) := by omega
        have HF := hide (bf_none HLO.out HHI.out HSO.out (fun h => absurd h hpl))
        clear hb
        go_wp2
        go_ret2
        exact ⟨⟨p, false, rfl, (fun h => by cases h), fun _ => HF.out⟩, HB.out⟩
end Go.Proofs.YtpccongphchagaaGreatDoor
namespace Go.Proofs.YtpccongphchagaaGreatDoor
open Go.RowKit
theorem readD_some {D : MDisk} {nm : ByteArray} {n : Int} {k : Nat} (h : nodeIn D.names nm = some n) (hk : n = (k : Int)) (hl : k < D.nodes.length) : readD D nm = (true, (D.nodes[k]).1) := by
  unfold readD
  rw [h]
  subst hk
  simp [List.getD, hl]
theorem readD_none {D : MDisk} {nm : ByteArray} (h : nodeIn D.names nm = none) : readD D nm = (false, []) := by
  unfold readD
  rw [h]
theorem nodeIn_absent {es : List EN} {nm : ByteArray} (h : ∀ m, (nm, m) ∉ es) : nodeIn es nm = none := by
  cases e : nodeIn es nm with
  | none => rfl
  | some n => exact absurd (nodeIn_of e) (h n)
/-- What dataOf answers. -/
def DataPost (D : MDisk) (nm : ByteArray) (e : Ending) (w' : World) : Prop := ∃ a c, e = .returned (.tuple #[.slice a (readD D nm).2.length c, .bool (readD D nm).1]) ∧ RowAt w' a (readD D nm).2
set_option maxRecDepth 20000 in
set_option maxHeartbeats 1000000 in
theorem dataOf_any (v : Value) (D : MDisk) (nm : ByteArray) (w : World) (hv : ValidD D) (hd : DiskAt w v D) :
    Calls Tryz.prog 37 #[v, .string nm] w fun e w' => DataPost D nm e w' ∧ Below w.heap.size w w' := by
  obtain ⟨a1, c1, a2, c2, a3, c3, a4, c4, rfl, r1, r2, r3, r4⟩ := hd
  have hok : okList (D.nodes.length : Int) D.names = true := hv.2.2.2.2.1
  obtain ⟨hap, hso, hle, hnd⟩ := okList_apart hok
  have hnl : D.nodes.length ≤ 600 := by have h := hv.2.2.2.1; unfold okNodes at h; exact (of_decide_eq_true h).1
  have hA := (Below.refl w.heap.size w).alloc (Nat.le_refl _) (.cells #[.slice a1 D.nodes.length c1, .slice a2 D.names.length c2, .slice a3 D.kept.length c3, .slice a4 D.pend.length c4, .int .i64 D.quota] 27)
  have L0 := Laid.new w #[.slice a1 D.nodes.length c1, .slice a2 D.names.length c2, .slice a3 D.kept.length c3, .slice a4 D.pend.length c4, .int .i64 D.quota] 27
  have HBS := hide (fun (W : World) (hb : Below w.heap.size w W) => bsearchF_any a2 c2 D.names nm W (by omega) (r2.below hb) hso)
  have HR1 := hide (fun (W : World) (hb : Below w.heap.size w W) => r1.below hb)
  have HR2 := hide (fun (W : World) (hb : Below w.heap.size w W) => r2.below hb)
  have HNI := hide (fun (n : Int) => nodeIn_iff (n := n) (s := nm) hap.good)
  have HND := hide hnd
  clear r1 r2 r3 r4 hap hso hnd hok hv
  go_enter Tryz.func37, Tryz.ntmps37
  go_wp2_with fail
  generalize w.alloc (.cells #[.slice a1 D.nodes.length c1, .slice a2 D.names.length c2, .slice a3 D.kept.length c3, .slice a4 D.pend.length c4, .int .i64 D.quota] 27) = w0 at hA L0 ⊢
  refine (HBS.out w0 hA).mono ?_
  rintro e w1 ⟨⟨i, f, rfl, hft, hff⟩, hb1⟩
  have HB1 := hide (hA.trans (hb1.mono hA.size))
  have L1 := L0.below hb1 L0.lt
  cases f with
  | false =>
    have HN := hide (readD_none (nodeIn_absent (hff rfl)))
    clear hft hff hA L0 hb1 HBS L1
    go_wp2
    go_ret2
    exact ⟨⟨none, 0, by rw [HN.out]; rfl, by rw [HN.out]; exact fun h => absurd h (Nat.lt_irrefl _)⟩, HB1.out⟩
  | true =>
    obtain ⟨hi, hnm⟩ := hft rfl
    have hmem : (nm, D.names[i].2) ∈ D.names := by rw [← hnm]; exact List.getElem_mem hi
    obtain ⟨hn0, hn1⟩ := HND.out _ hmem
    obtain ⟨k, hk⟩ := Int.eq_ofNat_of_zero_le hn0
    simp only at hk hn1
    have hkl : k < D.nodes.length := by omega
    have HRD := hide (readD_some ((HNI.out _).2 hmem) hk hkl)
    obtain ⟨b2, o2, e2, hc2⟩ := (HR2.out w1 HB1.out) (by omega)
    obtain ⟨b1, o1, e1, hc1⟩ := (HR1.out w1 HB1.out) (by omega)
    obtain ⟨ai, ci, k0, k1, krow⟩ := hc1 k hkl
    have g1 := (hc2 i hi).2
    rw [hk] at g1
    subst e1 e2
    have t0 : w1.cell? ⟨w.heap.size, 0, none⟩ = some (.slice (some ⟨b1, o1, none⟩) D.nodes.length c1) := L1.cell 0
    have t1 : w1.cell? ⟨w.heap.size, 1, none⟩ = some (.slice (some ⟨b2, o2, none⟩) D.names.length c2) := L1.cell 1
    have hii : (i : Int) < (D.names.length : Int) := by omega
    have hkk : (k : Int) < (D.nodes.length : Int) := by omega
    have HROW := hide krow
    generalize D.nodes[k].1 = bl at k0 HRD HROW
    generalize D.nodes[k].2 = sf at k1
    clear hft hff hA L0 hb1 HBS L1 hmem hn0 hn1 hk hc1 hc2 krow HND HNI HR1 HR2 hnm
    go_wp2
    go_quiet (fail)
    go_wp2
    go_ret2
    exact ⟨⟨ai, ci, by rw [HRD.out]; rfl, by rw [HRD.out]; exact HROW.out.below (below_drewN (Below.refl _ _) _)⟩, below_drewN HB1.out _⟩
end Go.Proofs.YtpccongphchagaaGreatDoor
namespace Go.Proofs.YtpccongphchagaaGreatDoor
open Go.RowKit
/-- What DiskRead answers. -/
def ReadPost (w : World) (r : Bool × List Nat) (e : Ending) (w' : World) : Prop := ∃ v, e = .returned (.agg #[.bool r.1, v]) ∧ OwnB w' w.heap.size v r.2 ∧ Below w.heap.size w w'
open Classical in
noncomputable def rdOf (D : MDisk) (nm : ByteArray) : Bool × List Nat := if ValidD D then readD D nm else (false, [])
theorem rdOf_no {D : MDisk} {nm : ByteArray} (h : ¬ ValidD D) : rdOf D nm = (false, []) := by unfold rdOf; rw [if_neg h]
theorem rdOf_yes {D : MDisk} {nm : ByteArray} (h : ValidD D) : rdOf D nm = readD D nm := by unfold rdOf; rw [if_pos h]
theorem readD_len {D : MDisk} {nm : ByteArray} (hM : Modest D) : (readD D nm).2.length ≤ 1048576 := by
  unfold readD
  split
  · rename_i n _
    by_cases h : n.toNat < D.nodes.length
    · have := node_le D.nodes (D.nodes[n.toNat]) (List.getElem_mem h)
      have hs := hM.sum
      simp [List.getD, h]
      omega
    · simp [List.getD, List.getElem?_eq_none (by omega : D.nodes.length ≤ n.toNat)]
  · simp
theorem ret_content {fn : Func} {tmps : Array Value} {p : Tmp} (B : Nat) (W : World) (x y : Value) (hf : fn.results = #[.cell p 45]) (hp : tmps.getD p undef = .pointer (some ⟨B, 0, none⟩)) (hb : Laid W B #[x, y] 45) :
    (results fn tmps).run Tryz.prog W = .ok (.agg #[x, y]) W :=
  results_cell_row (P := Tryz.prog) hf _ _ B _ _ _ _ hp hb Tryz.underlying45 rfl (by kernel_rfl)
theorem set_content {W : World} {B : Nat} {x y x' y' : Value} (h : Laid W B #[x, y] 45) : Laid ((W.setCell ⟨B, 0, none⟩ x').setCell ⟨B, 1, none⟩ y') B #[x', y'] 45 := (h.set 0 x').set 1 y'
theorem read_no {w W : World} {r : Bool × List Nat} (hr : r = (false, [])) (hb : Below w.heap.size w W) : ReadPost w r (.returned (.agg #[.bool false, .slice none 0 0])) ((W.setCell ⟨w.heap.size + 1, 0, none⟩ (.bool false)).setCell ⟨w.heap.size + 1, 1, none⟩ (.slice none 0 0)) := by
  subst hr
  exact ⟨_, rfl, OwnB.nil _ _, (hb.setCell (p := ⟨w.heap.size + 1, 0, none⟩) (by simp) _).setCell (p := ⟨w.heap.size + 1, 1, none⟩) (by simp) _⟩
theorem read_yes {w W : World} {v : Value} {B : Nat} {r : Bool × List Nat} {f : Bool} {l : List Nat} (hr : r = (f, l)) (ho : OwnB W B v l) (hB : w.heap.size + 2 ≤ B) (hb : Below w.heap.size w W) : ReadPost w r (.returned (.agg #[.bool f, v])) ((W.setCell ⟨w.heap.size + 1, 0, none⟩ (.bool f)).setCell ⟨w.heap.size + 1, 1, none⟩ v) := by
  subst hr
  exact ⟨_, rfl, ((ho.set_low (p := ⟨w.heap.size + 1, 0, none⟩) (by simp; omega) _).set_low (p := ⟨w.heap.size + 1, 1, none⟩) (by simp; omega) _).mono (by omega), (hb.setCell (p := ⟨w.heap.size + 1, 0, none⟩) (by simp) _).setCell (p := ⟨w.heap.size + 1, 1, none⟩) (by simp) _⟩
set_option maxRecDepth 20000 in
set_option maxHeartbeats 1000000 in
theorem implRead_any (v : Value) (D : MDisk) (nm : ByteArray) (w : World) (hM : Modest D) (hw : ∀ o ∈ D.pend, (Lit.int .i64 o.2.2.2).wf = true) (hd : DiskAt w v D) :
    Calls Tryz.prog 11 #[v, .string nm] w (ReadPost w (rdOf D nm)) := by
  have HAT := hide (fun w' (hb : Below w.heap.size w w') => hd.below hb)
  obtain ⟨a1, m1, c1, a2, m2, c2, a3, m3, c3, a4, m4, c4, q, hv⟩ := hd.shape
  clear hd
  subst hv
  have hA : Below w.heap.size w ((w.alloc (.cells #[.slice a1 m1 c1, .slice a2 m2 c2, .slice a3 m3 c3, .slice a4 m4 c4, .int .i64 q] 27)).alloc (.cells #[.bool false, .slice none 0 0] 45)) := ((Below.refl _ _).alloc (Nat.le_refl _) _).alloc (by simp) _
  have hz : ((w.alloc (.cells #[.slice a1 m1 c1, .slice a2 m2 c2, .slice a3 m3 c3, .slice a4 m4 c4, .int .i64 q] 27)).alloc (.cells #[.bool false, .slice none 0 0] 45)).heap.size = w.heap.size + 2 := by simp
  have L0 : Laid ((w.alloc (.cells #[.slice a1 m1 c1, .slice a2 m2 c2, .slice a3 m3 c3, .slice a4 m4 c4, .int .i64 q] 27)).alloc (.cells #[.bool false, .slice none 0 0] 45)) w.heap.size #[.slice a1 m1 c1, .slice a2 m2 c2, .slice a3 m3 c3, .slice a4 m4 c4, .int .i64 q] 27 := Laid.below (B := w.heap.size + 1) (Laid.new w _ _) ((Below.refl _ _).alloc (by simp) _) (by omega)
  have C0 := Laid.new (w.alloc (.cells #[.slice a1 m1 c1, .slice a2 m2 c2, .slice a3 m3 c3, .slice a4 m4 c4, .int .i64 q] 27)) #[.bool false, .slice none 0 0] 45
  rw [show (w.alloc (.cells #[.slice a1 m1 c1, .slice a2 m2 c2, .slice a3 m3 c3, .slice a4 m4 c4, .int .i64 q] 27)).heap.size = w.heap.size + 1 from World.size_alloc ..] at C0
  have HM := hide hM
  have HWF := hide hw
  have HLN := hide (readD_len (nm := nm) hM)
  clear hM hw
  go_enter Tryz.func11, Tryz.ntmps11
  go_wp2_with fail
  generalize (w.alloc (.cells #[.slice a1 m1 c1, .slice a2 m2 c2, .slice a3 m3 c3, .slice a4 m4 c4, .int .i64 q] 27)).alloc (.cells #[.bool false, .slice none 0 0] 45) = w0 at hA L0 C0 hz ⊢
  refine (implValid_v (HAT.out w0 hA) HM.out HWF.out).mono ?_
  rintro e w1 ⟨r, rfl, hrr, hb1⟩
  have HB1 := hide (hA.trans (hb1.mono hA.size))
  have L1 := L0.below hb1 L0.lt
  have C1 := C0.below hb1 C0.lt
  have hsz1 : w.heap.size + 2 ≤ w1.heap.size := by have := hb1.size; omega
  cases r with
  | false =>
    have HR := hide (rdOf_no (nm := nm) (fun h => by have := hrr.2 h; cases this))
    have f0 : w1.frozen? ⟨w.heap.size + 1, 0, none⟩ = false := frozen_of_row w1 (w.heap.size + 1) 0 _ _ C1
    have f1 : w1.frozen? ⟨w.heap.size + 1, 1, none⟩ = false := frozen_of_row w1 (w.heap.size + 1) 1 _ _ C1
    have z0 : w1.cell? ⟨w.heap.size + 1, 0, none⟩ = some (.bool false) := C1.cell 0
    have z1 : w1.cell? ⟨w.heap.size + 1, 1, none⟩ = some (.slice none 0 0) := C1.cell 1
    have HC := hide C1
    clear hA L0 C0 hb1 L1 C1 hrr
    go_wp2
    exact bodyPost_ret (ret_content (w.heap.size + 1) _ _ _ rfl rfl (set_content HC.out)) rfl (read_no HR.out HB1.out)
  | true =>
    have HV := hide (hrr.1 rfl)
    have HR := hide (rdOf_yes (nm := nm) (hrr.1 rfl))
    have t0 : w1.cell? ⟨w.heap.size, 0, none⟩ = some (.slice a1 m1 c1) := L1.cell 0
    have t1 : w1.cell? ⟨w.heap.size, 1, none⟩ = some (.slice a2 m2 c2) := L1.cell 1
    have t2 : w1.cell? ⟨w.heap.size, 2, none⟩ = some (.slice a3 m3 c3) := L1.cell 2
    have t3 : w1.cell? ⟨w.heap.size, 3, none⟩ = some (.slice a4 m4 c4) := L1.cell 3
    have t4 : w1.cell? ⟨w.heap.size, 4, none⟩ = some (.int .i64 q) := L1.cell 4
    have HL := hide L1
    have HC := hide C1
    clear hA L0 C0 hb1 L1 C1 hrr
    go_wp2_with fail
    refine (dataOf_any _ D nm w1 HV.out (HAT.out w1 HB1.out)).mono ?_
    rintro e w2 ⟨⟨da, dc, rfl, hrow⟩, hb2⟩
    have HB2 := hide (HB1.out.trans (hb2.mono HB1.out.size))
    have C2 := HC.out.below hb2 HC.out.lt
    have hsz2 : w.heap.size + 2 ≤ w2.heap.size := by have := hb2.size; omega
    have HCL := hide (fun (W : World) (hW : Below w2.heap.size w2 W) => clone_own da dc (readD D nm).2 W HLN.out (hrow.below hW))
    have HR2 := hide (show rdOf D nm = ((readD D nm).1, (readD D nm).2) from HR.out)
    generalize (readD D nm).1 = f at HR2 ⊢
    generalize (readD D nm).2 = l at HR2 HCL ⊢
    clear hrow hb2 t0 t1 t2 t3 t4 HR HL HC HV HLN
    have HC2 := hide C2
    clear C2
    go_wp2_with fail
    refine (HCL.out w2 (Below.refl _ _)).mono ?_
    rintro e w3 ⟨v3, rfl, ho3, hb3⟩
    obtain ⟨va, vc, rfl⟩ := ho3.slice
    have C3 := HC2.out.below hb3 HC2.out.lt
    have f0 : w3.frozen? ⟨w.heap.size + 1, 0, none⟩ = false := frozen_of_row w3 (w.heap.size + 1) 0 _ _ C3
    have f1 : w3.frozen? ⟨w.heap.size + 1, 1, none⟩ = false := frozen_of_row w3 (w.heap.size + 1) 1 _ _ C3
    have z0 : w3.cell? ⟨w.heap.size + 1, 0, none⟩ = some (.bool false) := C3.cell 0
    have z1 : w3.cell? ⟨w.heap.size + 1, 1, none⟩ = some (.slice none 0 0) := C3.cell 1
    have HC3 := hide C3
    have HO3 := hide ho3
    have HB3 := hide (HB2.out.trans (hb3.mono HB2.out.size))
    clear C3 ho3 hb3 HCL HC2
    go_wp2
    exact bodyPost_ret (ret_content (w.heap.size + 1) _ _ _ rfl rfl (set_content HC3.out)) rfl (read_yes HR2.out HO3.out hsz2 HB3.out)
theorem bytes_v (a : Option Addr) (cap : Nat) (l : List Nat) (w : World) (hl : l.length ≤ 1048576) (hr : RowAt w a l) :
    Calls Tryz.prog 47 #[.slice a l.length cap] w fun e w' => ∃ v, e = .returned v ∧ OwnB w' w.heap.size v l ∧ Below w.heap.size w w' :=
  (l1Bytes_any a cap l w hl hr).mono fun _ _ ⟨h1, h2, h3⟩ => ⟨_, h1, h2, h3⟩
end Go.Proofs.YtpccongphchagaaGreatDoor
