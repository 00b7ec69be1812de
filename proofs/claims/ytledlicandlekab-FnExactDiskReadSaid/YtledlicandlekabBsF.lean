import Derived.Test.YtledlicandlekabFindE
namespace Go.Proofs.Ytledlicandlekab
open Go.RowKit
def fnLit : Value := .func (.func 64) #[] #[]
/-- What slices.BinarySearchFunc tells of sorted entries. -/
def BfPost (es : List EN) (t : ByteArray) (e : Ending) : Prop := ∃ (i : Nat) (f : Bool), e = .returned (.tuple #[.int .i64 (i : Int), .bool f]) ∧ (f = true → ∃ h : i < es.length, es[i].1 = t) ∧ (f = false → ∀ m, (t, m) ∉ es)
theorem bf_none {es : List EN} {t : ByteArray} {p : Nat} (hlo : ∀ k (h : k < es.length), k < p → Op.bytesLess es[k].1.toList t.toList = true) (hhi : ∀ k (h : k < es.length), p ≤ k → Op.bytesLess es[k].1.toList t.toList = false) (hso : Sorted es) (hne : ∀ h : p < es.length, es[p].1 ≠ t) : ∀ m, (t, m) ∉ es := by
  intro m hm
  obtain ⟨k, hk, e⟩ := List.getElem_of_mem hm
  have e1 : es[k].1 = t := by rw [e]
  rcases Nat.lt_trichotomy k p with h | h | h
  · have := hlo k hk h
    rw [e1, less_irrefl] at this
    cases this
  · subst h; exact hne hk e1
  · have hp : p < es.length := by omega
    have h1 := List.pairwise_iff_getElem.1 hso p k hp hk h
    rw [e1] at h1
    have h2 := hhi p hp (Nat.le_refl _)
    rw [h1] at h2
    cases h2
theorem sortedE_lo {es : List EN} {t : ByteArray} (hso : Sorted es) {m : Nat} (hm : m < es.length) (h : Op.bytesLess es[m].1.toList t.toList = true) : ∀ k (hk : k < es.length), k < m + 1 → Op.bytesLess es[k].1.toList t.toList = true := by
  intro k hk hk'
  by_cases e : k = m
  · subst e; exact h
  · exact less_trans _ _ _ (List.pairwise_iff_getElem.1 hso k m hk hm (by omega)) h
theorem sortedE_hi {es : List EN} {t : ByteArray} (hso : Sorted es) {m : Nat} (hm : m < es.length) (h : Op.bytesLess es[m].1.toList t.toList = false) : ∀ k (hk : k < es.length), m ≤ k → Op.bytesLess es[k].1.toList t.toList = false := by
  intro k hk hk'
  by_cases e : k = m
  · subst e; exact h
  · cases e2 : Op.bytesLess es[k].1.toList t.toList with
    | false => rfl
    | true =>
      have h3 := less_trans _ _ _ (List.pairwise_iff_getElem.1 hso m k hm hk (by omega)) e2
      rw [h] at h3
      cases h3
set_option maxRecDepth 20000 in
set_option maxHeartbeats 1000000 in
theorem bsearchF_any (a : Option Addr) (cap : Nat) (es : List EN) (t : ByteArray) (w : World) (hn : es.length ≤ 1048576) (hr : EntAt w a es) (hso : Sorted es) :
    Calls Try.prog 63 #[.slice a es.length cap, .string t, .func (.func 64) #[] #[]] w fun e w' => BfPost es t e ∧ Below w.heap.size w w' := by
  have HSO := hide hso
  have HR := hide hr
  clear hso hr
  go_enter Try.func63, Try.ntmps63
  go_wp2

  go_loopw [9, 10, 11] (fun i j _ wr => ∃ (p q : Nat), p ≤ q ∧ q ≤ es.length ∧ i = .int .i64 (p : Int) ∧ j = .int .i64 (q : Int) ∧ (∀ k (h : k < es.length), k < p → Op.bytesLess es[k].1.toList t.toList = true) ∧ (∀ k (h : k < es.length), q ≤ k → Op.bytesLess es[k].1.toList t.toList = false) ∧ Below w.heap.size w wr) (fun i j _ _ => (intOf j).toNat - (intOf i).toNat)
  case atStart => exact ⟨0, es.length, Nat.zero_le _, Nat.le_refl _, rfl, rfl, fun k _ h => by omega, fun k h h' => by omega, Below.refl _ _⟩
  case round =>
    obtain ⟨p, q, hpq, hq, rfl, rfl, hlo, hhi, hb⟩ := hrel
    have HLO := hide hlo
    have HHI := hide hhi
    have HB := hide hb
    clear hlo hhi
    by_cases hlt : p < q
    · have hpi : (p : Int) < (q : Int) := by omega
      obtain ⟨m, hm⟩ : ∃ m, m = (p + q) / 2 := ⟨_, rfl⟩
      have hm1 : p ≤ m ∧ m < q := by omega
      have hmi : ((p : Int) + (q : Int)) / 2 = (m : Int) := by omega
      clear hm
      obtain ⟨b, off, rfl, hc⟩ := (HR.out.below hb) (by omega)
      have hml : m < es.length := by omega
      obtain ⟨hcm, hcn⟩ := hc m hml
      have hmn : (m : Int) < (es.length : Int) := by omega
      have HL2 := hide (sortedE_lo (t := t) HSO.out hml)
      have HH2 := hide (sortedE_hi (t := t) HSO.out hml)
      generalize es[m].1 = xm at hcm HL2 HH2
      generalize es[m].2 = xn at hcn
      clear hc hb
      go_wp2_with fail
      refine (lit_any xm xn t wr).mono ?_
      rintro e w2 ⟨rfl, hb2⟩
      have HB2 := hide (HB.out.trans (hb2.mono HB.out.size))
      have HCL := hide (cmpI_lt xm t)
      clear hb2 hcm hcn
      generalize cmpI xm t = cv at HCL
      cases hq2 : Op.bytesLess xm.toList t.toList with
      | true =>
        have hcv : cv < 0 := HCL.out.2 hq2
        have HN := hide (HL2.out hq2)
        clear HL2 HH2 HCL hq2
        go_wp2
        go_roundw
        case rel => exact ⟨m + 1, q, by omega, hq, by go_num, rfl, HN.out, HHI.out, HB2.out⟩
        case measure => simp [intOf]; omega
      | false =>
        have hcv : ¬ cv < 0 := fun h => by rw [HCL.out.1 h] at hq2; cases hq2
        have HN := hide (HH2.out hq2)
        clear HL2 HH2 HCL hq2
        go_wp2
        go_roundw
        case rel => exact ⟨p, m, by omega, by omega, rfl, by go_num, HLO.out, HN.out, HB2.out⟩
        case measure => simp [intOf]; omega
    · obtain rfl : p = q := by omega
      by_cases hpl : p < es.length
      · have hpi : (p : Int) < (es.length : Int) := by omega
        obtain ⟨b, off, rfl, hc⟩ := (HR.out.below hb) (by omega)
        obtain ⟨hcm, hcn⟩ := hc p hpl
        have HNO := hide (fun (h : es[p].1 ≠ t) => bf_none HLO.out HHI.out HSO.out (fun _ => h))
        have HYE := hide (fun (h : es[p].1 = t) => (⟨hpl, h⟩ : ∃ h : p < es.length, es[p].1 = t))
        have HCZ := hide (cmpI_zero es[p].1 t)
        have HCC := hide (fun (W : World) => lit_any es[p].1 es[p].2 t W)
        generalize cmpI es[p].1 t = cv at HCZ HCC
        generalize hx1 : es[p].1 = xm at hcm HCC
        generalize hx2 : es[p].2 = xn at hcn HCC
        have HX1 := hide hx1
        clear hc hx1 hx2 hb
        by_cases h0 : cv = 0
        · have HF := hide (HYE.out (HCZ.out.1 h0))
          clear HCZ HYE HNO
          subst h0
          go_wp2_with fail
          refine (HCC.out wr).mono ?_
          rintro e w2 ⟨rfl, hb2⟩
          have HB2 := hide (HB.out.trans (hb2.mono HB.out.size))
          clear hb2 hcm hcn HCC
          go_wp2
          go_ret2
          exact ⟨⟨p, true, rfl, fun _ => HF.out, fun h => by cases h⟩, HB2.out⟩
        · have HF := hide (HNO.out (fun h => h0 (HCZ.out.2 h)))
          clear HCZ HYE HNO
          go_wp2_with fail
          refine (HCC.out wr).mono ?_
          rintro e w2 ⟨rfl, hb2⟩
          have HB2 := hide (HB.out.trans (hb2.mono HB.out.size))
          have hcb : (cv == 0) = false := by simpa using h0
          clear hb2 hcm hcn HCC
          go_wp2
          go_ret2
          exact ⟨⟨p, false, rfl, (fun h => by cases h), fun _ => HF.out⟩, HB2.out⟩
      · have hpi : ¬ (p : Int) < (es.length : Int) := by omega
        have HF := hide (bf_none HLO.out HHI.out HSO.out (fun h => absurd h hpl))
        clear hb
        go_wp2
        go_ret2
        exact ⟨⟨p, false, rfl, (fun h => by cases h), fun _ => HF.out⟩, HB.out⟩
end Go.Proofs.Ytledlicandlekab
