import Derived.Test.YtledlicandlekabPendL
namespace Go.Proofs.Ytledlicandlekab
open Go.RowKit
/-- Strings that lie at an address. -/
def StrAt (w : World) (a : Option Addr) (xs : List ByteArray) : Prop := 0 < xs.length → ∃ b off, a = some ⟨b, off, none⟩ ∧ ∀ i (h : i < xs.length), w.cell? ⟨b, off + i, none⟩ = some (.string xs[i])
theorem isNaN_any (s : ByteArray) (w : World) : Calls Try.prog 82 #[.string s] w fun e w' => e = .returned (.bool false) ∧ w' = w := by
  have h : (s.toList == s.toList) = true := by simp
  go_enter Try.func82, Try.ntmps82
  go_wp2
  go_ret
  exact ⟨rfl, rfl⟩
theorem sisNaN_any (s : ByteArray) (w : World) : Calls Try.prog 87 #[.string s] w fun e w' => e = .returned (.bool false) ∧ w' = w := by
  have h : (s.toList == s.toList) = true := by simp
  go_enter Try.func87, Try.ntmps87
  go_wp2
  go_ret
  exact ⟨rfl, rfl⟩
theorem cmpLess_any (x y : ByteArray) (w : World) : Calls Try.prog 86 #[.string x, .string y] w fun e w' => e = .returned (.bool (Op.bytesLess x.toList y.toList)) ∧ w' = w := by
  generalize hq : Op.bytesLess x.toList y.toList = q
  go_enter Try.func86, Try.ntmps86
  go_wp2_with fail
  refine (isNaN_any x w).mono ?_
  rintro e w1 ⟨rfl, rfl⟩
  go_wp2
  go_ret
  exact ⟨rfl, rfl⟩
theorem sorted_lo {xs : List ByteArray} {t : ByteArray} (hso : xs.Pairwise fun x y => Op.bytesLess x.toList y.toList = true) {m : Nat} (hm : m < xs.length) (h : Op.bytesLess xs[m].toList t.toList = true) : ∀ k (hk : k < xs.length), k < m + 1 → Op.bytesLess xs[k].toList t.toList = true := by
  intro k hk hk'
  by_cases e : k = m
  · subst e; exact h
  · exact less_trans _ _ _ (List.pairwise_iff_getElem.1 hso k m hk hm (by omega)) h
theorem sorted_hi {xs : List ByteArray} {t : ByteArray} (hso : xs.Pairwise fun x y => Op.bytesLess x.toList y.toList = true) {m : Nat} (hm : m < xs.length) (h : Op.bytesLess xs[m].toList t.toList = false) : ∀ k (hk : k < xs.length), m ≤ k → Op.bytesLess xs[k].toList t.toList = false := by
  intro k hk hk'
  by_cases e : k = m
  · subst e; exact h
  · cases e2 : Op.bytesLess xs[k].toList t.toList with
    | false => rfl
    | true =>
      have h3 := less_trans _ _ _ (List.pairwise_iff_getElem.1 hso m k hm hk (by omega)) e2
      rw [h] at h3
      cases h3
/-- What slices.BinarySearch tells of sorted strings: all ahead of the place are below t, none from it on is. -/
def BsPost (xs : List ByteArray) (t : ByteArray) (e : Ending) : Prop := ∃ (i : Nat) (f : Bool), e = .returned (.tuple #[.int .i64 (i : Int), .bool f]) ∧ i ≤ xs.length ∧ (∀ k (h : k < xs.length), k < i → Op.bytesLess xs[k].toList t.toList = true) ∧ (∀ k (h : k < xs.length), i ≤ k → Op.bytesLess xs[k].toList t.toList = false)
set_option maxRecDepth 20000 in
set_option maxHeartbeats 1000000 in
theorem bsearch_any (a : Option Addr) (cap : Nat) (xs : List ByteArray) (t : ByteArray) (w : World) (hn : xs.length ≤ 1048576) (hr : StrAt w a xs) (hso : xs.Pairwise fun x y => Op.bytesLess x.toList y.toList = true) :
    Calls Try.prog 84 #[.slice a xs.length cap, .string t] w fun e w' => BsPost xs t e ∧ w' = w := by
  have HSO := hide hso
  clear hso
  go_enter Try.func84, Try.ntmps84
  go_wp2
  go_loopw [7, 8, 9] (fun i j _ wr => ∃ (p q : Nat), p ≤ q ∧ q ≤ xs.length ∧ i = .int .i64 (p : Int) ∧ j = .int .i64 (q : Int) ∧ (∀ k (h : k < xs.length), k < p → Op.bytesLess xs[k].toList t.toList = true) ∧ (∀ k (h : k < xs.length), q ≤ k → Op.bytesLess xs[k].toList t.toList = false) ∧ wr = w) (fun i j _ _ => (intOf j).toNat - (intOf i).toNat)
  case atStart => exact ⟨0, xs.length, Nat.zero_le _, Nat.le_refl _, rfl, rfl, fun k _ h => by omega, fun k h h' => by omega, rfl⟩
  case round =>
    obtain ⟨p, q, hpq, hq, rfl, rfl, hlo, hhi, rfl⟩ := hrel
    have HLO := hide hlo
    have HHI := hide hhi
    clear hlo hhi
    by_cases hlt : p < q
    · have hpi : (p : Int) < (q : Int) := by omega
      obtain ⟨m, hm⟩ : ∃ m, m = (p + q) / 2 := ⟨_, rfl⟩
      have hm1 : p ≤ m ∧ m < q := by omega
      have hmi : ((p : Int) + (q : Int)) / 2 = (m : Int) := by omega
      clear hm
      obtain ⟨b, off, rfl, hc⟩ := hr (by omega)
      have hml : m < xs.length := by omega
      have hcm := hc m hml
      have hmn : (m : Int) < (xs.length : Int) := by omega
      have HL2 := hide (sorted_lo (t := t) HSO.out hml)
      have HH2 := hide (sorted_hi (t := t) HSO.out hml)
      generalize hxm : xs[m] = xm at hcm HL2 HH2
      clear hc hxm
      go_wp2_with fail
      refine (cmpLess_any xm t wr).mono ?_
      rintro e w2 ⟨rfl, rfl⟩
      cases hq2 : Op.bytesLess xm.toList t.toList with
      | true =>
        have HN := hide (HL2.out hq2)
        go_wp2
        go_roundw
        case rel => exact ⟨m + 1, q, by omega, hq, by go_num, rfl, HN.out, HHI.out, by trivial⟩
        case measure => simp [intOf]; omega
      | false =>
        have HN := hide (HH2.out hq2)
        go_wp2
        go_roundw
        case rel => exact ⟨p, m, by omega, by omega, rfl, by go_num, HLO.out, HN.out, by trivial⟩
        case measure => simp [intOf]; omega
    · obtain rfl : p = q := by omega
      by_cases hpl : p < xs.length
      · have hpi : (p : Int) < (xs.length : Int) := by omega
        obtain ⟨b, off, rfl, hc⟩ := hr (by omega)
        have hcm := hc p hpl
        generalize hxp : xs[p] = xp at hcm
        clear hc hxp
        by_cases e : xp = t
        · have hb := beq_of_eq e
          clear e
          go_wp2
          go_ret2
          exact ⟨⟨p, true, rfl, hq, HLO.out, HHI.out⟩, rfl⟩
        · have hb := beq_of_ne e
          clear e
          go_wp2_with fail
          refine (sisNaN_any xp wr).mono ?_
          rintro e w2 ⟨rfl, rfl⟩
          go_wp2
          go_ret2
          exact ⟨⟨p, false, rfl, hq, HLO.out, HHI.out⟩, rfl⟩
      · have hpi : ¬ (p : Int) < (xs.length : Int) := by omega
        go_wp2
        go_ret2
        exact ⟨⟨p, false, rfl, hq, HLO.out, HHI.out⟩, rfl⟩
end Go.Proofs.Ytledlicandlekab
