import Derived.Test.YtledlicandlekabDiskMem
import Derived.Test.YtledlicandlekabGoodName
import Derived.Deep.RegionWith
namespace Go.Proofs.Ytledlicandlekab
open Go.RowKit
def okEnt (nodes : Int) (e : ByteArray × Int) : Bool := decide (okName e.1 = true ∧ 0 ≤ e.2 ∧ e.2 < nodes)
def apart (x y : ByteArray × Int) : Bool := decide (Op.bytesLess x.1.toList y.1.toList = true ∧ x.2 ≠ y.2)
def okList (nodes : Int) (es : List (ByteArray × Int)) : Bool := decide (es.length ≤ 300 ∧ ∀ i (h : i < es.length), okEnt nodes es[i] = true ∧ ∀ k (hk : k < i), apart es[k] es[i] = true)
theorem okList_no1 {nodes : Int} {es : List (ByteArray × Int)} {i : Nat} (h : i < es.length) (hb : okEnt nodes es[i] = false) : okList nodes es = false := by
  unfold okList
  refine decide_eq_false fun h' => ?_
  rw [(h'.2 i h).1] at hb
  simp at hb
theorem okList_no2 {nodes : Int} {es : List (ByteArray × Int)} {i k : Nat} (h : i < es.length) (hk : k < i) (hb : apart es[k] es[i] = false) : okList nodes es = false := by
  unfold okList
  refine decide_eq_false fun h' => ?_
  rw [(h'.2 i h).2 k hk] at hb
  simp at hb
set_option maxRecDepth 20000 in
theorem l1InOrder_any (a : Option Addr) (cap : Nat) (es : List (ByteArray × Int)) (nodes : Int) (w : World) (hn : es.length ≤ 9223372036854775807) (hes : ∀ e ∈ es, e.1.size ≤ 9223372036854775807) (hr : EntAt w a es) :
    Calls Try.prog 55 #[.slice a es.length cap, .int .i64 nodes] w fun e w' => e = .returned (.bool (okList nodes es)) ∧ Below w.heap.size w w' := by
  by_cases h6 : 300 < es.length
  · have hf : okList nodes es = false := decide_eq_false fun h => by omega
    rw [hf]
    go_enter Try.func55, Try.ntmps55
    go_wp2
    go_ret
    exact ⟨rfl, Below.refl _ _⟩
  go_enter Try.func55, Try.ntmps55
  go_wp2
  go_loopw [13] (fun i wr => ∃ k : Nat, k ≤ es.length ∧ i = .int .i64 k ∧ (∀ i (h : i < es.length), i < k → okEnt nodes es[i] = true ∧ ∀ k (hk : k < i), apart es[k] es[i] = true) ∧ Below w.heap.size w wr) (fun i _ => es.length - (intOf i).toNat)
  case atStart => exact ⟨0, Nat.zero_le _, rfl, fun i _ h => by omega, Below.refl _ _⟩
  case round =>
    obtain ⟨k, hk, rfl, hok, hnx⟩ := hrel
    have HK := hide hok
    have HR := hide hr
    have HNX := hide hnx
    clear hok
    by_cases hlt : k < es.length
    · obtain ⟨b, off, ha, hc⟩ := (hr.below hnx) (by omega)
      have HA := hide ha
      subst ha
      obtain ⟨hc0, hc1⟩ := hc k hlt
      have hkl := hes _ (List.getElem_mem hlt)
      have HN := hide (hnx.alloc hnx.size (.cells #[.string es[k].1, .int .i64 es[k].2] 58))
      have HL := hide (Laid.new wr #[.string es[k].1, .int .i64 es[k].2] 58)
      have HNO := hide (okList_no1 (nodes := nodes) hlt)
      have HOK := hide (show okEnt nodes es[k] = decide (okName es[k].1 = true ∧ 0 ≤ es[k].2 ∧ es[k].2 < nodes) from rfl)
      clear hc hr hnx hes
      generalize hnm : es[k].1 = nm at hc0 HN HL HOK hkl
      generalize hnd : es[k].2 = nd at hc1 HN HL HOK
      have HNM := hide hnm
      have HND := hide hnd
      clear hnm hnd
      by_cases g1 : okName nm = true
      · go_wp2_with fail
        refine (l1GoodName_any nm _ hkl).mono ?_
        rintro e w2 ⟨rfl, rfl⟩
        rw [g1]
        have HG1 := hide g1
        clear g1 hc0 hc1
        by_cases g2 : nd < 0
        · go_wp2
          go_ret
          exact ⟨ret_bool (HNO.out (by rw [HOK.out]; exact decide_eq_false fun h => by omega)).symm, HN.out⟩
        by_cases g3 : nodes ≤ nd
        · go_wp2
          go_ret
          exact ⟨ret_bool (HNO.out (by rw [HOK.out]; exact decide_eq_false fun h => by omega)).symm, HN.out⟩
        go_wp2
        have HE := hide (show okEnt nodes es[k] = true from by rw [HOK.out]; exact decide_eq_true ⟨HG1.out, by omega, by omega⟩)
        generalize wr.alloc (.cells #[.string nm, .int .i64 nd] 58) = w3 at HN HL ⊢
        generalize wr.heap.size = B at HL ⊢
        clear HNX HNO HOK g2 g3 hkl
        go_loopw [7] (fun j wx => ∃ m : Nat, m ≤ k ∧ j = .int .i64 m ∧ (∀ i (h : i < es.length), i < m → apart es[i] es[k] = true) ∧ Below w.heap.size w wx ∧ Laid wx B #[.string nm, .int .i64 nd] 58) (fun j _ => k - (intOf j).toNat)
        case atStart => exact ⟨0, Nat.zero_le _, rfl, fun i _ h => by omega, HN.out, HL.out⟩
        case round =>
          obtain ⟨m, hm, rfl, hap, hnx, hl⟩ := hrel
          have HAP := hide hap
          have HN2 := hide hnx
          have HL2 := hide hl
          by_cases hmk : m < k
          · obtain ⟨b', off', hb', hcm⟩ := (HR.out.below hnx) (by omega)
            simp only [Option.some.injEq, Addr.mk.injEq, and_true] at hb'
            obtain ⟨rfl, rfl⟩ := hb'
            obtain ⟨hx0, hx1⟩ := hcm m (by omega)
            have q0 : wr.cell? ⟨B, 0, none⟩ = some (.string nm) := by rw [hl.cell]; rfl
            have q1 : wr.cell? ⟨B, 1, none⟩ = some (.int .i64 nd) := by rw [hl.cell]; rfl
            have HNO := hide (okList_no2 (nodes := nodes) hlt hmk)
            have HAD := hide (show apart es[m] es[k] = decide (Op.bytesLess es[m].1.toList nm.toList = true ∧ es[m].2 ≠ nd) from by unfold apart; rw [HNM.out, HND.out])
            clear hcm hnx hl hap
            generalize es[m].1 = xm at hx0 HAD
            generalize es[m].2 = xd at hx1 HAD
            by_cases hb1 : Op.bytesLess xm.toList nm.toList = true
            · by_cases hd1 : xd = nd
              · have hd2 : (xd == nd) = true := by simp [hd1]
                have HBAD := hide (HNO.out (by rw [HAD.out]; exact decide_eq_false fun h => h.2 hd1))
                clear hd1 HAD HNO
                go_wp2
                go_quiet (fail)
                go_wp2
                go_ret
                exact ⟨ret_bool HBAD.out.symm, below_drewN HN2.out _⟩
              · have hd2 : (xd == nd) = false := by simp [hd1]
                have HGOOD := hide (show apart es[m] es[k] = true from by rw [HAD.out]; exact decide_eq_true ⟨hb1, hd1⟩)
                clear hd1 HAD HNO
                go_wp2
                go_quiet (fail)
                go_wp2
                go_roundw
                case rel => exact ⟨m + 1, by omega, by go_num, fun i h h' => by
                  by_cases e : i = m
                  · subst e; exact HGOOD.out
                  · exact HAP.out i h (by omega), below_drewN HN2.out _, HL2.out⟩
                case measure => simp [intOf]; omega
            · have hb2 : Op.bytesLess xm.toList nm.toList = false := by simpa using hb1
              have HBAD := hide (HNO.out (by rw [HAD.out]; exact decide_eq_false fun h => hb1 h.1))
              clear hb1 HAD HNO
              go_wp2
              go_quiet (fail)
              go_wp2
              go_ret
              exact ⟨ret_bool HBAD.out.symm, below_drewN HN2.out _⟩
          · go_wp2
            refine ⟨⟨k + 1, by omega, by go_num, fun i h h' => ?_, HN2.out⟩, by simp [intOf]; omega⟩
            by_cases e : i = k
            · subst e; exact ⟨HE.out, fun j hj => HAP.out j (by omega) (by omega)⟩
            · exact HK.out i h (by omega)
      · have g1' : okName nm = false := by simpa using g1
        go_wp2_with fail
        refine (l1GoodName_any nm _ hkl).mono ?_
        rintro e w2 ⟨rfl, rfl⟩
        rw [g1']
        clear hc0 hc1
        go_wp2
        go_ret
        exact ⟨ret_bool (HNO.out (by rw [HOK.out]; exact decide_eq_false fun h => g1 h.1)).symm, HN.out⟩
    · have hf : okList nodes es = true := decide_eq_true ⟨by omega, fun i h => HK.out i h (by omega)⟩
      have HF := hide hf
      clear hf
      go_wp2
      go_ret
      exact ⟨ret_bool HF.out.symm, HNX.out⟩
end Go.Proofs.Ytledlicandlekab
