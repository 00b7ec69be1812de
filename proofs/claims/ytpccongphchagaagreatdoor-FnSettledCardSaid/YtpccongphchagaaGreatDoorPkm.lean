import Derived.Test.YtpccongphchagaaGreatDoorPkh
import Derived.Deep.RegionWith
namespace Go.Proofs.YtpccongphchagaaGreatDoor
open Go.RowKit
abbrev EN := ByteArray × Int
abbrev DO := Int × ByteArray × ByteArray × Int
def noName (es : List EN) (nm : ByteArray) : List EN := es.filter fun e => decide (e.1 ≠ nm)
def nodeIn (es : List EN) (nm : ByteArray) : Option Int := (es.find? fun e => decide (e.1 = nm)).map (·.2)
/-- What an operation of Pend makes of a list of entries; none if it is not good. -/
def repE (nodes : Int) (es : List EN) (o : DO) : Option (List EN) :=
  if o.1 = 1 then (if okName o.2.1 = true ∧ o.2.2.1.toList = [] ∧ 0 ≤ o.2.2.2 ∧ o.2.2.2 < nodes ∧ (∀ e ∈ es, e.2 ≠ o.2.2.2) then some (insE (noName es o.2.1) o.2.1 o.2.2.2) else none)
  else if o.1 = 4 then (match nodeIn es o.2.1 with
    | none => none
    | some nd => if okName o.2.2.1 = true ∧ o.2.2.1 ≠ o.2.1 ∧ o.2.2.2 = 0 then some (insE (noName (noName es o.2.1) o.2.2.1) o.2.2.1 nd) else none)
  else if o.1 = 5 then (match nodeIn es o.2.1 with
    | none => none
    | some _ => if o.2.2.1.toList = [] ∧ o.2.2.2 = 0 then some (noName es o.2.1) else none)
  else none
def RepPost (w : World) : Option (List EN) → Ending → World → Prop
  | none, e, w' => e = .returned (.tuple #[.slice none 0 0, .bool false]) ∧ Below w.heap.size w w'
  | some l, e, w' => ∃ a c, e = .returned (.tuple #[.slice a l.length c, .bool true]) ∧ OwnE w' w.heap.size (.slice a l.length c) l ∧ Below w.heap.size w w'
theorem nodeIn_none {es : List EN} {nm : ByteArray} (h : ∀ i (h : i < es.length), es[i].1 ≠ nm) : nodeIn es nm = none := by
  unfold nodeIn
  rw [List.find?_eq_none.2 (fun x hx => by
    obtain ⟨i, hi, rfl⟩ := List.getElem_of_mem hx
    simpa using h i hi)]
  rfl
theorem nodeIn_some {es : List EN} {nm : ByteArray} {i : Nat} (hi : i < es.length) (h1 : es[i].1 = nm) (h2 : ∀ k (hk : k < i), es[k].1 ≠ nm) : nodeIn es nm = some es[i].2 := by
  unfold nodeIn
  have : es.find? (fun e => decide (e.1 = nm)) = some es[i] := by
    rw [List.find?_eq_some_iff_getElem]
    refine ⟨by simpa using h1, i, hi, rfl, fun j hj => by simpa using h2 j hj⟩
  rw [this]
  rfl
theorem l1Find_n (a : Option Addr) (cap : Nat) (es : List EN) (nm : ByteArray) (w : World) (hn : es.length ≤ 1048574) (hr : EntAt w a es) :
    Calls Tryz.prog 49 #[.slice a es.length cap, .string nm] w fun e w' => ((∃ i nd, i < es.length ∧ nodeIn es nm = some nd ∧ (∀ b off, a = some ⟨b, off, none⟩ → w.cell? ⟨b, off + i * 2 + 1, none⟩ = some (.int .i64 nd)) ∧ e = .returned (.int .i64 ((i : Nat) : Int))) ∨ (nodeIn es nm = none ∧ e = .returned (.int .i64 (-1)))) ∧ w' = w := by
  refine (l1Find_any a cap es nm w (by omega) hr).mono ?_
  rintro e w' ⟨h, rfl⟩
  refine ⟨?_, rfl⟩
  rcases h with ⟨i, hi, h1, h2, rfl⟩ | ⟨h, rfl⟩
  · refine .inl ⟨i, es[i].2, hi, nodeIn_some hi h1 h2, fun b off e => ?_, rfl⟩
    obtain ⟨b', off', e', hc⟩ := hr (by omega)
    rw [e] at e'
    simp only [Option.some.injEq, Addr.mk.injEq, and_true] at e'
    obtain ⟨rfl, rfl⟩ := e'
    exact (hc i hi).2
  · exact .inr ⟨nodeIn_none h, rfl⟩
theorem rep_no {w w' : World} {R : Option (List EN)} (h : R = none) (hb : Below w.heap.size w w') : RepPost w R (.returned (.tuple #[.slice none 0 0, .bool false])) w' := by subst h; exact ⟨rfl, hb⟩
theorem rep_yes {w w' : World} {R : Option (List EN)} {l : List EN} {a : Option Addr} {c : Nat} (h : R = some l) (ho : OwnE w' w.heap.size (.slice a l.length c) l) (hb : Below w.heap.size w w') : RepPost w R (.returned (.tuple #[.slice a l.length c, .bool true])) w' := by subst h; exact ⟨a, c, rfl, ho, hb⟩
theorem rep1 (nodes : Int) (es : List EN) (nm tn : ByteArray) (nd : Int) : repE nodes es (1, nm, tn, nd) = if okName nm = true ∧ tn.toList = [] ∧ 0 ≤ nd ∧ nd < nodes ∧ (∀ e ∈ es, e.2 ≠ nd) then some (insE (noName es nm) nm nd) else none := rfl
theorem rep4 (nodes : Int) (es : List EN) (nm tn : ByteArray) (nd : Int) : repE nodes es (4, nm, tn, nd) = (match nodeIn es nm with | none => none | some n0 => if okName tn = true ∧ tn ≠ nm ∧ nd = 0 then some (insE (noName (noName es nm) tn) tn n0) else none) := rfl
theorem rep5 (nodes : Int) (es : List EN) (nm tn : ByteArray) (nd : Int) : repE nodes es (5, nm, tn, nd) = (match nodeIn es nm with | none => none | some _ => if tn.toList = [] ∧ nd = 0 then some (noName es nm) else none) := rfl
set_option maxRecDepth 20000 in
set_option maxHeartbeats 1000000 in
theorem l1Replay_any (a : Option Addr) (cap : Nat) (es : List EN) (kd : Int) (nm tn : ByteArray) (nd nodes : Int) (w : World) (hn : es.length ≤ 1048573) (hs1 : nm.size ≤ 1048576) (hs2 : tn.size ≤ 1048576) (hr : EntAt w a es) :
    Calls Tryz.prog 44 #[.slice a es.length cap, .agg #[.int .i64 kd, .string nm, .string tn, .int .i64 nd], .int .i64 nodes] w (RepPost w (repE nodes es (kd, nm, tn, nd))) := by
  have hB0 : Below w.heap.size w (w.alloc (.cells #[.int .i64 kd, .string nm, .string tn, .int .i64 nd] 68)) := (Below.refl _ _).alloc (Nat.le_refl _) _
  have L0 := Laid.new w #[.int .i64 kd, .string nm, .string tn, .int .i64 nd] 68
  have hr0 := hr.below hB0
  have HFI := hide (fun nm => l1Find_n a cap es nm _ (by omega) hr0)
  go_enter Tryz.func44, Tryz.ntmps44
  go_wp2_with fail
  generalize w.alloc (.cells #[.int .i64 kd, .string nm, .string tn, .int .i64 nd] 68) = W0 at hB0 L0 hr0 HFI ⊢
  refine (HFI.out nm).mono ?_
  rintro e w1 ⟨hcase, rfl⟩
  have q0 : w1.cell? ⟨w.heap.size, 0, none⟩ = some (.int .i64 kd) := L0.cell 0
  have q1 : w1.cell? ⟨w.heap.size, 1, none⟩ = some (.string nm) := L0.cell 1
  have q2 : w1.cell? ⟨w.heap.size, 2, none⟩ = some (.string tn) := L0.cell 2
  have q3 : w1.cell? ⟨w.heap.size, 3, none⟩ = some (.int .i64 nd) := L0.cell 3
  have HC := hide hcase
  have HB0 := hide hB0
  have HR0 := hide hr0
  have HL0 := hide L0
  clear hcase hB0 hr0 L0 HFI hr
  obtain ⟨at_, hat⟩ : ∃ v, e = .returned (.int .i64 v) := by
    rcases HC.out with ⟨i, _, _, _, _, rfl⟩ | ⟨_, rfl⟩
    · exact ⟨_, rfl⟩
    · exact ⟨_, rfl⟩
  subst hat
  by_cases k1 : kd = 1
  · subst k1
    have hR := rep1 nodes es nm tn nd
    by_cases c1 : okName nm = true
    · by_cases c2 : tn.toList = []
      · have c2' : (tn.toList == []) = true := by simpa using c2
        by_cases c3 : 0 ≤ nd
        · by_cases c4 : nd < nodes
          · have c3' : ¬ nd < 0 := by omega
            have c4' : ¬ nodes ≤ nd := by omega
            have HR := hide hR
            clear hR
            go_wp2_with fail
            refine (l1GoodName_any nm w1 (by omega)).mono ?_
            rintro e w2 ⟨rfl, rfl⟩
            rw [c1]
            go_wp2
            go_loopw [10, 42] (fun _ i wr => ∃ k : Nat, k ≤ es.length ∧ i = .int .i64 (k : Int) ∧ (∀ j (h : j < es.length), j < k → es[j].2 ≠ nd) ∧ Below w2.heap.size w2 wr) (fun _ i _ => es.length - (intOf i).toNat)
            case atStart => exact ⟨0, Nat.zero_le _, rfl, fun j _ h => by omega, Below.refl _ _⟩
            case round =>
              obtain ⟨k, hk, rfl, hno, hbw⟩ := hrel
              have HNO := hide hno
              have HBW := hide (HB0.out.trans (hbw.mono HB0.out.size))
              have p1 := (hbw.cell (p := ⟨w.heap.size, 1, none⟩) (lt_of_cell0 q1)).trans q1
              have p3 := (hbw.cell (p := ⟨w.heap.size, 3, none⟩) (lt_of_cell0 q3)).trans q3
              have HRW := hide (HR0.out.below hbw)
              have HN := hide hbw
              clear hno hbw
              by_cases hlt : k < es.length
              · obtain ⟨b, off, rfl, hc⟩ := HRW.out (by omega)
                obtain ⟨hc0, hc1⟩ := hc k hlt
                have hsz : w.heap.size < wr.heap.size := lt_of_cell0 p3
                by_cases hx : es[k].2 = nd
                · have HX := hide (show ¬ (okName nm = true ∧ tn.toList = [] ∧ 0 ≤ nd ∧ nd < nodes ∧ ∀ e ∈ es, e.2 ≠ nd) from fun h => h.2.2.2.2 es[k] (List.getElem_mem hlt) hx)
                  rw [hx] at hc1
                  generalize es[k].1 = x0 at hc0
                  clear hc hx
                  go_wp2
                  go_ret2
                  exact rep_no (by rw [HR.out, if_neg HX.out]) (HBW.out.alloc (by omega) _)
                · have hxb : (es[k].2 == nd) = false := by simpa using hx
                  have HX := hide hx
                  generalize es[k].1 = x0 at hc0
                  generalize hx1 : es[k].2 = x1 at hc1 hxb
                  clear hc hx hx1
                  go_wp2
                  go_roundw
                  case rel => exact ⟨k + 1, by omega, by go_num, fun j h h' => by
                    by_cases e : j = k
                    · subst e; exact HX.out
                    · exact HNO.out j h (by omega), HN.out.alloc HN.out.size _⟩
                  case measure => simp [intOf]; omega
              · obtain rfl : k = es.length := by omega
                have HX := hide (show (okName nm = true ∧ tn.toList = [] ∧ 0 ≤ nd ∧ nd < nodes ∧ ∀ e ∈ es, e.2 ≠ nd) from ⟨c1, c2, c3, c4, fun e he => by
                  obtain ⟨j, hj, rfl⟩ := List.getElem_of_mem he
                  exact HNO.out j hj hj⟩)
                go_wp2_with fail
                refine (l1With_any a cap es nm nd wr (by omega) HRW.out).mono ?_
                rintro e w3 ⟨v3, rfl, ho3, hb3⟩
                obtain ⟨a3, c3v, rfl⟩ := ho3.slice
                have HO3 := hide ho3
                have HB3 := hide hb3
                clear ho3 hb3
                generalize hll : insE (es.filter fun e => decide (e.1 ≠ nm)) nm nd = L at HO3
                have HLL := hide hll
                clear hll
                have hsw : w.heap.size ≤ wr.heap.size := HBW.out.size
                go_wp2
                go_ret2
                exact rep_yes (by rw [HR.out, if_pos HX.out]; exact congrArg some HLL.out) (HO3.out.mono hsw) (HBW.out.trans (HB3.out.mono hsw))
          · have c3' : ¬ nd < 0 := by omega
            have c4' : nodes ≤ nd := by omega
            have HR := hide (hR.trans (if_neg (fun h => c4 h.2.2.2.1)))
            clear hR
            go_wp2_with fail
            refine (l1GoodName_any nm w1 (by omega)).mono ?_
            rintro e w2 ⟨rfl, rfl⟩
            rw [c1]
            go_wp2
            go_ret2
            exact rep_no HR.out HB0.out
        · have c3' : nd < 0 := by omega
          have HR := hide (hR.trans (if_neg (fun h => c3 h.2.2.1)))
          clear hR
          go_wp2_with fail
          refine (l1GoodName_any nm w1 (by omega)).mono ?_
          rintro e w2 ⟨rfl, rfl⟩
          rw [c1]
          go_wp2
          go_ret2
          exact rep_no HR.out HB0.out
      · have c2' : (tn.toList == []) = false := by simpa using c2
        have HR := hide (hR.trans (if_neg (fun h => c2 h.2.1)))
        clear hR
        go_wp2_with fail
        refine (l1GoodName_any nm w1 (by omega)).mono ?_
        rintro e w2 ⟨rfl, rfl⟩
        rw [c1]
        go_wp2
        go_ret2
        exact rep_no HR.out HB0.out
    · have c1' : okName nm = false := by simpa using c1
      have HR := hide (hR.trans (if_neg (fun h => c1 h.1)))
      clear hR
      go_wp2_with fail
      refine (l1GoodName_any nm w1 (by omega)).mono ?_
      rintro e w2 ⟨rfl, rfl⟩
      rw [c1']
      go_wp2
      go_ret2
      exact rep_no HR.out HB0.out
  · have k1' : (kd == 1) = false := by simpa using k1
    by_cases k4 : kd = 4
    · subst k4
      have hR := rep4 nodes es nm tn nd
      rcases HC.out with ⟨i, n0, hi, hn0, hcl, e1⟩ | ⟨hn0, e1⟩
      · obtain rfl : at_ = (i : Int) := by simpa using e1
        rw [hn0] at hR
        simp only at hR
        have hai : ¬ (i : Int) < 0 := by omega
        have HCL := hide hcl
        clear HC hcl e1
        by_cases c1 : okName tn = true
        · by_cases c2 : tn = nm
          · have HR := hide (hR.trans (if_neg (fun h => h.2.1 c2)))
            have hq := beq_of_eq c2
            clear hR hn0 c2
            go_wp2_with fail
            refine (l1GoodName_any tn w1 (by omega)).mono ?_
            rintro e w2 ⟨rfl, rfl⟩
            rw [c1]
            go_wp2
            go_ret2
            exact rep_no HR.out HB0.out
          · have hq := beq_of_ne c2
            by_cases c3 : nd = 0
            · have HR := hide (hR.trans (if_pos ⟨c1, c2, c3⟩))
              subst c3
              obtain ⟨b, off, rfl, hc⟩ := HR0.out (by omega)
              have hcn := HCL.out b off rfl
              clear hR hn0 c2 hc HCL
              go_wp2_with fail
              refine (l1GoodName_any tn w1 (by omega)).mono ?_
              rintro e w2 ⟨rfl, rfl⟩
              rw [c1]
              go_wp2
              have HWO := hide (fun (W : World) (hW : Below w2.heap.size w2 W) => l1Without_any (some ⟨b, off, none⟩) cap es nm W (by omega) (HR0.out.below hW))
              have hfl : (noName es nm).length ≤ 1048573 := Nat.le_trans (List.length_filter_le _ _) hn
              go_region_with (first
                | (go_at_call 68; refine (HWO.out _ (Below.refl _ _).drew).mono ?_; rintro e w4 ⟨v4, rfl, ho4, hb4⟩; have hho4 : OwnE w4 w2.heap.size v4 (noName es nm) := ho4; generalize hL4 : noName es nm = L4 at hho4 hfl; obtain ⟨a4, c4, rfl⟩ := hho4.slice; have p2 : w4.cell? ⟨w.heap.size, 2, none⟩ = some (.string tn) := (hb4.cell (p := ⟨w.heap.size, 2, none⟩) (lt_of_cell0 q2)).trans q2; have HO4 := hide hho4; have HB4 := hide hb4; have HL4 := hide hL4; clear ho4 hho4 hb4 hL4)
                | (go_at_call 67; refine (l1With_any a4 c4 L4 tn n0 w4 (by omega) HO4.out.at).mono ?_; rintro e w5 ⟨v5, rfl, ho5, hb5⟩; have HO5 := hide ho5; have HB5 := hide hb5; clear ho5 hb5))
              all_goals
                obtain ⟨a5, c5, e5⟩ := HO5.out.slice
                subst e5
                have hsw := HB0.out.size
                have hb24 : Below w2.heap.size w2 w4 := (Below.refl w2.heap.size w2).drew.trans HB4.out
                have hs4 := hb24.size
                go_wp2
                go_ret2
                exact rep_yes (HR.out.trans (by rw [HL4.out]; rfl)) (HO5.out.mono (by omega)) ((HB0.out.trans (hb24.mono hsw)).trans (HB5.out.mono (by omega)))
            · have hz : (nd != 0) = true := by simpa using c3
              have HR := hide (hR.trans (if_neg (fun h => c3 h.2.2)))
              clear hR hn0 c2
              go_wp2_with fail
              refine (l1GoodName_any tn w1 (by omega)).mono ?_
              rintro e w2 ⟨rfl, rfl⟩
              rw [c1]
              go_wp2
              go_ret2
              exact rep_no HR.out HB0.out
        · have c1' : okName tn = false := by simpa using c1
          have HR := hide (hR.trans (if_neg (fun h => c1 h.1)))
          clear hR hn0
          go_wp2_with fail
          refine (l1GoodName_any tn w1 (by omega)).mono ?_
          rintro e w2 ⟨rfl, rfl⟩
          rw [c1']
          go_wp2
          go_ret2
          exact rep_no HR.out HB0.out
      · obtain rfl : at_ = -1 := by simpa using e1
        rw [hn0] at hR
        simp only at hR
        have HR := hide hR
        clear hR hn0 HC e1
        go_wp2
        go_ret2
        exact rep_no HR.out HB0.out
    · have k4' : (kd == 4) = false := by simpa using k4
      by_cases k5 : kd = 5
      · subst k5
        have hR := rep5 nodes es nm tn nd
        rcases HC.out with ⟨i, n0, hi, hn0, hcl, e1⟩ | ⟨hn0, e1⟩
        · obtain rfl : at_ = (i : Int) := by simpa using e1
          rw [hn0] at hR
          simp only at hR
          have hai : ¬ (i : Int) < 0 := by omega
          clear HC hcl e1
          by_cases c2 : tn.toList = []
          · have c2' : (tn.toList == []) = true := by simpa using c2
            by_cases c3 : nd = 0
            · have HR := hide (hR.trans (if_pos ⟨c2, c3⟩))
              subst c3
              clear hR hn0
              go_wp2_with fail
              refine (l1Without_any a cap es nm w1 (by omega) HR0.out).mono ?_
              rintro e w3 ⟨v3, rfl, ho3, hb3⟩
              obtain ⟨a3, c3v, rfl⟩ := ho3.slice
              have HO3 := hide ho3
              have HB3 := hide hb3
              clear ho3 hb3
              generalize hll : (es.filter fun e => decide (e.1 ≠ nm)) = L at HO3
              have HLL := hide hll
              clear hll
              have hsw := HB0.out.size
              go_wp2
              go_ret2
              exact rep_yes (HR.out.trans (congrArg some HLL.out)) (HO3.out.mono hsw) (HB0.out.trans (HB3.out.mono hsw))
            · have hz : (nd != 0) = true := by simpa using c3
              have HR := hide (hR.trans (if_neg (fun h => c3 h.2)))
              clear hR hn0
              go_wp2
              go_ret2
              exact rep_no HR.out HB0.out
          · have c2' : (tn.toList == []) = false := by simpa using c2
            have HR := hide (hR.trans (if_neg (fun h => c2 h.1)))
            clear hR hn0
            go_wp2
            go_ret2
            exact rep_no HR.out HB0.out
        · obtain rfl : at_ = -1 := by simpa using e1
          rw [hn0] at hR
          simp only at hR
          have HR := hide hR
          clear hR hn0 HC e1
          go_wp2
          go_ret2
          exact rep_no HR.out HB0.out
      · have k5' : (kd == 5) = false := by simpa using k5
        have HR := hide (show repE nodes es (kd, nm, tn, nd) = none by unfold repE; simp only; rw [if_neg k1, if_neg k4, if_neg k5])
        go_wp2
        go_ret2
        exact rep_no HR.out HB0.out
end Go.Proofs.YtpccongphchagaaGreatDoor
