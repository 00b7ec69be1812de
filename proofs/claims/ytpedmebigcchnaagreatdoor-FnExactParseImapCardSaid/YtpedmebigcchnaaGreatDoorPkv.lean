import Derived.Test.YtpedmebigcchnaaGreatDoorPku
import Derived.Test.YtpedmebigcchnaaGreatDoorPkm
import Derived.ProofKit
import Derived.OpenShut
import Derived.ShutString
import Derived.ChangeOld
import Derived.Below
namespace Go.Proofs.YtpedmebigcchnaaGreatDoor
open Go.RowKit
set_option linter.unusedVariables false
theorem imA_small (bad has : Bool) (b : List Nat) (t : List UInt8) : (imA bad has b t).2.set.length ≤ 50 ∧ (imA bad has b t).2.body.length ≤ b.length := by
  have hset : ∀ u v m, onSet u v = some m → m.set.length ≤ 50 ∧ m.body.length ≤ b.length := by
    intro u v m h
    have hs : ∀ ps, setOf (pcL v) = some ps → ps.length ≤ 50 := by
      intro ps hp
      unfold setOf at hp
      split at hp
      · next hc =>
        simp only [Option.some.injEq] at hp
        rw [← hp, List.length_map]
        exact hc.1
      · cases hp
    unfold onSet at h
    split at h
    · cases h
    · next ps hps =>
      have h50 := hs ps hps
      repeat' split at h
      all_goals first
        | (cases h; done)
        | (simp only [Option.some.injEq] at h; subst h; exact ⟨h50, Nat.zero_le _⟩)
  have happ : ∀ v m, onApp b v = some m → m.set.length ≤ 50 ∧ m.body.length ≤ b.length := by
    intro v m h
    unfold onApp at h
    repeat' split at h
    all_goals first
      | (cases h; done)
      | (simp only [Option.some.injEq] at h; subst h; exact ⟨Nat.zero_le _, Nat.le_refl _⟩)
  have him : ∀ v m, imOf has b v = some m → m.set.length ≤ 50 ∧ m.body.length ≤ b.length := by
    intro v m h
    unfold imOf at h
    split at h
    · split at h
      · exact happ _ _ h
      · cases h
    · split at h
      · repeat' split at h
        all_goals first
          | (cases h; done)
          | (simp only [Option.some.injEq] at h; subst h; exact ⟨Nat.zero_le _, Nat.zero_le _⟩)
      · split at h
        · cases e : onSet (upT (pcL (nbL v))) (nbL (nbL v)) with
          | none => rw [e] at h; cases h
          | some m' =>
            rw [e] at h
            simp only [Option.map_some, Option.some.injEq] at h
            subst h
            have h3 := hset _ _ m' e
            exact h3
        · exact hset _ _ _ h
  unfold imA
  split
  · exact ⟨Nat.zero_le _, Nat.zero_le _⟩
  · cases e : imOf has b (nbL t) with
    | none => exact ⟨Nat.zero_le _, Nat.zero_le _⟩
    | some m => exact him _ _ e
set_option maxRecDepth 20000 in
set_option maxHeartbeats 1000000 in
theorem eqCmd_own (K : Int) (tag : ByteArray) (ud : Bool) (a a' : Option Addr) (n cap cap' : Nat) (it md fl : Int) (p p' : Option Addr) (m q q' : Nat) (es : List (Int × Int)) (bd : List Nat) (w : World) (hn : es.length = n) (hm : bd.length = m) (h1 : n ≤ 1048576) (h2 : m ≤ 1048576) (hr : PrAt w a es) (hr' : PrAt w a' es) (hs : RowAt w p bd) (hs' : RowAt w p' bd) :
    Calls Tryz.prog 8 #[.agg (cmI K tag ud (.slice a n cap) it md fl (.slice p m q)), .agg (cmI K tag ud (.slice a' n cap') it md fl (.slice p' m q'))] w fun e w' => e = .returned (.bool true) ∧ Below w.heap.size w w' := by
  obtain ⟨r0, r1, hw2, hz⟩ := box2 w (cmI K tag ud (.slice a n cap) it md fl (.slice p m q)) (cmI K tag ud (.slice a' n cap') it md fl (.slice p' m q')) 29 29
  have HB := hide hw2
  have R0 := hide r0
  have R1 := hide r1
  have HQ := hide (fun W (h : Below w.heap.size w W) => eqPairS_same a a' cap cap' es W (by omega) (hr.below h) (hr'.below h))
  rw [hn] at HQ
  have HE := hide (fun W (h : Below w.heap.size w W) => eqByteS_any p p' q q' bd bd W (by omega) (hs.below h) (hs'.below h))
  rw [hm] at HE
  have HD := hide (decide_eq_true (rfl : bd = bd))
  have htt : (tag.toList == tag.toList) = true := by simp
  have hk : (K != K) = false := by simp
  have hk2 : (it != it) = false := by simp
  have hk3 : (md != md) = false := by simp
  have hk4 : (fl != fl) = false := by simp
  clear r0 r1 hw2 hz hr hr' hs hs' hn hm
  unfold cmI at HB R0 R1 ⊢
  go_enter Tryz.func8, Tryz.ntmps8
  go_wp2_with fail
  generalize (w.alloc (.cells #[.int .i64 K, .string tag, .int .u32 0, .bool ud, .slice a n cap, .int .i64 it, .int .i64 md, .int .u32 fl, .slice p m q] 29)).alloc (.cells #[.int .i64 K, .string tag, .int .u32 0, .bool ud, .slice a' n cap', .int .i64 it, .int .i64 md, .int .u32 fl, .slice p' m q'] 29) = W at HB R0 R1 ⊢
  refine (HQ.out W HB.out).mono ?_
  rintro e W2 ⟨rfl, hb2⟩
  have HB2 := hide (bel_on HB.out hb2)
  obtain ⟨a0, a1, a2, a3, a4, a5, a6, a7, a8⟩ := cmI_cells (show CmI W2 w.heap.size K tag ud (.slice a n cap) it md fl (.slice p m q) from R0.out.below hb2 R0.out.lt)
  obtain ⟨b0, b1, b2, b3, b4, b5, b6, b7, b8⟩ := cmI_cells (show CmI W2 (w.heap.size + 1) K tag ud (.slice a' n cap') it md fl (.slice p' m q') from R1.out.below hb2 R1.out.lt)
  clear hb2 HB R0 R1 HQ
  go_wp2_with fail
  refine (HE.out W2 HB2.out).mono ?_
  rintro e W3 ⟨rfl, n3, e3⟩
  have HB3 := hide (bel_on HB2.out (bel_drew e3))
  rw [HD.out]
  clear e3 a0 a1 a2 a3 a4 a5 a6 a7 a8 b0 b1 b2 b3 b4 b5 b6 b7 b8
  go_wp2
  go_ret
  exact ⟨rfl, HB3.out⟩
set_option maxRecDepth 20000 in
set_option maxHeartbeats 1000000 in
/-- What marking a command leaves: both rows hold their marks, and at most one block has changed. -/
theorem markCmd_own (base : Nat) (K : Int) (tag : ByteArray) (ud : Bool) (a : Option Addr) (n cap : Nat) (it md fl : Int) (p : Option Addr) (m q : Nat) (es : List (Int × Int)) (bd : List Nat) (w : World) (hn : es.length = n) (hm : bd.length = m) (h1 : n ≤ 1048576) (h2 : m ≤ 1048576)
    (hP : OwnP w base (.slice a n cap) es) (hB : OwnB w base (.slice p m q) bd) (hnil : Value.slice a n cap = .slice none 0 0 ∨ Value.slice p m q = .slice none 0 0) :
    Calls Tryz.prog 11 #[.agg (cmI K tag ud (.slice a n cap) it md fl (.slice p m q)), .int .i64 1] w fun e w' => e = .returned (.int .i64 ((1 + 2 * n + m : Nat) : Int)) ∧ OwnP w' base (.slice a n cap) (marksP 1 n) ∧ OwnB w' base (.slice p m q) (marks (1 + 2 * n) m) ∧ ∃ row, w.grownBy w' row ∧ (row = (Value.slice a n cap).ownBlock ∨ row = (Value.slice p m q).ownBlock) := by
  subst hn
  subst hm
  have hb1 := bel_alloc w (.cells (cmI K tag ud (.slice a es.length cap) it md fl (.slice p bd.length q)) 29)
  have HBel := hide hb1
  have R0 := hide (blk_new w (cmI K tag ud (.slice a es.length cap) it md fl (.slice p bd.length q)) 29)
  have HP := hide (hP.below hb1 (Nat.le_refl _))
  have HB := hide (hB.below hb1 (Nat.le_refl _))
  have HLP := hide (fun k h => (World.ownsRow.lt hP k h).2)
  have HLB := hide (fun k h => (World.ownsRow.lt hB k h).2)
  have HNIL := hide hnil
  clear hb1 hP hB hnil
  unfold cmI at R0 HP HB HBel ⊢
  go_enter Tryz.func11, Tryz.ntmps11
  go_wp2_with fail
  generalize w.alloc (.cells #[.int .i64 K, .string tag, .int .u32 0, .bool ud, .slice a es.length cap, .int .i64 it, .int .i64 md, .int .u32 fl, .slice p bd.length q] 29) = W at R0 HP HB HBel ⊢
  refine (show Calls _ _ #[_, .int .i64 ((1 : Nat) : Int)] _ _ from markPairS_any base a cap 1 es W (by omega) HP.out).mono ?_
  rintro e w2 ⟨rfl, ho2, hg2, z2⟩
  have c8 : w2.cell? ⟨w.heap.size, 8, none⟩ = some (.slice p bd.length q) :=
    Blk.cell (show Blk w2 w.heap.size _ _ from (hg2.block w.heap.size R0.out.lt (fun e => by have := HLP.out _ e.symm; omega)).trans R0.out) 8
  have HB2 := hide (show OwnB w2 base (.slice p bd.length q) bd by
    rcases HNIL.out with h | h
    · refine ownB_keep HB.out hg2 ?_
      rw [h]
      by_cases hq : (Value.slice p bd.length q).ownBlock = none
      · exact .inl hq
      · exact .inr hq
    · refine ownB_keep HB.out hg2 (.inl ?_)
      rw [h]
      rfl)
  have HO2 := hide ho2
  have HG2 := hide hg2
  clear ho2 hg2 z2 HP HB R0
  go_wp2_with fail
  refine (markByteS_any base p q (1 + 2 * es.length) bd w2 (by omega) (by omega) HB2.out).mono ?_
  rintro e w3 ⟨rfl, ho3, hg3, z3⟩
  have HO3 := hide ho3
  have HP3 := hide (show OwnP w3 base (.slice a es.length cap) (marksP 1 es.length) by
    have h0 : OwnP w2 base (.slice a es.length cap) (marksP 1 es.length) := HO2.out
    refine World.ownsRow.kept h0 hg3 ?_
    rcases HNIL.out with h | h
    · rw [h]; exact .inl rfl
    · rw [h]
      by_cases hq : (Value.slice a es.length cap).ownBlock = none
      · exact .inl hq
      · exact .inr hq)
  have HG3 := hide (show ∃ row, w.grownBy w3 row ∧ (row = (Value.slice a es.length cap).ownBlock ∨ row = (Value.slice p bd.length q).ownBlock) by
    have hw : ∀ row, w.grownBy W row := fun row => ⟨HBel.out.os, HBel.out.tape, HBel.out.output, HBel.out.size, fun k hk _ => HBel.out.block k hk⟩
    rcases HNIL.out with h | h
    · refine ⟨_, grown_trans (grown_trans (hw _) ?_) hg3, .inr rfl⟩
      have g := HG2.out
      rw [h] at g
      exact ⟨g.os, g.tape, g.output, g.size, fun k hk _ => g.block k hk (by simp [Value.ownBlock])⟩
    · refine ⟨_, grown_trans (grown_trans (hw _) HG2.out) ?_, .inl rfl⟩
      rw [h] at hg3
      exact ⟨hg3.os, hg3.tape, hg3.output, hg3.size, fun k hk _ => hg3.block k hk (by simp [Value.ownBlock])⟩)
  clear ho3 hg3 z3 HB2 HO2 HG2 c8
  generalize hr : ((1 + 2 * es.length + bd.length : Nat) : Int) = r
  have HR := hide hr
  clear hr
  go_wp2
  go_ret
  exact ⟨by rw [HR.out]; rfl, HP3.out, HO3.out, HG3.out⟩
set_option maxRecDepth 20000 in
set_option maxHeartbeats 1000000 in
theorem heldCmd_own (K : Int) (tag : ByteArray) (ud : Bool) (a : Option Addr) (n cap : Nat) (it md fl : Int) (p : Option Addr) (m q : Nat) (w : World) (h1 : n ≤ 1048576) (h2 : m ≤ 1048576) (hr : PrAt w a (marksP 1 n)) (hs : RowAt w p (marks (1 + 2 * n) m)) :
    Calls Tryz.prog 12 #[.agg (cmI K tag ud (.slice a n cap) it md fl (.slice p m q)), .int .i64 1] w fun e w' => e = .returned (.int .i64 ((1 + 2 * n + m : Nat) : Int)) ∧ Below w.heap.size w w' := by
  have hb1 := bel_alloc w (.cells (cmI K tag ud (.slice a n cap) it md fl (.slice p m q)) 29)
  have HBel := hide hb1
  have R0 := hide (blk_new w (cmI K tag ud (.slice a n cap) it md fl (.slice p m q)) 29)
  have HR := hide (hr.below hb1)
  have HS := hide (hs.below hb1)
  clear hb1 hr hs
  unfold cmI at R0 HR HS HBel ⊢
  go_enter Tryz.func12, Tryz.ntmps12
  go_wp2_with fail
  generalize w.alloc (.cells #[.int .i64 K, .string tag, .int .u32 0, .bool ud, .slice a n cap, .int .i64 it, .int .i64 md, .int .u32 fl, .slice p m q] 29) = W at R0 HR HS HBel ⊢
  refine (show Calls _ _ #[_, .int .i64 ((1 : Nat) : Int)] _ _ from heldPairS_any a cap 1 n W (by omega) HR.out).mono ?_
  rintro e w2 ⟨rfl, rfl⟩
  have c8 : w2.cell? ⟨w.heap.size, 8, none⟩ = some (.slice p m q) := R0.out.cell 8
  have h0 : ¬ ((1 + 2 * n : Nat) : Int) < 0 := by omega
  have HH := hide (heldByteS_any p q (1 + 2 * n) m w2 (by omega) (by omega) HS.out)
  generalize ((1 + 2 * n : Nat) : Int) = k1 at h0 HH ⊢
  generalize hr : ((1 + 2 * n + m : Nat) : Int) = r at HH
  have HRR := hide hr
  have hr0 : ¬ r < 0 := by omega
  clear hr
  go_wp2_with fail
  refine HH.out.mono ?_
  rintro e w3 ⟨rfl, rfl⟩
  clear HH
  go_wp2
  go_ret
  exact ⟨by rw [HRR.out]; rfl, HBel.out⟩
end Go.Proofs.YtpedmebigcchnaaGreatDoor
namespace Go.Proofs.YtpedmebigcchnaaGreatDoor
open Go.ChangeShapes Go.WideShapes Go.ChangeAt Go.RowKit
set_option linter.unusedVariables false
section
variable {H : Type} {enc : TypeId × Value → H} {W : World}
theorem bytesU_open {fuel : Nat} {v : Value} {x : DataW H × List MemPlace} (h : DataW.trod enc Tryz.prog W 0 (fun _ => true) true fuel 22 [v] = some x) :
    ∃ (a : Option Addr) (c : Nat) (l : List Nat), v = .slice a l.length c ∧ RowAt W a l ∧ l.length ≤ 9223372036854775807 := by
  rcases open_ints Tryz.underlying22 Tryz.underlying5 (by kernel_rfl) h with ⟨hcs, _⟩ | ⟨x, l, c, zs, hcs, _, hl, hm, hz, _, hcell, hwz⟩
  · simp only [List.cons.injEq, and_true] at hcs
    exact ⟨none, 0, [], hcs, fun h => absurd h (Nat.lt_irrefl _), by simp⟩
  · simp only [List.cons.injEq, and_true] at hcs
    have hz2 : zs.length = c := by simpa using hz
    have hlen : ((zs.take l).map Int.toNat).length = l := by simp; omega
    refine ⟨some x, c, (zs.take l).map Int.toNat, by rw [hlen]; exact hcs, fun hp => ?_, by rw [hlen]; unfold maxLen at hm; omega⟩
    obtain ⟨b, off, spot⟩ := x
    have hc := hcell 0 (by omega)
    have hspot : spot = none := by simpa [Addr.add] using World.cell?_spot hc
    subst hspot
    refine ⟨b, off, rfl, fun i hi => ?_⟩
    have hi' : i < zs.length := by omega
    have h1 := hcell i hi'
    have hb : 0 ≤ zs[i] ∧ zs[i] ≤ 255 := by
      have := hwz zs[i] (List.getElem_mem hi')
      simp [Lit.wf, IntKind.min, IntKind.max, IntKind.signed, IntKind.bits] at this
      exact this
    rw [addr_add] at h1
    rw [h1]
    simp only [List.getElem_map, List.getElem_take, List.getD_eq_getElem?_getD, List.getElem?_eq_getElem hi', Option.getD_some]
    rw [Int.toNat_of_nonneg hb.1]
set_option maxRecDepth 20000 in
theorem unit_open {base : Nat} {v : Value} {d : DataW H} {ps : List MemPlace} (hval : Value.okWide Tryz.prog W .any base 24 v) (h : DataW.Trod enc Tryz.prog W 0 (fun _ => true) true 24 v d ps) :
    ∃ (a p : Option Addr) (c q : Nat) (l b : List Nat) (x y : Bool), v = .agg (unA a l.length c p b.length q x y) ∧ RowAt W a l ∧ RowAt W p b ∧ l.length ≤ 9223372036854775807 ∧ b.length ≤ 9223372036854775807 := by
  obtain ⟨cs, rfl, hsz⟩ := okWide_struct Tryz.underlying24 hval
  obtain ⟨fuel, hf⟩ := h
  obtain ⟨xs, k, hk, hxy, hl5, hxl, hfl⟩ := DataW.trod_struct Tryz.underlying24 hf
  have ce : Tryz.prog.cellsOf 24 = 4 := by kernel_rfl
  have c4 : Tryz.prog.cellsOf 4 = 1 := by kernel_rfl
  have cb : Tryz.prog.cellsOf 22 = 1 := by kernel_rfl
  rw [ce] at hsz
  obtain ⟨l⟩ := cs
  have hll : l.length = 4 := by simpa using hsz
  match l, hll with
  | [v0, v1, v2, v3], _ =>
    have hxl5 : xs.length = 4 := hxl
    match xs, hxl5 with
    | [y0, y1, y2, y3], _ =>
      have g0 : (DataW.trod enc Tryz.prog W 0 (fun _ => true) true k 22 (([v0, v1, v2, v3].drop 0).take (Tryz.prog.cellsOf 22)) = some y0) := hfl 0 _ rfl
      rw [cb] at g0
      have g0 : DataW.trod enc Tryz.prog W 0 (fun _ => true) true k 22 [v0] = some y0 := g0
      have g1 : (DataW.trod enc Tryz.prog W 0 (fun _ => true) true k 22 (([v0, v1, v2, v3].drop 1).take (Tryz.prog.cellsOf 22)) = some y1) := hfl 1 _ rfl
      rw [cb] at g1
      have g1 : DataW.trod enc Tryz.prog W 0 (fun _ => true) true k 22 [v1] = some y1 := g1
      have g2 : (DataW.trod enc Tryz.prog W 0 (fun _ => true) true k 4 (([v0, v1, v2, v3].drop 2).take (Tryz.prog.cellsOf 4)) = some y2) := hfl 2 _ rfl
      rw [c4] at g2
      have g2 : DataW.trod enc Tryz.prog W 0 (fun _ => true) true k 4 [v2] = some y2 := g2
      have g3 : (DataW.trod enc Tryz.prog W 0 (fun _ => true) true k 4 (([v0, v1, v2, v3].drop 3).take (Tryz.prog.cellsOf 4)) = some y3) := hfl 3 _ rfl
      rw [c4] at g3
      have g3 : DataW.trod enc Tryz.prog W 0 (fun _ => true) true k 4 [v3] = some y3 := g3
      obtain ⟨a1, c1, l1, rfl, r1, n1⟩ := bytesU_open g0
      obtain ⟨a2, c2, l2, rfl, r2, n2⟩ := bytesU_open g1
      obtain ⟨b3, e3, _⟩ := DataW.trod_bool Tryz.underlying4 g2
      obtain ⟨b4, e4, _⟩ := DataW.trod_bool Tryz.underlying4 g3
      obtain rfl : v2 = .bool b3 := by injection e3
      obtain rfl : v3 = .bool b4 := by injection e4
      exact ⟨a1, a2, c1, c2, l1, l2, b3, b4, rfl, r1, r2, n1, n2⟩
end
end Go.Proofs.YtpedmebigcchnaaGreatDoor
