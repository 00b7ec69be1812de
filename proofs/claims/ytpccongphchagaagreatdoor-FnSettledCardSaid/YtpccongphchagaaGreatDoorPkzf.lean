import Derived.Test.YtpccongphchagaaGreatDoorPku
import Derived.Test.YtpccongphchagaaGreatDoorPkze
import Derived.Test.YtpccongphchagaaGreatDoorPkzb
import Derived.Test.YtpccongphchagaaGreatDoorPkz
import Derived.Test.YtpccongphchagaaGreatDoorPkf
import Derived.Deep.DeepCutAuto
import Derived.Deep.RegionLaw
import Derived.Deep.RegionWith
namespace Go.Proofs.YtpccongphchagaaGreatDoor
open Go.RowKit
set_option linter.unusedVariables false
set_option maxRecDepth 20000 in
set_option maxHeartbeats 4000000 in
theorem l1One_bad (base : Nat) (v1 v2 v3 v4 : Value) (D : MDisk) (kd : Int) (nm tt : ByteArray) (ad : Option Addr) (data : List Nat) (cd : Nat) (w : World) (hbase : base ≤ w.heap.size) (hW : Wkd D) (hs1 : nm.size ≤ 1048576) (hs2 : tt.size ≤ 1048576) (hdl : data.length ≤ 1048576) (hrow : RowAt w ad data) (hd : Dk w base v1 v2 v3 v4 D) (hbad : ¬ (1 ≤ kd ∧ kd ≤ 5 ∧ okName nm = true)) :
    Calls Tryz.prog 18 #[.agg #[v1, v2, v3, v4, .int .i64 D.quota], .agg #[.int .i64 kd, .string nm, .string tt, .slice ad data.length cd]] w (OnPost base w (doOne D (kd, nm, tt, data))) := by
  obtain ⟨a1, c1, rfl⟩ := hd.n.slice
  obtain ⟨a2, c2, rfl⟩ := hd.e.slice
  obtain ⟨a3, c3, rfl⟩ := hd.k.slice
  obtain ⟨a4, c4, rfl⟩ := hd.p.slice
  obtain ⟨L1, L2, L3, hA, hz⟩ := boxes3 w #[.slice a1 D.nodes.length c1, .slice a2 D.names.length c2, .slice a3 D.kept.length c3, .slice a4 D.pend.length c4, .int .i64 D.quota] #[.int .i64 kd, .string nm, .string tt, .slice ad data.length cd] #[.slice none 0 0, .slice none 0 0, .slice none 0 0, .slice none 0 0, .int .i64 0] 27 39 27
  have HD := hide (hd.below hA)
  have HRW := hide (hrow.below hA)
  have HA := hide (Kep.of_below hA hbase)
  have HAB := hide hA
  have HW := hide hW
  have hln := hW.fine.ln
  have hnn := hW.nn
  have hnp := hW.np
  clear hd hrow hW hA
  go_enter Tryz.func18, Tryz.ntmps18
  go_upto_region 1 with fail
  generalize ((w.alloc (.cells #[.slice a1 D.nodes.length c1, .slice a2 D.names.length c2, .slice a3 D.kept.length c3, .slice a4 D.pend.length c4, .int .i64 D.quota] 27)).alloc (.cells #[.int .i64 kd, .string nm, .string tt, .slice ad data.length cd] 39)).alloc (.cells #[.slice none 0 0, .slice none 0 0, .slice none 0 0, .slice none 0 0, .int .i64 0] 27) = W at L1 L2 L3 HD HRW HA HAB hz ⊢
  have HZ := hide hz
  have q0 : W.cell? ⟨w.heap.size, 0, none⟩ = some (.slice a1 D.nodes.length c1) := L1.cell 0
  have q1 : W.cell? ⟨w.heap.size, 1, none⟩ = some (.slice a2 D.names.length c2) := L1.cell 1
  have q2 : W.cell? ⟨w.heap.size, 2, none⟩ = some (.slice a3 D.kept.length c3) := L1.cell 2
  have q3 : W.cell? ⟨w.heap.size, 3, none⟩ = some (.slice a4 D.pend.length c4) := L1.cell 3
  have q4 : W.cell? ⟨w.heap.size, 4, none⟩ = some (.int .i64 D.quota) := L1.cell 4
  have o0 : W.cell? ⟨w.heap.size + 1, 0, none⟩ = some (.int .i64 kd) := L2.cell 0
  have o1 : W.cell? ⟨w.heap.size + 1, 1, none⟩ = some (.string nm) := L2.cell 1
  have o2 : W.cell? ⟨w.heap.size + 1, 2, none⟩ = some (.string tt) := L2.cell 2
  have o3 : W.cell? ⟨w.heap.size + 1, 3, none⟩ = some (.slice ad data.length cd) := L2.cell 3
  have z0 : W.cell? ⟨w.heap.size + 1 + 1, 0, none⟩ = some (.slice none 0 0) := L3.cell 0
  have z1 : W.cell? ⟨w.heap.size + 1 + 1, 1, none⟩ = some (.slice none 0 0) := L3.cell 1
  have z2 : W.cell? ⟨w.heap.size + 1 + 1, 2, none⟩ = some (.slice none 0 0) := L3.cell 2
  have z3 : W.cell? ⟨w.heap.size + 1 + 1, 3, none⟩ = some (.slice none 0 0) := L3.cell 3
  have z4 : W.cell? ⟨w.heap.size + 1 + 1, 4, none⟩ = some (.int .i64 0) := L3.cell 4
  have f0 := frozen_of_row W (w.heap.size + 1 + 1) 0 _ _ L3
  have f1 := frozen_of_row W (w.heap.size + 1 + 1) 1 _ _ L3
  have f2 := frozen_of_row W (w.heap.size + 1 + 1) 2 _ _ L3
  have f3 := frozen_of_row W (w.heap.size + 1 + 1) 3 _ _ L3
  have f4 := frozen_of_row W (w.heap.size + 1 + 1) 4 _ _ L3
  have HL1 := hide L1
  have HL2 := hide L2
  have HL3 := hide L3
  clear L1 L2 L3 hz
  -- what every way without a change ends with
  have END := hide (fun (code : Int) (hR : doOne D (kd, nm, tt, data) = (D, code)) => on_end (w := w) (B := w.heap.size + 1 + 1) hR rfl HD.out HL3.out HA.out (by omega) hbase (fun _ => HAB.out))
  have FIND := hide (l1Find_n a2 c2 D.names nm W (by omega) HD.out.e.at)
  by_cases h1 : kd < 1
  · go_wp2
    exact bodyPost_ret (ret_one (w.heap.size + 1 + 1) _ _ _ _ _ _ _ rfl rfl rfl (set_disk _ _ _ _ _ HL3.out)) rfl (END.out 2 (one_kind (.inl h1)))
  by_cases h6 : 6 < kd
  · go_wp2
    exact bodyPost_ret (ret_one (w.heap.size + 1 + 1) _ _ _ _ _ _ _ rfl rfl rfl (set_disk _ _ _ _ _ HL3.out)) rfl (END.out 2 (one_kind (.inr h6)))
  by_cases h6e : kd = 6
  · subst h6e
    have SE := hide (l1Settle_any _ D W HW.out HD.out.own.at)
    have HR := hide (one_dir (D := D) (o := (6, nm, tt, data)) rfl)
    go_wp2_with fail
    refine SE.out.mono ?_
    rintro e w2 ⟨y1, y2, y3, y4, vs, rfl, hda, hb2⟩
    have L3 := HL3.out.below hb2 HL3.out.lt
    have g0 := frozen_of_row w2 (w.heap.size + 1 + 1) 0 _ _ L3
    have g1 := frozen_of_row w2 (w.heap.size + 1 + 1) 1 _ _ L3
    have g2 := frozen_of_row w2 (w.heap.size + 1 + 1) 2 _ _ L3
    have g3 := frozen_of_row w2 (w.heap.size + 1 + 1) 3 _ _ L3
    have g4 := frozen_of_row w2 (w.heap.size + 1 + 1) 4 _ _ L3
    have k0 : w2.cell? ⟨w.heap.size + 1 + 1, 0, none⟩ = some (.slice none 0 0) := L3.cell 0
    have k1 : w2.cell? ⟨w.heap.size + 1 + 1, 1, none⟩ = some (.slice none 0 0) := L3.cell 1
    have k2 : w2.cell? ⟨w.heap.size + 1 + 1, 2, none⟩ = some (.slice none 0 0) := L3.cell 2
    have k3 : w2.cell? ⟨w.heap.size + 1 + 1, 3, none⟩ = some (.slice none 0 0) := L3.cell 3
    have k4 : w2.cell? ⟨w.heap.size + 1 + 1, 4, none⟩ = some (.int .i64 0) := L3.cell 4
    have HL := hide L3
    have hlow : base ≤ W.heap.size := by have := HZ.out; omega
    have HDK := hide (show Dk w2 base y1 y2 y3 y4 (settleD D) from ⟨hda.nodes.own.mono hlow, hda.names.mono hlow, hda.kept.mono hlow, hda.pend.mono hlow⟩)
    have HB := hide (HA.out.trans (Kep.of_below hb2 hlow))
    obtain ⟨b1, d1, rfl⟩ := hda.nodes.slice
    obtain ⟨b2, d2, rfl⟩ := hda.names.slice
    obtain ⟨b3, d3, rfl⟩ := hda.kept.slice
    obtain ⟨b4, d4, rfl⟩ := hda.pend.slice
    clear hda hb2 L3 SE
    go_wp2
    exact bodyPost_ret (ret_one (w.heap.size + 1 + 1) _ _ _ _ _ _ _ rfl rfl rfl (set_disk _ _ _ _ _ HL.out)) rfl (on_end (w := w) HR.out rfl HDK.out HL.out HB.out (by omega) hbase (fun h => absurd rfl h))
  have GN := hide (l1GoodName_any nm W (by omega))
  have hk5 : kd ≤ 5 := by omega
  have hk1 : 1 ≤ kd := by omega
  clear h6 h6e h1
  cases hok : okName nm with
  | false =>
    rw [hok] at GN
    go_wp2_with fail
    refine GN.out.mono ?_
    rintro e w2 ⟨rfl, hw2⟩
    have hw2' := hw2.symm
    subst hw2'
    go_wp2
    exact bodyPost_ret (ret_one (w.heap.size + 1 + 1) _ _ _ _ _ _ _ rfl rfl rfl (set_disk _ _ _ _ _ HL3.out)) rfl (END.out 3 (one_name hk1 hk5 (.inl hok)))
  | true => exact absurd ⟨hk1, hk5, hok⟩ hbad
end Go.Proofs.YtpccongphchagaaGreatDoor
namespace Go.Proofs.YtpccongphchagaaGreatDoor
open Go.RowKit
set_option linter.unusedVariables false
/-- How settle's loop stands. -/
structure StL (base : Nat) (w wr : World) (v2 vl : Value) (vs : List (Value × Value)) (D : MDisk) (j : Nat) : Prop where
  bel : Below w.heap.size w wr
  n : OwnNA wr base v2 (pickV vs (D.names.take j)) ((D.names.take j).map (nodeOf D.nodes))
  l : OwnE wr w.heap.size vl (putE D.names j)
  lo : ∀ g, v2.ownBlock = some g → w.heap.size ≤ g
theorem StL.below {base : Nat} {w wr W : World} {v2 vl : Value} {vs : List (Value × Value)} {D : MDisk} {j : Nat} (h : StL base w wr v2 vl vs D j) (hb : Below wr.heap.size wr W) : StL base w W v2 vl vs D j := ⟨h.bel.trans (hb.mono h.bel.size), h.n.below hb, h.l.below hb, h.lo⟩
/-- Behind the append of a node. -/
theorem StL.push {base : Nat} {w Y w5 : World} {v2 v' vl u : Value} {z : Int} {l : List Nat} {vs : List (Value × Value)} {D : MDisk} {j : Nat} (h : StL base w Y v2 vl vs D j) (hj : j < D.names.length) (e : vs.getD D.names[j].2.toNat (.slice none 0 0, .int .i64 0) = (u, .int .i64 z)) (el : nodeOf D.nodes D.names[j] = (l, z)) (hn : OwnNA w5 base v' (pickV vs (D.names.take j) ++ [(u, .int .i64 z)]) ((D.names.take j).map (nodeOf D.nodes) ++ [(l, z)])) (hg : Y.grownBy w5 v2.ownBlock) (hat : v'.ownBlock = v2.ownBlock ∨ v'.ownBlock = some Y.heap.size) :
    Below w.heap.size w w5 ∧ OwnNA w5 base v' (pickV vs (D.names.take (j + 1))) ((D.names.take (j + 1)).map (nodeOf D.nodes)) ∧ OwnE w5 w.heap.size vl (putE D.names j) ∧ (∀ g, v'.ownBlock = some g → w.heap.size ≤ g) := by
  refine ⟨h.bel.grown hg h.bel.size h.lo, ?_, World.ownsRow.kept h.l hg (owns_away h.l h.n.row (by decide)), fun g hg' => ?_⟩
  · rw [pickV_succ vs D.names j hj, setN_succ D.nodes D.names j hj, e, el]; exact hn
  · rcases hat with hat | hat
    · exact h.lo g (hat.symm.trans hg')
    · rw [hat] at hg'
      simp only [Option.some.injEq] at hg'
      have := h.bel.size
      omega
/-- Behind the store of a number. -/
theorem stl_put {base : Nat} {w w5 : World} {v2 : Value} {gl n c : Nat} {vs : List (Value × Value)} {D : MDisk} {j : Nat} (hj : j < D.names.length) (hb : Below w.heap.size w w5) (hn : OwnNA w5 base v2 (pickV vs (D.names.take (j + 1))) ((D.names.take (j + 1)).map (nodeOf D.nodes))) (hl : OwnE w5 w.heap.size (.slice (some ⟨gl, 0, none⟩) n c) (putE D.names j)) (hlo : ∀ g, v2.ownBlock = some g → w.heap.size ≤ g) :
    StL base w (w5.setCell ⟨gl, j * 2 + 1, none⟩ (.int .i64 (j : Int))) v2 (.slice (some ⟨gl, 0, none⟩) n c) vs D (j + 1) := by
  have hle := putE_length D.names j (by omega)
  obtain ⟨h1, h2⟩ := OwnE.putNode (i := j) (z := (j : Int)) hl (by omega)
  rw [putE_at D.names j hj (by omega), putE_set D.names j hj] at h1
  have f : Fr (fun k => k = gl) w5 (w5.setCell ⟨gl, j * 2 + 1, none⟩ (.int .i64 (j : Int))) := (Fr.refl _ _).set rfl
  have Kg : KindAt w5 gl 37 := own_kind hl rfl
  have hgl := (own_ge hl (g := gl) rfl).1
  refine ⟨hb.setCell (p := ⟨gl, j * 2 + 1, none⟩) hgl _, hn.fr f (fun g hg e => ?_), h1, hlo⟩
  subst e
  rcases hn.kinds hg with k | k
  · exact absurd (Kg.ne k) (by decide)
  · exact absurd (Kg.ne k) (by decide)
end Go.Proofs.YtpccongphchagaaGreatDoor
namespace Go.Proofs.YtpccongphchagaaGreatDoor
open Go.RowKit
set_option linter.unusedVariables false
/-- How a drive stands behind settle. -/
theorem stl_end {base : Nat} {w wr w3 : World} {o b1' b2' : Nat} {x1 x2 x3 x4 nv vl : Value} {vs' : List (Value × Value)} {D : MDisk} (hbase : base ≤ w.heap.size) (ho : o < w.heap.size) (hob : base ≤ o) (hkw : KindAt w o 99) (hbel : Below w.heap.size w wr) (hL : Laid (wr.setCell ⟨o, 0, none⟩ nv) o #[nv, x1, x2, x3, x4, .int .i64 D.quota] 99) (hn : OwnNA wr base nv vs' (D.names.map (nodeOf D.nodes))) (hl : OwnE wr w.heap.size vl (outE D.names D.names.length)) (hkr : KindAt wr o 99)
    (h1 : (wr.setCell ⟨o, 0, none⟩ nv).heap.size ≤ b1') (h2 : (wr.setCell ⟨o, 0, none⟩ nv).heap.size ≤ b2') (hLst : LstAt w3 b1' b2' (outE D.names D.names.length).length (outE D.names D.names.length)) (hln : D.names.length ≤ 300) (hb3 : Below (wr.setCell ⟨o, 0, none⟩ nv).heap.size (wr.setCell ⟨o, 0, none⟩ nv) w3) :
    Drv base ((((w3.setCell ⟨o, 1, none⟩ (.map (some b1'))).setCell ⟨o, 2, none⟩ (.map (some b2'))).setCell ⟨o, 3, none⟩ vl).setCell ⟨o, 4, none⟩ (.slice none 0 0)) o b1' b2' 300 nv vl (.slice none 0 0) vs' (settleD D) ∧ KepI base w ((((w3.setCell ⟨o, 1, none⟩ (.map (some b1'))).setCell ⟨o, 2, none⟩ (.map (some b2'))).setCell ⟨o, 3, none⟩ vl).setCell ⟨o, 4, none⟩ (.slice none 0 0)) := by
  have fs : Fr (fun g => g = o) wr (wr.setCell ⟨o, 0, none⟩ nv) := (Fr.refl _ _).set rfl
  have hk : ∀ g, g = o → KindAt wr g 99 := fun g e => by subst e; exact hkr
  have nn := (OwnNA.fr hn fs (fun g hg e => by
    rcases hn.kinds hg with k | k
    · exact absurd ((hk g e).ne k) (by decide)
    · exact absurd ((hk g e).ne k) (by decide))).below hb3
  have l0 : OwnE (wr.setCell ⟨o, 0, none⟩ nv) w.heap.size vl (outE D.names D.names.length) := own_frk hl fs (fun g e => ⟨_, hk g e, by decide⟩)
  have ll := OwnE.below l0 hb3
  have L3 := hL.below hb3 hL.lt
  have hsz : wr.heap.size ≤ (wr.setCell ⟨o, 0, none⟩ nv).heap.size := by simp
  have hz := hbel.size
  have h0 : (fun g => g = o) o := rfl
  have f4 : Fr (fun g => g = o) w3 ((((w3.setCell ⟨o, 1, none⟩ (.map (some b1'))).setCell ⟨o, 2, none⟩ (.map (some b2'))).setCell ⟨o, 3, none⟩ vl).setCell ⟨o, 4, none⟩ (.slice none 0 0)) := ((((Fr.refl (fun g => g = o) w3).set (u := .map (some b1')) (j := 1) h0).set (u := .map (some b2')) (j := 2) h0).set (u := vl) (j := 3) h0).set (u := .slice none 0 0) (j := 4) h0
  have hk3 : ∀ g, g = o → KindAt w3 g 99 := fun g e => by subst e; exact L3.kind
  have lst : LstAt ((((w3.setCell ⟨o, 1, none⟩ (.map (some b1'))).setCell ⟨o, 2, none⟩ (.map (some b2'))).setCell ⟨o, 3, none⟩ vl).setCell ⟨o, 4, none⟩ (.slice none 0 0)) b1' b2' (outE D.names D.names.length).length (outE D.names D.names.length) := (((hLst.setCell (p := ⟨o, 1, none⟩) (by simp; omega) (by simp; omega) _).setCell (p := ⟨o, 2, none⟩) (by simp; omega) (by simp; omega) _).setCell (p := ⟨o, 3, none⟩) (by simp; omega) (by simp; omega) _).setCell (p := ⟨o, 4, none⟩) (by simp; omega) (by simp; omega) _
  refine ⟨⟨(((L3.set 1 (.map (some b1'))).set 2 (.map (some b2'))).set 3 vl).set 4 (.slice none 0 0), nn.fr f4 (fun g hg e => ?_), lst.mono (by rw [outE_length]; exact hln), own_frk (OwnE.mono ll hbase) f4 (fun g e => ⟨_, hk3 g e, by decide⟩), World.ownsRow_nil _ _ _ 4, ⟨by omega, by omega⟩, hob⟩, ?_⟩
  · rcases nn.kinds hg with k | k
    · exact absurd ((hk3 g e).ne k) (by decide)
    · exact absurd ((hk3 g e).ne k) (by decide)
  · have F : Fr (fun g => g = o) w ((((w3.setCell ⟨o, 1, none⟩ (.map (some b1'))).setCell ⟨o, 2, none⟩ (.map (some b2'))).setCell ⟨o, 3, none⟩ vl).setCell ⟨o, 4, none⟩ (.slice none 0 0)) := (((Fr.of_below hbel).trans fs).trans (Fr.of_below hb3)).trans f4
    exact KepI.fr F (fun g e => ⟨by subst e; exact hob, fun t ht => by subst e; exact .inr (.inr (.inr (ht.ne hkw)))⟩) hbase
theorem stl_like {base : Nat} {w wr W8 X Y : World} {v2 vl u : Value} {l : List Nat} {z : Int} {g : Nat} {vs : List (Value × Value)} {D : MDisk} {j : Nat} (h : StL base w wr v2 vl vs D j) (hbase : base ≤ w.heap.size) (ho : OwnB wr base u l) (b8 : Below wr.heap.size wr W8) (b9 : Below W8.heap.size W8 X) (LN : Laid X g #[u, .int .i64 z] 49) (hl : Below X.heap.size X Y) :
    StL base w Y v2 vl vs D j ∧ Y.cell? ⟨g, 0, none⟩ = some u ∧ Y.cell? ⟨g, 1, none⟩ = some (.int .i64 z) ∧ OwnB Y base u l ∧ base ≤ Y.heap.size := by
  have hb : Below wr.heap.size wr Y := (b8.trans (b9.mono b8.size)).trans (hl.mono (Nat.le_trans b8.size b9.size))
  have L := LN.below hl LN.lt
  exact ⟨h.below hb, L.cell 0, L.cell 1, OwnB.below ho hb (Nat.le_refl _), Nat.le_trans hbase (Nat.le_trans h.bel.size hb.size)⟩
set_option maxRecDepth 20000 in
set_option maxHeartbeats 1000000 in
theorem settle_any (base o b1 b2 m : Nat) (v1 v3 v4 : Value) (vs : List (Value × Value)) (D : MDisk) (w : World) (hbase : base ≤ w.heap.size) (hW : Wkd D) (hm : m ≤ 1048576) (hd : Drv base w o b1 b2 m v1 v3 v4 vs D) :
    Calls Tryz.prog 69 #[.pointer (some ⟨o, 0, none⟩)] w fun e w' => e = .returned (.tuple #[]) ∧ ∃ b1' b2' v1' v3' vs', Drv base w' o b1' b2' 300 v1' v3' (.slice none 0 0) vs' (settleD D) ∧ KepI base w w' := by
  obtain ⟨a1, c1, rfl⟩ := hd.n.slice
  have q1 : w.cell? ⟨o, 1, none⟩ = some (.map (some b1)) := hd.box.cell 1
  have q2 : w.cell? ⟨o, 2, none⟩ = some (.map (some b2)) := hd.box.cell 2
  have hln := hW.fine.ln
  have hnn := hW.nn
  have HW := hide hW
  have HD := hide hd
  have ENT := hide (entries_holds b1 b2 m D.names w hm hW.fine.ln hW.fine.ap hW.fine.so hW.fine.sz hd.l)
  clear hW hd
  go_enter Tryz.func69, Tryz.ntmps69
  go_wp2_with fail
  refine ENT.out.mono ?_
  rintro e w1 ⟨vl, rfl, hol, hb1⟩
  obtain ⟨al, cl, rfl⟩ := hol.slice
  have HS := hide (show StL base w w1 (.slice none 0 0) (.slice al D.names.length cl) vs D 0 from ⟨hb1, OwnNA.nil _ _, by rw [putE_zero]; exact hol, fun g h => by cases h⟩)
  clear hol hb1 ENT q1 q2
  go_wp2
  go_loopw [2, 4, 5, 13] (fun nv _ _ i wr => ∃ (j : Nat), j ≤ D.names.length ∧ i = .int .i64 (j : Int) ∧ StL base w wr nv (.slice al D.names.length cl) vs D j) (fun _ _ _ i _ => D.names.length - (intOf i).toNat)
  case atStart => exact ⟨0, Nat.zero_le _, rfl, HS.out⟩
  case round =>
    obtain ⟨j, hj, rfl, hS⟩ := hrel
    have d := HD.out.below hS.bel
    by_cases hlt : j < D.names.length
    · have hpl := putE_length D.names j (by omega)
      obtain ⟨gl, rfl, hgl, hfl, -, hcl⟩ := hS.l.cells (by omega)
      obtain ⟨d0, d1⟩ := hcl j (by omega)
      rw [putE_at D.names j hlt (by omega)] at d0 d1
      have hff := hfl (j * 2 + 1)
      obtain ⟨hn0, hn1⟩ := HW.out.fine.nd _ (List.getElem_mem hlt)
      obtain ⟨kk, hkk⟩ := Int.eq_ofNat_of_zero_le hn0
      have hkl : kk < D.nodes.length := by omega
      obtain ⟨g, rfl, hgb, -, hcs⟩ := d.n.cells (by omega)
      obtain ⟨ai, ci, hvi, x2, x3, hob⟩ := hcs kk hkl
      have p0 : wr.cell? ⟨o, 0, none⟩ = some (.slice (some ⟨g, 0, none⟩) D.nodes.length c1) := d.box.cell 0
      have hno : nodeOf D.nodes D.names[j] = (D.nodes[kk].1, D.nodes[kk].2) := by
        unfold nodeOf
        rw [hkk]
        simp [List.getD_eq_getElem?_getD, List.getElem?_eq_getElem hkl]
      have hge : vs.getD D.names[j].2.toNat (.slice none 0 0, .int .i64 0) = (.slice ai D.nodes[kk].1.length ci, .int .i64 D.nodes[kk].2) := by
        rw [hkk]
        simp [List.getD_eq_getElem?_getD, hvi]
      have haw := pick_away d.n HW.out.fine.ap HW.out.fine.nd j hlt
      rw [hge] at haw
      have hNl : ((D.names.take j).map (nodeOf D.nodes)).length ≤ 1048576 := by simp; omega
      have HAW := hide haw
      have HNO := hide hno
      have HGE := hide hge
      have HSS := hide hS
      have HOB := hide hob
      rw [hkk] at d1
      generalize hnm : D.names[j].1 = nm at d0
      generalize hdd : D.nodes[kk].1 = dd at x2 HAW HNO HGE HOB
      generalize hsf : D.nodes[kk].2 = sf at x3 HNO HGE
      clear hcl hcs hvi hob hno hge haw hS d hnm hdd hsf hkk hn0 hn1 hfl
      have b8 := (Below.refl wr.heap.size wr).alloc (Nat.le_refl _) (.cells #[.string nm, .int .i64 (kk : Int)] 37)
      have b9 := (Below.refl (wr.alloc (.cells #[.string nm, .int .i64 (kk : Int)] 37)).heap.size (wr.alloc (.cells #[.string nm, .int .i64 (kk : Int)] 37))).alloc (Nat.le_refl _) (.cells #[.slice ai dd.length ci, .int .i64 sf] 49)
      have p0a := (b8.cell (p := ⟨o, 0, none⟩) (lt_of_cell0 p0)).trans p0
      have x2a := (b8.cell (p := ⟨g, kk * 2, none⟩) (lt_of_cell0 x2)).trans x2
      have x3a := (b8.cell (p := ⟨g, kk * 2 + 1, none⟩) (lt_of_cell0 x3)).trans x3
      have LE := Laid.new wr #[.string nm, .int .i64 (kk : Int)] 37
      have n1 : (wr.alloc (.cells #[.string nm, .int .i64 (kk : Int)] 37)).cell? ⟨wr.heap.size, 1, none⟩ = some (.int .i64 (kk : Int)) := LE.cell 1
      have LN := Laid.new (wr.alloc (.cells #[.string nm, .int .i64 (kk : Int)] 37)) #[.slice ai dd.length ci, .int .i64 sf] 49
      have LK := hide (fun (Y : World) (e1 : Y.heap = ((wr.alloc (.cells #[.string nm, .int .i64 (kk : Int)] 37)).alloc (.cells #[.slice ai dd.length ci, .int .i64 sf] 49)).heap) (e2 : Y.os = ((wr.alloc (.cells #[.string nm, .int .i64 (kk : Int)] 37)).alloc (.cells #[.slice ai dd.length ci, .int .i64 sf] 49)).os) (e3 : Y.tape = ((wr.alloc (.cells #[.string nm, .int .i64 (kk : Int)] 37)).alloc (.cells #[.slice ai dd.length ci, .int .i64 sf] 49)).tape) (e4 : Y.output = ((wr.alloc (.cells #[.string nm, .int .i64 (kk : Int)] 37)).alloc (.cells #[.slice ai dd.length ci, .int .i64 sf] 49)).output) => stl_like HSS.out hbase HOB.out b8 b9 LN (like_below e1 e2 e3 e4))
      have PUSH := hide (fun (Y : World) (hY : StL base w Y u2 (.slice (some ⟨gl, 0, none⟩) D.names.length cl) vs D j) (v5 : Value) (w5 : World) (h5 : OwnNA w5 base v5 (pickV vs (D.names.take j) ++ [(.slice ai dd.length ci, .int .i64 sf)]) ((D.names.take j).map (nodeOf D.nodes) ++ [(dd, sf)])) (hg5 : Y.grownBy w5 u2.ownBlock) (hat5 : v5.ownBlock = u2.ownBlock ∨ v5.ownBlock = some Y.heap.size) => hY.push hlt HGE.out HNO.out h5 hg5 hat5)
      have PUT := hide (fun (v2 : Value) (w5 : World) hb hn hl hlo => stl_put (base := base) (w := w) (w5 := w5) (v2 := v2) (gl := gl) (n := D.names.length) (c := cl) (vs := vs) (D := D) hlt hb hn hl hlo)
      clear b8 b9 LE LN p0 x2 x3
      go_wp2
      go_region_law (first
        | (refine step_append_nodeAt _ (by rfl) (.tmp 18) (.tmp 27) (by rfl) base u2 (pickV vs (D.names.take j)) ((D.names.take j).map (nodeOf D.nodes)) (.slice ai dd.length ci) dd sf (wr.alloc (.cells #[.string nm, .int .i64 (kk : Int)] 37)).heap.size 1 (by simp [go_sem]) (by simp [go_sem]) (LK.out _ (by rfl) (by rfl) (by rfl) (by rfl)).1.n (LK.out _ (by rfl) (by rfl) (by rfl) (by rfl)).2.1 (LK.out _ (by rfl) (by rfl) (by rfl) (by rfl)).2.2.1 (LK.out _ (by rfl) (by rfl) (by rfl) (by rfl)).2.2.2.1 HAW.out hNl (LK.out _ (by rfl) (by rfl) (by rfl) (by rfl)).2.2.2.2 ?_; intro v5 w5 h5 hg5 hat5; have hps := PUSH.out _ (LK.out _ (by rfl) (by rfl) (by rfl) (by rfl)).1 v5 w5 h5 hg5 hat5; obtain ⟨a5, c5, rfl⟩ := h5.slice; have HPS := hide hps; clear hps h5 hg5 hat5; generalize ((D.names.take j).map (nodeOf D.nodes) ++ [(dd, sf)]).length = n5 at HPS ⊢)
        | fail)
      all_goals
        obtain ⟨hb5, hn5, hl5, hlo5⟩ := HPS.out
        obtain ⟨gl', eg, -, hf5, -, hc5⟩ := hl5.cells (by omega)
        simp only [Option.some.injEq, Addr.mk.injEq, and_true] at eg
        subst eg
        have e1 := (hc5 j (by omega)).2
        have e2 := hf5 (j * 2 + 1)
        have HP := hide (PUT.out _ w5 hb5 hn5 hl5 hlo5)
        clear hb5 hn5 hl5 hlo5 hf5 hc5 HPS PUT PUSH LK HSS
        go_wp2
        go_roundw
        case rel => exact ⟨j + 1, by omega, by go_num, HP.out⟩
        case measure => simp [intOf]; omega
    · obtain rfl : j = D.names.length := by omega
      obtain ⟨an, cn, rfl⟩ := hS.n.slice
      have hn := hS.n
      have hl := hS.l
      rw [putE_len] at hl
      have e1 : ((D.names.take D.names.length).map (nodeOf D.nodes)) = D.names.map (nodeOf D.nodes) := by rw [List.take_length]
      rw [e1] at hn ⊢
      have hbx := d.box
      have f0 := frozen_of_row wr o 0 _ _ hbx
      have p0 : wr.cell? ⟨o, 0, none⟩ = some (.slice a1 D.nodes.length c1) := hbx.cell 0
      have hLn := hbx.set 0 (.slice an (D.names.map (nodeOf D.nodes)).length cn)
      have fs : Fr (fun g => g = o) wr (wr.setCell ⟨o, 0, none⟩ (.slice an (D.names.map (nodeOf D.nodes)).length cn)) := (Fr.refl _ _).set rfl
      have l0 : OwnE (wr.setCell ⟨o, 0, none⟩ (.slice an (D.names.map (nodeOf D.nodes)).length cn)) w.heap.size (.slice al D.names.length cl) (outE D.names D.names.length) := own_frk hl fs (fun g e => ⟨_, by subst e; exact hbx.kind, by decide⟩)
      have hof := outE_fine HW.out.fine
      have LST := hide (listingOf_any al cl (outE D.names D.names.length) (wr.setCell ⟨o, 0, none⟩ (.slice an (D.names.map (nodeOf D.nodes)).length cn)) (by rw [outE_length]; omega) hof.sz (fun e he => by have := hof.nd e he; simp [Lit.wf, IntKind.min, IntKind.max, IntKind.signed, IntKind.bits]; omega) hof.ap l0.at)
      have END := hide (fun b1' b2' w3 h1 h2 hL hb => stl_end (w := w) (w3 := w3) (b1' := b1') (b2' := b2') hbase HD.out.box.lt HD.out.lo HD.out.box.kind hS.bel hLn hn hl hbx.kind h1 h2 hL hln hb)
      have HLN := hide hLn
      rw [outE_length] at LST
      clear hS d hn hl hbx l0 hof hLn fs e1 hlt hj
      generalize (D.names.map (nodeOf D.nodes)).length = nl at LST END HLN ⊢
      go_wp2_with fail
      refine LST.out.mono ?_
      rintro e w3 ⟨c1', c2', rfl, hc1, hc2, hL3, hb3⟩
      have M := HLN.out.below hb3 HLN.out.lt
      have f1 := frozen_of_row w3 o 1 _ _ M
      have f2 := frozen_of_row w3 o 2 _ _ M
      have f3 := frozen_of_row w3 o 3 _ _ M
      have f4 := frozen_of_row w3 o 4 _ _ M
      have m1 : w3.cell? ⟨o, 1, none⟩ = some (.map (some b1)) := M.cell 1
      have m2 : w3.cell? ⟨o, 2, none⟩ = some (.map (some b2)) := M.cell 2
      have m3 : w3.cell? ⟨o, 3, none⟩ = some v3 := M.cell 3
      have m4 : w3.cell? ⟨o, 4, none⟩ = some v4 := M.cell 4
      rw [← outE_length D.names D.names.length] at hL3
      have HF := hide (END.out c1' c2' w3 hc1 hc2 (by simpa [outE_length] using hL3) hb3)
      unfold lstV
      clear M hc1 hc2 hL3 hb3 LST END p0 f0
      go_wp2
      go_end0
      exact ⟨rfl, _, _, _, _, _, HF.out.1, HF.out.2⟩
end Go.Proofs.YtpccongphchagaaGreatDoor
namespace Go.Proofs.YtpccongphchagaaGreatDoor
open Go.RowKit
set_option linter.unusedVariables false
/-- What do leaves. -/
def DoP (base o m : Nat) (w : World) (R : MDisk × Int) (e : Ending) (w' : World) : Prop := ∃ b1 b2 m' v1 v3 v4 vs, e = .returned (errV R.2) ∧ Drv base w' o b1 b2 m' v1 v3 v4 vs R.1 ∧ KepI base w w' ∧ m' ≤ max m 300 + 1
theorem dop_any {base o m : Nat} {w W w' : World} {R R' : MDisk × Int} {e : Ending} (h : DrAny base o m W R e w') (hK : KepI base w W) (hR : R' = R) : DoP base o m w R' e w' := by
  subst hR
  obtain ⟨b1, b2, m', v1, v3, v4, vs, h1, h2, h3, h4⟩ := h
  exact ⟨b1, b2, m', v1, v3, v4, vs, h1, h2, hK.trans h3, by omega⟩
theorem dop_same {base o b1 b2 m : Nat} {v1 v3 v4 v : Value} {vs : List (Value × Value)} {w w' : World} {D : MDisk} {R : MDisk × Int} {c : Int} (hd : Drv base w' o b1 b2 m v1 v3 v4 vs D) (hK : KepI base w w') (hR : R = (D, c)) (hv : v = errV c) : DoP base o m w R (.returned v) w' := by
  subst hR
  subst hv
  exact ⟨b1, b2, m, v1, v3, v4, vs, rfl, hd, hK, by omega⟩
set_option maxRecDepth 20000 in
set_option maxHeartbeats 1000000 in
theorem do_bad (base o b1 b2 m : Nat) (v1 v3 v4 : Value) (vs : List (Value × Value)) (D : MDisk) (kd : Int) (nm tt : ByteArray) (ad : Option Addr) (data : List Nat) (cd : Nat) (w : World) (hbase : base ≤ w.heap.size) (hW : Wkd D) (hm : m ≤ 1048570) (hs1 : nm.size ≤ 1048576) (hs2 : tt.size ≤ 1048576) (hbad : ¬ (1 ≤ kd ∧ kd ≤ 5 ∧ nmOk (kd, nm, tt, data))) (hd : Drv base w o b1 b2 m v1 v3 v4 vs D) :
    Calls Tryz.prog 54 #[.pointer (some ⟨o, 0, none⟩), .agg #[.int .i64 kd, .string nm, .string tt, .slice ad data.length cd]] w (DoP base o m w (doOne D (kd, nm, tt, data))) := by
  have hA := (Below.refl w.heap.size w).alloc (Nat.le_refl _) (.cells #[.int .i64 kd, .string nm, .string tt, .slice ad data.length cd] 39)
  have L0 := Laid.new w #[.int .i64 kd, .string nm, .string tt, .slice ad data.length cd] 39
  have HD := hide (hd.below hA)
  have HK := hide (KepI.of_below hA hbase)
  have HW := hide hW
  have HBAD := hide hbad
  clear hd hW hbad
  go_enter Tryz.func54, Tryz.ntmps54
  go_upto_region 1 with fail
  generalize w.alloc (.cells #[.int .i64 kd, .string nm, .string tt, .slice ad data.length cd] 39) = W at hA L0 HD HK ⊢
  have o0 : W.cell? ⟨w.heap.size, 0, none⟩ = some (.int .i64 kd) := L0.cell 0
  have o1 : W.cell? ⟨w.heap.size, 1, none⟩ = some (.string nm) := L0.cell 1
  have o2 : W.cell? ⟨w.heap.size, 2, none⟩ = some (.string tt) := L0.cell 2
  have o3 : W.cell? ⟨w.heap.size, 3, none⟩ = some (.slice ad data.length cd) := L0.cell 3
  have hbW : base ≤ W.heap.size := Nat.le_trans hbase hA.size
  have HL0 := hide L0
  clear hA L0
  by_cases h1 : kd < 1
  · go_wp2
    go_ret
    exact dop_same HD.out HK.out (one_kind (.inl h1)) rfl
  by_cases h6 : 6 < kd
  · go_wp2
    go_ret
    exact dop_same HD.out HK.out (one_kind (.inr h6)) rfl
  by_cases h6e : kd = 6
  · subst h6e
    have SE := hide (settle_any base o b1 b2 m v1 v3 v4 vs D W hbW HW.out (by omega) HD.out)
    have HR := hide (one_dir (D := D) (o := (6, nm, tt, data)) rfl)
    go_wp2_with fail
    refine SE.out.mono ?_
    rintro e w2 ⟨rfl, b1', b2', v1', v3', vs', hd2, hk2⟩
    have HD2 := hide hd2
    have HK2 := hide (HK.out.trans hk2)
    clear hd2 hk2 SE o0 o1 o2 o3
    go_wp2
    go_ret
    rw [HR.out]
    exact ⟨b1', b2', 300, v1', v3', _, vs', rfl, HD2.out, HK2.out, by omega⟩
  have hk5 : kd ≤ 5 := by omega
  have hk1 : 1 ≤ kd := by omega
  have GN := hide (goodName_any nm W (by omega))
  have GT := hide (fun (X : World) => goodName_any tt X (by omega))
  cases hok : okName nm with
  | false =>
    rw [hok] at GN
    go_wp2_with fail
    refine GN.out.mono ?_
    rintro e w2 ⟨rfl, hb2⟩
    have HD2 := hide (HD.out.below hb2)
    have HK2 := hide (HK.out.trans (KepI.of_below hb2 hbW))
    clear hb2 GN o0 o1 o2 o3
    go_wp2
    go_ret
    exact dop_same HD2.out HK2.out (one_name hk1 hk5 (.inl hok)) rfl
  | true =>
    have hok1 : okName nm = true := hok
    rw [hok] at GN
    clear hok
    by_cases h4 : kd = 4
    · cases hot : okName tt with
      | true => exact absurd ⟨hk1, hk5, hok1, fun _ => hot⟩ HBAD.out
      | false =>
        subst h4
        go_wp2_with fail
        refine GN.out.mono ?_
        rintro e w2 ⟨rfl, hb2⟩
        have L2 := HL0.out.below hb2 HL0.out.lt
        have p0 : w2.cell? ⟨w.heap.size, 0, none⟩ = some (.int .i64 4) := L2.cell 0
        have p2 : w2.cell? ⟨w.heap.size, 2, none⟩ = some (.string tt) := L2.cell 2
        have HD2 := hide (HD.out.below hb2)
        have HK2 := hide (HK.out.trans (KepI.of_below hb2 hbW))
        have hb2s := Nat.le_trans hbW hb2.size
        have HHOT := hide hot
        clear hb2 GN o0 o1 o2 o3 L2 hot
        go_wp2_with fail
        refine (GT.out w2).mono ?_
        rintro e w3 ⟨rfl, hb3⟩
        rw [HHOT.out]
        have HD3 := hide (HD2.out.below hb3)
        have HK3 := hide (HK2.out.trans (KepI.of_below hb3 hb2s))
        clear hb3 p0 p2
        go_wp2
        go_ret
        exact dop_same HD3.out HK3.out (one_name hk1 hk5 (.inr ⟨rfl, HHOT.out⟩)) rfl
    · exact absurd ⟨hk1, hk5, hok1, fun h => absurd h h4⟩ HBAD.out
end Go.Proofs.YtpccongphchagaaGreatDoor
namespace Go.Proofs.YtpccongphchagaaGreatDoor
open Go.RowKit
set_option linter.unusedVariables false
set_option maxRecDepth 20000 in
set_option maxHeartbeats 1000000 in
theorem do_new (base o b1 b2 m : Nat) (v1 v3 v4 : Value) (vs : List (Value × Value)) (D : MDisk) (nm tt : ByteArray) (ad : Option Addr) (data : List Nat) (cd : Nat) (w : World) (hbase : base ≤ w.heap.size) (hW : Wkd D) (hm : m ≤ 1048570) (hs1 : nm.size ≤ 1048576) (hs2 : tt.size ≤ 1048576) (hdl : data.length ≤ 1048576) (hok : okName nm = true) (hrow : RowAt w ad data) (hd : Drv base w o b1 b2 m v1 v3 v4 vs D) :
    Calls Tryz.prog 54 #[.pointer (some ⟨o, 0, none⟩), .agg #[.int .i64 1, .string nm, .string tt, .slice ad data.length cd]] w (DoP base o m w (doOne D (1, nm, tt, data))) := by
  have hA := (Below.refl w.heap.size w).alloc (Nat.le_refl _) (.cells #[.int .i64 1, .string nm, .string tt, .slice ad data.length cd] 39)
  have L0 := Laid.new w #[.int .i64 1, .string nm, .string tt, .slice ad data.length cd] 39
  have HD := hide (hd.below hA)
  have HK := hide (KepI.of_below hA hbase)
  have HRW := hide (hrow.below hA)
  have HW := hide hW
  clear hd hW hrow
  have GN := hide (fun (X : World) => goodName_any nm X (by omega))
  have GT := hide (fun (X : World) => goodName_any tt X (by omega))
  go_enter Tryz.func54, Tryz.ntmps54
  go_upto_region 1 with fail
  generalize w.alloc (.cells #[.int .i64 1, .string nm, .string tt, .slice ad data.length cd] 39) = W at hA L0 HD HK HRW ⊢
  have o0 : W.cell? ⟨w.heap.size, 0, none⟩ = some (.int .i64 1) := L0.cell 0
  have o1 : W.cell? ⟨w.heap.size, 1, none⟩ = some (.string nm) := L0.cell 1
  have o2 : W.cell? ⟨w.heap.size, 2, none⟩ = some (.string tt) := L0.cell 2
  have hbW : base ≤ W.heap.size := Nat.le_trans hbase hA.size
  have HOK := hide hok
  clear hok
  go_wp2_with fail
  refine (GN.out W).mono ?_
  rintro e w2 ⟨rfl, hb2⟩
  rw [HOK.out]
  have L2 := L0.below hb2 L0.lt
  have hbX : base ≤ w2.heap.size := Nat.le_trans hbW hb2.size
  replace HD := hide (HD.out.below hb2)
  replace HK := hide (HK.out.trans (KepI.of_below hb2 hbW))
  replace HRW := hide (HRW.out.below hb2)
  have p0 : w2.cell? ⟨w.heap.size, 0, none⟩ = some (.int .i64 1) := L2.cell 0
  have p1 : w2.cell? ⟨w.heap.size, 1, none⟩ = some (.string nm) := L2.cell 1
  have p2 : w2.cell? ⟨w.heap.size, 2, none⟩ = some (.string tt) := L2.cell 2
  have p3 : w2.cell? ⟨w.heap.size, 3, none⟩ = some (.slice ad data.length cd) := L2.cell 3
  have HL2 := hide L2
  clear hb2 o0 o1 o2 hbW L0 L2 hA
  have CR := hide (create_any base o b1 b2 m v1 v3 v4 vs D nm w2 hbX HW.out hm hs1 HOK.out HD.out)
  have HR := hide (show doOne D (1, nm, tt, data) = newR D nm from by
    unfold newR
    by_cases hf : 600 ≤ D.nodes.length ∨ 1000 ≤ D.pend.length ∨ (nodeIn D.names nm = none ∧ 300 ≤ D.names.length)
    · rw [if_pos hf]; exact one_full rfl ⟨HOK.out, fun h => absurd h (by simp)⟩ hf
    · rw [if_neg hf]; exact one_new rfl ⟨HOK.out, fun h => absurd h (by simp)⟩ hf)
  go_wp2_with fail
  refine CR.out.mono ?_
  intro e w3 h3
  have HX := hide (dop_any h3 HK.out HR.out)
  obtain ⟨b1', b2', m', v1', v3', v4', vs', rfl, -, -, -⟩ := h3
  go_wp2
  go_ret
  exact HX.out
end Go.Proofs.YtpccongphchagaaGreatDoor
