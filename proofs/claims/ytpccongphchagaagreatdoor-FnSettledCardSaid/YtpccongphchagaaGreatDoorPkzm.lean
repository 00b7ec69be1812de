import Derived.Test.YtpccongphchagaaGreatDoorPkzf
import Derived.Test.YtpccongphchagaaGreatDoorPkzi
import Derived.Test.YtpccongphchagaaGreatDoorPkzj
import Derived.Test.YtpccongphchagaaGreatDoorPkzk
import Derived.Test.YtpccongphchagaaGreatDoorPkzl
import Derived.Test.YtpccongphchagaaGreatDoorPkw
import Derived.Test.YtpccongphchagaaGreatDoorPkx
import Derived.Test.YtpccongphchagaaGreatDoorPkzd
import Derived.Deep.DeepCutAuto
namespace Go.Proofs.YtpccongphchagaaGreatDoor
open Go.RowKit
theorem one_law : OneLaw := by
  intro base v1 v2 v3 v4 D kd nm tt ad data cd w hbase hW hs1 hs2 hdl hrow hd
  by_cases hbad : 1 ≤ kd ∧ kd ≤ 5 ∧ okName nm = true
  · obtain ⟨h1, h5, hok⟩ := hbad
    rcases (show kd = 1 ∨ kd = 2 ∨ kd = 3 ∨ kd = 4 ∨ kd = 5 by omega) with rfl | rfl | rfl | rfl | rfl
    · exact l1One_new base v1 v2 v3 v4 D nm tt ad data cd w hbase hW hs1 hs2 hdl hrow hd hok
    · by_cases hsp : D.quota < (usedOf D.nodes D.names : Int) + (data.length : Int)
      · exact l1One_app1 base v1 v2 v3 v4 D nm tt ad data cd w hbase hW hs1 hs2 hdl hrow hd hok hsp
      · by_cases hf : ∃ n, nodeIn D.names nm = some n ∧ (40000 < (ndAt D n).1.length + data.length ∨ 200000 < sumN D.nodes + data.length)
        · obtain ⟨n, hn, hf⟩ := hf
          refine l1One_app2 base v1 v2 v3 v4 D nm tt ad data cd w hbase hW hs1 hs2 hdl hrow hd hok hsp (fun n' hn' => ?_)
          obtain rfl : n = n' := by rw [hn] at hn'; exact Option.some.inj hn'
          exact hf
        · exact l1One_app3 base v1 v2 v3 v4 D nm tt ad data cd w hbase hW hs1 hs2 hdl hrow hd hok hsp (fun n hn h => hf ⟨n, hn, h⟩)
    · exact l1One_sync base v1 v2 v3 v4 D nm tt ad data cd w hbase hW hs1 hs2 hdl hrow hd hok
    · exact l1One_ren base v1 v2 v3 v4 D nm tt ad data cd w hbase hW hs1 hs2 hdl hrow hd hok
    · exact l1One_rem base v1 v2 v3 v4 D nm tt ad data cd w hbase hW hs1 hs2 hdl hrow hd hok
  · exact l1One_bad base v1 v2 v3 v4 D kd nm tt ad data cd w hbase hW hs1 hs2 hdl hrow hd hbad
end Go.Proofs.YtpccongphchagaaGreatDoor
namespace Go.Proofs.YtpccongphchagaaGreatDoor
open Go.RowKit
set_option linter.unusedVariables false
theorem own_kep {base : Nat} {w w' : World} {b e k n : Nat} {v : Value} {xs : List Value} (h : w.ownsRow b e k v n xs) (hk : Kep base w w') (h1 : e ≠ 49) (h2 : e ≠ 68) : w'.ownsRow b e k v n xs := by
  rcases h with ⟨h0, h' | ⟨g, cap, cur, hv, hlo, hg, hr⟩⟩
  · exact ⟨h0, .inl h'⟩
  · exact ⟨h0, .inr ⟨g, cap, cur, hv, hlo, (hk.kind g e ⟨_, _, hg⟩ h1 h2).trans hg, hr⟩⟩
theorem OwnV.kep {base : Nat} {w w' : World} {b : Nat} {v : Value} {vs : List V4} {os : List OpV} (h : OwnV w b v vs os) (hk : Kep base w w') : OwnV w' b v vs os :=
  ⟨h.len, own_kep h.row hk (by decide) (by decide), fun i hi => by
    obtain ⟨x, h1, h2⟩ := h.body i hi
    exact ⟨x, h1, own_kep h2 hk (by decide) (by decide)⟩⟩
theorem Dk.kp {p : Nat} {w w' : World} {base : Nat} {v1 v2 v3 v4 : Value} {D : MDisk} (h : Dk w base v1 v2 v3 v4 D) (hk : Kp p w w') (hp : p < base) : Dk w' base v1 v2 v3 v4 D := by
  obtain ⟨⟨vs, h1, h2, h3⟩, he, hkk, hpp⟩ := h
  exact ⟨⟨vs, h1, own_kp h2 hk (own_off h2 hp), fun i hi => by
    obtain ⟨x, e1, e2⟩ := h3 i hi
    exact ⟨x, e1, own_kp e2 hk (own_off e2 hp)⟩⟩, own_kp he hk (own_off he hp), own_kp hkk hk (own_off hkk hp), own_kp hpp hk (own_off hpp hp)⟩
/-- How l1Disk stands. -/
structure Dki (w w0 W : World) (p : Nat) (a : Option Addr) (cap : Nat) (code : List Nat) (j B2 B4 : Nat) (v1 v2 v3 v4 : Value) (D : MDisk) : Prop where
  rd : Rd W p (.slice a code.length cap) code j
  low : Below w0.heap.size w0 W
  dk : Dk W w.heap.size v1 v2 v3 v4 D
  bx : Laid W B4 #[v1, v2, v3, v4, .int .i64 D.quota] 27
  rs : Laid W B2 #[.slice none 0 0, .slice none 0 0, .slice none 0 0, .slice none 0 0, .int .i64 0] 27
  val : ValidD D
  hs : w.heap.size ≤ W.heap.size
  hp : p < w.heap.size
  h0 : w0.heap.size ≤ w.heap.size
  hab : w0.heap.size ≤ p
  h2 : w.heap.size ≤ B2
  h4 : B2 < B4
theorem Dki.rdin {w w0 W : World} {p : Nat} {a : Option Addr} {cap : Nat} {code : List Nat} {j B2 B4 : Nat} {v1 v2 v3 v4 : Value} {D : MDisk} (h : Dki w w0 W p a cap code j B2 B4 v1 v2 v3 v4 D) : RdIn W w0 W p a cap code j := ⟨h.rd, h.low, h.hab, Kp.refl _ _⟩
theorem Dki.kp {w w0 W W' : World} {p : Nat} {a : Option Addr} {cap : Nat} {code : List Nat} {j j' B2 B4 : Nat} {v1 v2 v3 v4 : Value} {D : MDisk} (h : Dki w w0 W p a cap code j B2 B4 v1 v2 v3 v4 D) (hr : RdIn W w0 W' p a cap code j') : Dki w w0 W' p a cap code j' B2 B4 v1 v2 v3 v4 D := by
  have a1 := h.hp
  have a2 := h.h2
  have a4 := h.h4
  exact ⟨hr.rd, hr.low, h.dk.kp hr.kp h.hp, (hr.kp.block B4 h.bx.lt (by omega)).trans h.bx, (hr.kp.block B2 h.rs.lt (by omega)).trans h.rs, h.val, Nat.le_trans h.hs hr.kp.size, h.hp, h.h0, h.hab, h.h2, h.h4⟩
theorem Dki.below {w w0 W W' : World} {p : Nat} {a : Option Addr} {cap : Nat} {code : List Nat} {j B2 B4 : Nat} {v1 v2 v3 v4 : Value} {D : MDisk} (h : Dki w w0 W p a cap code j B2 B4 v1 v2 v3 v4 D) (hb : Below W.heap.size W W') : Dki w w0 W' p a cap code j B2 B4 v1 v2 v3 v4 D :=
  h.kp (h.rdin.below hb)
/-- The disk is put anew. -/
theorem Dki.put {w w0 W X : World} {p : Nat} {a : Option Addr} {cap : Nat} {code : List Nat} {j B2 B4 : Nat} {v1 v2 v3 v4 y1 y2 y3 y4 : Value} {D D' : MDisk} (h : Dki w w0 W p a cap code j B2 B4 v1 v2 v3 v4 D) (hk : Kep w.heap.size W X) (hd : Dk X w.heap.size y1 y2 y3 y4 D') (hv : ValidD D') : Dki w w0 (setD X B4 y1 y2 y3 y4 (.int .i64 D'.quota)) p a cap code j B2 B4 y1 y2 y3 y4 D' := by
  have a1 := h.hp
  have a2 := h.h2
  have a4 := h.h4
  have a0 := h.h0
  have bx : Laid X B4 #[v1, v2, v3, v4, .int .i64 D.quota] 27 := (hk.kind B4 _ h.bx.kind (by decide) (by decide)).trans h.bx
  have rs : Laid X B2 #[.slice none 0 0, .slice none 0 0, .slice none 0 0, .slice none 0 0, .int .i64 0] 27 := (hk.kind B2 _ h.rs.kind (by decide) (by decide)).trans h.rs
  have f := setD_fr X B4 y1 y2 y3 y4 (.int .i64 D'.quota)
  have hb : Below w.heap.size W X := hk.bel
  refine ⟨(f.block p (Nat.lt_of_lt_of_le h.rd.lt hb.size) (by omega)).trans ((hb.block p h.hp).trans h.rd), ?_, hd.setD bx _ _ _ _ _, set_disk _ _ _ _ _ bx, (f.block B2 rs.lt (by omega)).trans rs, hv, Nat.le_trans h.hs (Nat.le_trans hb.size f.size), h.hp, h.h0, h.hab, h.h2, h.h4⟩
  exact (h.low.trans (hb.mono a0)).trans (f.below (fun g e => by omega) (Nat.le_trans h.low.size hb.size))
theorem bare_valid (q : Int) (h0 : 0 ≤ q) (h1 : q ≤ 1000000) : ValidD ⟨[], [], [], [], q⟩ := ⟨h0, h1, by simp, (by decide : okNodes [] = true), (by decide : okList (0 : Int) [] = true), (by decide : okList (0 : Int) [] = true), rfl⟩
/-- What l1Disk hands back. -/
def DskPost (w w0 : World) (p : Nat) (a : Option Addr) (cap : Nat) (code : List Nat) (e : Ending) (w' : World) : Prop := ∃ v1 v2 v3 v4 D j, e = .returned (.agg #[v1, v2, v3, v4, .int .i64 D.quota]) ∧ Dk w' w.heap.size v1 v2 v3 v4 D ∧ ValidD D ∧ Rd w' p (.slice a code.length cap) code j ∧ Below w0.heap.size w0 w' ∧ w.heap.size ≤ w'.heap.size
theorem dki_end {w w0 W : World} {p : Nat} {a : Option Addr} {cap : Nat} {code : List Nat} {j B2 B4 : Nat} {v1 v2 v3 v4 : Value} {D : MDisk} (h : Dki w w0 W p a cap code j B2 B4 v1 v2 v3 v4 D) : DskPost w w0 p a cap code (.returned (.agg #[v1, v2, v3, v4, .int .i64 D.quota])) (setD W B2 v1 v2 v3 v4 (.int .i64 D.quota)) := by
  have a1 := h.hp
  have a2 := h.h2
  have a0 := h.h0
  have f := setD_fr W B2 v1 v2 v3 v4 (.int .i64 D.quota)
  exact ⟨v1, v2, v3, v4, D, j, rfl, h.dk.setD h.rs _ _ _ _ _, h.val, (f.block p h.rd.lt (by omega)).trans h.rd, h.low.trans (f.below (fun g e => by omega) h.low.size), Nat.le_trans h.hs f.size⟩
theorem OwnV.setD {w : World} {b B : Nat} {v y1 y2 y3 y4 y5 : Value} {vs : List V4} {os : List OpV} (h : OwnV w b v vs os) (hL : Laid w B #[y1, y2, y3, y4, y5] 27) (x1 x2 x3 x4 x5 : Value) : OwnV (setD w B x1 x2 x3 x4 x5) b v vs os :=
  ⟨h.len, own_frk h.row (setD_fr w B x1 x2 x3 x4 x5) (fun g hg => by obtain rfl : g = B := hg; exact ⟨_, hL.kind, by decide⟩), fun i hi => by
    obtain ⟨x, h1, h2⟩ := h.body i hi
    exact ⟨x, h1, own_frk h2 (setD_fr w B x1 x2 x3 x4 x5) (fun g hg => by obtain rfl : g = B := hg; exact ⟨_, hL.kind, by decide⟩)⟩⟩
end Go.Proofs.YtpccongphchagaaGreatDoor
namespace Go.Proofs.YtpccongphchagaaGreatDoor
open Go.RowKit
set_option linter.unusedVariables false
set_option maxRecDepth 20000 in
set_option maxHeartbeats 8000000 in
theorem l1Disk_in {w0 w : World} {p : Nat} {a : Option Addr} {cap : Nat} {code : List Nat} {i : Nat} (hc : CodeW w0 a code) (hz : nx code i = 0) (h : RdIn w w0 w p a cap code i) :
    Calls Tryz.prog 14 #[.pointer (some ⟨p, 0, none⟩)] w (DskPost w w0 p a cap code) := by
  have hpl := h.rd.lt
  have hw0 := h.low.size
  have hab := h.above
  have HC := hide hc
  have hclen := hc.len
  have hA := (Below.refl w.heap.size w).alloc (Nat.le_refl _) (.cells #[.slice none 0 0, .slice none 0 0, .slice none 0 0, .slice none 0 0, .int .i64 0] 27)
  have L2 := Laid.new w #[.slice none 0 0, .slice none 0 0, .slice none 0 0, .slice none 0 0, .int .i64 0] 27
  have NX := hide (next_w hc (h.below hA).anew)
  rw [hz] at NX
  have HA := hide hA
  have HR := hide h
  clear h hA hc
  go_enter Tryz.func14, Tryz.ntmps14
  go_wp2_with fail
  generalize w.alloc (.cells #[.slice none 0 0, .slice none 0 0, .slice none 0 0, .slice none 0 0, .int .i64 0] 27) = wa at NX L2 HA ⊢
  refine NX.out.mono ?_
  rintro e w1 ⟨rfl, hr1⟩
  have hs1 : w.heap.size < w1.heap.size := Nat.lt_of_lt_of_le L2.lt hr1.kp.size
  have R1 : Laid w1 w.heap.size #[.slice none 0 0, .slice none 0 0, .slice none 0 0, .slice none 0 0, .int .i64 0] 27 := (hr1.kp.block w.heap.size L2.lt (by omega)).trans L2
  have hal := (Below.refl w1.heap.size w1).alloc (Nat.le_refl _) (.cells #[.slice none 0 0, .slice none 0 0, .slice none 0 0, .slice none 0 0, .int .i64 5000] 27)
  have L4 := Laid.new w1 #[.slice none 0 0, .slice none 0 0, .slice none 0 0, .slice none 0 0, .int .i64 5000] 27
  have HD0 := hide (show Dki w w0 (w1.alloc (.cells #[.slice none 0 0, .slice none 0 0, .slice none 0 0, .slice none 0 0, .int .i64 5000] 27)) p a cap code (i + 1) w.heap.size w1.heap.size (.slice none 0 0) (.slice none 0 0) (.slice none 0 0) (.slice none 0 0) ⟨[], [], [], [], 5000⟩ from ⟨hr1.rd.below hal hr1.rd.lt, hr1.low.trans (hal.mono hr1.low.size), ⟨(OwnNA.nil _ _).own, World.ownsRow_nil _ _ _ 2, World.ownsRow_nil _ _ _ 2, World.ownsRow_nil _ _ _ 4⟩, L4, R1.below hal R1.lt, bare_valid 5000 (by omega) (by omega), by simp; omega, hpl, hw0, hab, Nat.le_refl _, hs1⟩)
  clear hr1 NX L2 R1 hal L4 HA HR hz
  go_upto_region 3 with fail
  generalize w1.alloc (.cells #[.slice none 0 0, .slice none 0 0, .slice none 0 0, .slice none 0 0, .int .i64 5000] 27) = W1 at HD0 ⊢
  have q4 : W1.cell? ⟨w1.heap.size, 4, none⟩ = some (.int .i64 5000) := HD0.out.bx.cell 4
  have g4 := frozen_of_row W1 w1.heap.size 4 _ _ HD0.out.bx
  have HD1 := hide (show Dki w w0 (W1.setCell ⟨w1.heap.size, 4, none⟩ (.int .i64 0)) p a cap code (i + 1) w.heap.size w1.heap.size (.slice none 0 0) (.slice none 0 0) (.slice none 0 0) (.slice none 0 0) ⟨[], [], [], [], 0⟩ from by
    have h := HD0.out
    have f : Fr (fun g => g = w1.heap.size) W1 (W1.setCell ⟨w1.heap.size, 4, none⟩ (.int .i64 0)) := (Fr.refl _ _).set rfl
    exact ⟨(f.block p h.rd.lt (by omega)).trans h.rd, h.low.trans (f.below (fun g e => by omega) h.low.size), ⟨(OwnNA.nil _ _).own, World.ownsRow_nil _ _ _ 2, World.ownsRow_nil _ _ _ 2, World.ownsRow_nil _ _ _ 4⟩, h.bx.set 4 _, (f.block w.heap.size h.rs.lt (by omega)).trans h.rs, bare_valid 0 (by omega) (by omega), Nat.le_trans h.hs f.size, hpl, hw0, hab, Nat.le_refl _, hs1⟩)
  go_upto_region 11 with fail
  generalize W1.setCell ⟨w1.heap.size, 4, none⟩ (.int .i64 0) = W2 at HD1 ⊢
  clear HD0 q4 g4
  have r0 := HD1.out.rd.c0
  have r1 := HD1.out.rd.c1
  go_wp2
  go_loopw [7, 9, 10, 11] (fun n _ _ _ wv => ∃ (k j : Nat) (v1 v2 v3 v4 : Value) (D : MDisk), k ≤ 60 ∧ n = .int .i64 (k : Int) ∧ Dki w w0 wv p a cap code j w.heap.size w1.heap.size v1 v2 v3 v4 D) (fun n _ _ _ _ => 60 - (intOf n).toNat)
  case atStart => exact ⟨0, _, _, _, _, _, _, by omega, rfl, HD1.out⟩
  case round =>
    obtain ⟨k, j, v1, v2, v3, v4, D, hk, rfl, hD⟩ := hrel
    obtain ⟨x1, e1, rfl⟩ := hD.dk.n.slice
    obtain ⟨x2, e2, rfl⟩ := hD.dk.e.slice
    obtain ⟨x3, e3, rfl⟩ := hD.dk.k.slice
    obtain ⟨x4, e4, rfl⟩ := hD.dk.p.slice
    have HD := hide hD
    clear HD1 r0 r1
    have r1 : wr.cell? ⟨p, 1, none⟩ = some (.int .i64 ((min j code.length : Nat) : Int)) := hD.rd.c1
    generalize min j code.length = jj at r1
    have p0 : wr.cell? ⟨w1.heap.size, 0, none⟩ = some (.slice x1 D.nodes.length e1) := hD.bx.cell 0
    have p1 : wr.cell? ⟨w1.heap.size, 1, none⟩ = some (.slice x2 D.names.length e2) := hD.bx.cell 1
    have p2 : wr.cell? ⟨w1.heap.size, 2, none⟩ = some (.slice x3 D.kept.length e3) := hD.bx.cell 2
    have p3 : wr.cell? ⟨w1.heap.size, 3, none⟩ = some (.slice x4 D.pend.length e4) := hD.bx.cell 3
    have p4 : wr.cell? ⟨w1.heap.size, 4, none⟩ = some (.int .i64 D.quota) := hD.bx.cell 4
    have z0 : wr.cell? ⟨w.heap.size, 0, none⟩ = some (.slice none 0 0) := hD.rs.cell 0
    have f0 := frozen_of_row wr w.heap.size 0 _ _ hD.rs
    have z1 : wr.cell? ⟨w.heap.size, 1, none⟩ = some (.slice none 0 0) := hD.rs.cell 1
    have f1 := frozen_of_row wr w.heap.size 1 _ _ hD.rs
    have z2 : wr.cell? ⟨w.heap.size, 2, none⟩ = some (.slice none 0 0) := hD.rs.cell 2
    have f2 := frozen_of_row wr w.heap.size 2 _ _ hD.rs
    have z3 : wr.cell? ⟨w.heap.size, 3, none⟩ = some (.slice none 0 0) := hD.rs.cell 3
    have f3 := frozen_of_row wr w.heap.size 3 _ _ hD.rs
    have z4 : wr.cell? ⟨w.heap.size, 4, none⟩ = some (.int .i64 0) := hD.rs.cell 4
    have f4 := frozen_of_row wr w.heap.size 4 _ _ hD.rs
    clear hD
    by_cases hn : k < 60
    · have hni : (k : Int) < 60 := by omega
      by_cases hj : (jj : Int) < (code.length : Int) / 2
      · have OPS := hide (l1Ops_in 1 (by omega) HC.out HD.out.rdin)
        go_wp2_with fail
        refine OPS.out.mono ?_
        rintro e w3 ⟨v, vs, l, j', rfl, hv3, hl1, hob, hr3⟩
        obtain ⟨av, cv, rfl⟩ := hv3.slice
        have HD3 := hide (HD.out.kp hr3)
        have HV3 := hide hv3
        have HOB := hide hob
        clear hv3 hob hr3 OPS HD r1 p0 p1 p2 p3 p4 z0 f0 z1 f1 z2 f2 z3 f3 z4 f4
        go_wp2
        go_loopw [9, 10, 11, 58] (fun _ _ _ i wv => ∃ (m : Nat) (v1 v2 v3 v4 : Value) (C : MDisk), m ≤ l.length ∧ i = .int .i64 (m : Int) ∧ Dki w w0 wv p a cap code j' w.heap.size w1.heap.size v1 v2 v3 v4 C ∧ OwnV wv wr.heap.size (.slice av l.length cv) vs l) (fun _ _ _ i _ => l.length - (intOf i).toNat)
        case atStart => exact ⟨0, _, _, _, _, _, Nat.zero_le _, rfl, HD3.out, HV3.out⟩
        case round =>
          clear HD3 HV3
          obtain ⟨m, v1, v2, v3, v4, C, hm, rfl, hD, hV⟩ := hrel
          obtain ⟨x1, e1, rfl⟩ := hD.dk.n.slice
          obtain ⟨x2, e2, rfl⟩ := hD.dk.e.slice
          obtain ⟨x3, e3, rfl⟩ := hD.dk.k.slice
          obtain ⟨x4, e4, rfl⟩ := hD.dk.p.slice
          have HD := hide hD
          have HV := hide hV
          have p0 : wr.cell? ⟨w1.heap.size, 0, none⟩ = some (.slice x1 C.nodes.length e1) := hD.bx.cell 0
          have p1 : wr.cell? ⟨w1.heap.size, 1, none⟩ = some (.slice x2 C.names.length e2) := hD.bx.cell 1
          have p2 : wr.cell? ⟨w1.heap.size, 2, none⟩ = some (.slice x3 C.kept.length e3) := hD.bx.cell 2
          have p3 : wr.cell? ⟨w1.heap.size, 3, none⟩ = some (.slice x4 C.pend.length e4) := hD.bx.cell 3
          have p4 : wr.cell? ⟨w1.heap.size, 4, none⟩ = some (.int .i64 C.quota) := hD.bx.cell 4
          by_cases hlt : m < l.length
          · have hli : (m : Int) < (l.length : Int) := by omega
            obtain ⟨bo, oo, rfl, hco⟩ := hV.at (by omega)
            obtain ⟨ai, ci, s0, s1, s2, s3, hrow⟩ := hco m hlt
            obtain ⟨hz1, hz2, hz3⟩ := HOB.out _ (List.getElem_mem hlt)
            have HVN := hide (doOne_valid l[m] HD.out.val)
            generalize l[m] = op at s0 s1 s2 s3 hrow hz1 hz2 hz3 HVN
            obtain ⟨kd, nm, tt, data⟩ := op
            simp only at s0 s1 s2 s3 hrow hz1 hz2 hz3
            have hal := (Below.refl wr.heap.size wr).alloc (Nat.le_refl _) (.cells #[.int .i64 kd, .string nm, .string tt, .slice ai data.length ci] 39)
            have hbw : w.heap.size ≤ (wr.alloc (.cells #[.int .i64 kd, .string nm, .string tt, .slice ai data.length ci] 39)).heap.size := Nat.le_trans hD.hs hal.size
            have CALL := hide (one_law w.heap.size _ _ _ _ C kd nm tt ai data ci _ hbw (valid_wkd hD.val) (by omega) (by omega) (by omega) (hrow.below hal) (hD.dk.below hal))
            have HAL := hide hal
            have HKA := hide (Kep.of_below (base := w.heap.size) hal hD.hs)
            have ba := hD.bx.below hal hD.bx.lt
            have p0a : (wr.alloc (.cells #[.int .i64 kd, .string nm, .string tt, .slice ai data.length ci] 39)).cell? ⟨w1.heap.size, 0, none⟩ = some (.slice x1 C.nodes.length e1) := ba.cell 0
            have p1a : (wr.alloc (.cells #[.int .i64 kd, .string nm, .string tt, .slice ai data.length ci] 39)).cell? ⟨w1.heap.size, 1, none⟩ = some (.slice x2 C.names.length e2) := ba.cell 1
            have p2a : (wr.alloc (.cells #[.int .i64 kd, .string nm, .string tt, .slice ai data.length ci] 39)).cell? ⟨w1.heap.size, 2, none⟩ = some (.slice x3 C.kept.length e3) := ba.cell 2
            have p3a : (wr.alloc (.cells #[.int .i64 kd, .string nm, .string tt, .slice ai data.length ci] 39)).cell? ⟨w1.heap.size, 3, none⟩ = some (.slice x4 C.pend.length e4) := ba.cell 3
            have p4a : (wr.alloc (.cells #[.int .i64 kd, .string nm, .string tt, .slice ai data.length ci] 39)).cell? ⟨w1.heap.size, 4, none⟩ = some (.int .i64 C.quota) := ba.cell 4
            clear hco hrow hal hbw ba hD hV p0 p1 p2 p3 p4
            generalize hOne : doOne C (kd, nm, tt, data) = R at CALL HVN
            obtain ⟨C', cde⟩ := R
            clear hOne
            go_wp2_with fail
            generalize wr.alloc (.cells #[.int .i64 kd, .string nm, .string tt, .slice ai data.length ci] 39) = W4 at CALL HKA HAL p0a p1a p2a p3a p4a ⊢
            refine CALL.out.mono ?_
            rintro e w5 ⟨y1, y2, y3, y4, rfl, hd5, hk5, hx5⟩
            obtain ⟨g1, h1, rfl⟩ := hd5.n.slice
            obtain ⟨g2, h2, rfl⟩ := hd5.e.slice
            obtain ⟨g3, h3, rfl⟩ := hd5.k.slice
            obtain ⟨g4, h4, rfl⟩ := hd5.p.slice
            have hk := HKA.out.trans hk5
            have hal6 := (Below.refl w5.heap.size w5).alloc (Nat.le_refl _) (.cells #[.slice g1 C'.nodes.length h1, .slice g2 C'.names.length h2, .slice g3 C'.kept.length h3, .slice g4 C'.pend.length h4, .int .i64 C'.quota] 27)
            have L6 := Laid.new w5 #[.slice g1 C'.nodes.length h1, .slice g2 C'.names.length h2, .slice g3 C'.kept.length h3, .slice g4 C'.pend.length h4, .int .i64 C'.quota] 27
            have HK6 := hide (hk.trans (Kep.of_below (base := w.heap.size) hal6 (Nat.le_trans HD.out.hs hk.bel.size)))
            have HD6 := hide (hd5.below hal6)
            have HX6 := hide (fun (h : cde ≠ 0) => (HAL.out.trans ((hx5 h).mono HAL.out.size)).trans (hal6.mono (Nat.le_trans HAL.out.size (hx5 h).size)))
            clear hd5 hk5 hx5 hk hal6 CALL HKA HAL p0a p1a p2a p3a p4a
            go_upto_region 19 with fail
            generalize w5.alloc (.cells #[.slice g1 C'.nodes.length h1, .slice g2 C'.names.length h2, .slice g3 C'.kept.length h3, .slice g4 C'.pend.length h4, .int .i64 C'.quota] 27) = W6 at HK6 HD6 HX6 L6 ⊢
            have B6 := HK6.out.laid HD.out.bx (by decide) (by decide)
            have q0 : W6.cell? ⟨w5.heap.size, 0, none⟩ = some (.slice g1 C'.nodes.length h1) := L6.cell 0
            have q1 : W6.cell? ⟨w5.heap.size, 1, none⟩ = some (.slice g2 C'.names.length h2) := L6.cell 1
            have q2 : W6.cell? ⟨w5.heap.size, 2, none⟩ = some (.slice g3 C'.kept.length h3) := L6.cell 2
            have q3 : W6.cell? ⟨w5.heap.size, 3, none⟩ = some (.slice g4 C'.pend.length h4) := L6.cell 3
            have q4 : W6.cell? ⟨w5.heap.size, 4, none⟩ = some (.int .i64 C'.quota) := L6.cell 4
            have t0 : W6.cell? ⟨w1.heap.size, 0, none⟩ = some (.slice x1 C.nodes.length e1) := B6.cell 0
            have t1 : W6.cell? ⟨w1.heap.size, 1, none⟩ = some (.slice x2 C.names.length e2) := B6.cell 1
            have t2 : W6.cell? ⟨w1.heap.size, 2, none⟩ = some (.slice x3 C.kept.length e3) := B6.cell 2
            have t3 : W6.cell? ⟨w1.heap.size, 3, none⟩ = some (.slice x4 C.pend.length e4) := B6.cell 3
            have t4 : W6.cell? ⟨w1.heap.size, 4, none⟩ = some (.int .i64 C.quota) := B6.cell 4
            have f0 := frozen_of_row W6 w1.heap.size 0 _ _ B6
            have f1 := frozen_of_row W6 w1.heap.size 1 _ _ B6
            have f2 := frozen_of_row W6 w1.heap.size 2 _ _ B6
            have f3 := frozen_of_row W6 w1.heap.size 3 _ _ B6
            have f4 := frozen_of_row W6 w1.heap.size 4 _ _ B6
            by_cases hc0 : cde = 0
            · subst hc0
              have HNX := hide (HD.out.put HK6.out HD6.out HVN.out)
              have HVX := hide ((HV.out.kep HK6.out).setD B6 (.slice g1 C'.nodes.length h1) (.slice g2 C'.names.length h2) (.slice g3 C'.kept.length h3) (.slice g4 C'.pend.length h4) (.int .i64 C'.quota))
              clear L6 B6 HD HV HK6 HX6 HD6
              go_wp2
              go_roundw
              case rel => exact ⟨m + 1, _, _, _, _, C', by omega, by go_num, HNX.out, HVX.out⟩
              case measure => simp [intOf]; omega
            · have HNX := hide (HD.out.below (HX6.out hc0))
              have HVX := hide (HV.out.kep HK6.out)
              clear L6 B6 HD HV HK6 HX6 HD6
              go_wp2
              go_roundw
              case rel => exact ⟨m + 1, _, _, _, _, C, by omega, by go_num, HNX.out, HVX.out⟩
              case measure => simp [intOf]; omega
          · have hli : ¬ (m : Int) < (l.length : Int) := by omega
            clear hD hV p0 p1 p2 p3 p4
            go_wp2
            go_roundw
            case rel => exact ⟨k + 1, _, _, _, _, _, C, by omega, by go_num, HD.out⟩
            case measure => simp [intOf]; omega
      · go_wp2
        exact bodyPost_ret (ret_disk w.heap.size _ _ _ _ _ _ rfl rfl (set_disk _ _ _ _ _ HD.out.rs)) rfl (dki_end HD.out)
    · have hni : ¬ (k : Int) < 60 := by omega
      go_wp2
      exact bodyPost_ret (ret_disk w.heap.size _ _ _ _ _ _ rfl rfl (set_disk _ _ _ _ _ HD.out.rs)) rfl (dki_end HD.out)
end Go.Proofs.YtpccongphchagaaGreatDoor
namespace Go.Proofs.YtpccongphchagaaGreatDoor
open Go.RowKit
set_option linter.unusedVariables false
theorem RdIn.fr {S : Nat → Prop} {w w0 W W' : World} {p : Nat} {a : Option Addr} {cap : Nat} {code : List Nat} {j : Nat} (h : RdIn w w0 W p a cap code j) (f : Fr S W W') (hp : p < w.heap.size) (hw0 : w0.heap.size ≤ w.heap.size) (hS : ∀ g, S g → w.heap.size ≤ g) : RdIn w w0 W' p a cap code j :=
  ⟨(f.block p h.rd.lt (fun e => by have := hS p e; omega)).trans h.rd, h.low.trans (f.below (fun g e => Nat.le_trans hw0 (hS g e)) h.low.size), h.above, ⟨Nat.le_trans h.kp.size f.size, fun g hg hn => (f.block g (Nat.lt_of_lt_of_le hg h.kp.size) (fun e => by have := hS g e; omega)).trans (h.kp.block g hg hn)⟩⟩
/-- How l1Spoilt stands. -/
structure Spi (w w0 W : World) (p : Nat) (a : Option Addr) (cap : Nat) (code : List Nat) (j : Nat) (y1 y2 y3 y4 y5 : Value) : Prop where
  rd : RdIn w w0 W p a cap code j
  bx : Laid W w.heap.size #[y1, y2, y3, y4, y5] 27
  rs : Laid W (w.heap.size + 1) #[.slice none 0 0, .slice none 0 0, .slice none 0 0, .slice none 0 0, .int .i64 0] 27
  hp : p < w.heap.size
  h0 : w0.heap.size ≤ w.heap.size
theorem Spi.fr {S : Nat → Prop} {w w0 W W' : World} {p : Nat} {a : Option Addr} {cap : Nat} {code : List Nat} {j : Nat} {y1 y2 y3 y4 y5 : Value} (h : Spi w w0 W p a cap code j y1 y2 y3 y4 y5) (f : Fr S W W') (hS : ∀ g, S g → w.heap.size ≤ g ∧ ∃ t, KindAt W g t ∧ t ≠ 27) : Spi w w0 W' p a cap code j y1 y2 y3 y4 y5 :=
  ⟨h.rd.fr f h.hp h.h0 (fun g e => (hS g e).1), (f.block _ h.bx.lt (fun e => by obtain ⟨_, t, k, n⟩ := hS _ e; exact n (k.ne h.bx.kind))).trans h.bx, (f.block _ h.rs.lt (fun e => by obtain ⟨_, t, k, n⟩ := hS _ e; exact n (k.ne h.rs.kind))).trans h.rs, h.hp, h.h0⟩
theorem Spi.below {w w0 W W' : World} {p : Nat} {a : Option Addr} {cap : Nat} {code : List Nat} {j : Nat} {y1 y2 y3 y4 y5 : Value} (h : Spi w w0 W p a cap code j y1 y2 y3 y4 y5) (hb : Below W.heap.size W W') : Spi w w0 W' p a cap code j y1 y2 y3 y4 y5 :=
  h.fr (S := fun _ => False) (Fr.of_below hb) (fun g e => e.elim)
/-- The disk's box is put anew. -/
theorem Spi.put {w w0 W : World} {p : Nat} {a : Option Addr} {cap : Nat} {code : List Nat} {j : Nat} {y1 y2 y3 y4 y5 : Value} (h : Spi w w0 W p a cap code j y1 y2 y3 y4 y5) (x1 x2 x3 x4 x5 : Value) : Spi w w0 (setD W w.heap.size x1 x2 x3 x4 x5) p a cap code j x1 x2 x3 x4 x5 := by
  have f := setD_fr W w.heap.size x1 x2 x3 x4 x5
  exact ⟨h.rd.fr f h.hp h.h0 (fun g e => by omega), set_disk _ _ _ _ _ h.bx, (f.block _ h.rs.lt (by omega)).trans h.rs, h.hp, h.h0⟩
theorem Spi.quota {w w0 W : World} {p : Nat} {a : Option Addr} {cap : Nat} {code : List Nat} {j : Nat} {y1 y2 y3 y4 y5 : Value} (h : Spi w w0 W p a cap code j y1 y2 y3 y4 y5) (u : Value) : Spi w w0 (W.setCell ⟨w.heap.size, 4, none⟩ u) p a cap code j y1 y2 y3 y4 u := by
  have f : Fr (fun g => g = w.heap.size) W (W.setCell ⟨w.heap.size, 4, none⟩ u) := (Fr.refl _ _).set rfl
  exact ⟨h.rd.fr f h.hp h.h0 (fun g e => by omega), h.bx.set 4 u, (f.block _ h.rs.lt (by omega)).trans h.rs, h.hp, h.h0⟩
theorem Spi.names {w w0 W : World} {p : Nat} {a : Option Addr} {cap : Nat} {code : List Nat} {j : Nat} {y1 y2 y3 y4 y5 : Value} (h : Spi w w0 W p a cap code j y1 y2 y3 y4 y5) (u : Value) : Spi w w0 (W.setCell ⟨w.heap.size, 1, none⟩ u) p a cap code j y1 u y3 y4 y5 := by
  have f : Fr (fun g => g = w.heap.size) W (W.setCell ⟨w.heap.size, 1, none⟩ u) := (Fr.refl _ _).set rfl
  exact ⟨h.rd.fr f h.hp h.h0 (fun g e => by omega), h.bx.set 1 u, (f.block _ h.rs.lt (by omega)).trans h.rs, h.hp, h.h0⟩
theorem Spi.pend {w w0 W : World} {p : Nat} {a : Option Addr} {cap : Nat} {code : List Nat} {j : Nat} {y1 y2 y3 y4 y5 : Value} (h : Spi w w0 W p a cap code j y1 y2 y3 y4 y5) (u : Value) : Spi w w0 (W.setCell ⟨w.heap.size, 3, none⟩ u) p a cap code j y1 y2 y3 u y5 := by
  have f : Fr (fun g => g = w.heap.size) W (W.setCell ⟨w.heap.size, 3, none⟩ u) := (Fr.refl _ _).set rfl
  exact ⟨h.rd.fr f h.hp h.h0 (fun g e => by omega), h.bx.set 3 u, (f.block _ h.rs.lt (by omega)).trans h.rs, h.hp, h.h0⟩
theorem Spi.cells {w w0 W : World} {p : Nat} {a : Option Addr} {cap : Nat} {code : List Nat} {j : Nat} {y1 y2 y3 y4 y5 : Value} (h : Spi w w0 W p a cap code j y1 y2 y3 y4 y5) :
    (W.cell? ⟨w.heap.size, 0, none⟩ = some y1 ∧ W.cell? ⟨w.heap.size, 1, none⟩ = some y2 ∧ W.cell? ⟨w.heap.size, 2, none⟩ = some y3 ∧ W.cell? ⟨w.heap.size, 3, none⟩ = some y4 ∧ W.cell? ⟨w.heap.size, 4, none⟩ = some y5) ∧
    (W.frozen? ⟨w.heap.size, 0, none⟩ = false ∧ W.frozen? ⟨w.heap.size, 1, none⟩ = false ∧ W.frozen? ⟨w.heap.size, 2, none⟩ = false ∧ W.frozen? ⟨w.heap.size, 3, none⟩ = false ∧ W.frozen? ⟨w.heap.size, 4, none⟩ = false) ∧
    (W.cell? ⟨w.heap.size + 1, 0, none⟩ = some (.slice none 0 0) ∧ W.cell? ⟨w.heap.size + 1, 1, none⟩ = some (.slice none 0 0) ∧ W.cell? ⟨w.heap.size + 1, 2, none⟩ = some (.slice none 0 0) ∧ W.cell? ⟨w.heap.size + 1, 3, none⟩ = some (.slice none 0 0) ∧ W.cell? ⟨w.heap.size + 1, 4, none⟩ = some (.int .i64 0)) ∧
    (W.frozen? ⟨w.heap.size + 1, 0, none⟩ = false ∧ W.frozen? ⟨w.heap.size + 1, 1, none⟩ = false ∧ W.frozen? ⟨w.heap.size + 1, 2, none⟩ = false ∧ W.frozen? ⟨w.heap.size + 1, 3, none⟩ = false ∧ W.frozen? ⟨w.heap.size + 1, 4, none⟩ = false) :=
  ⟨⟨h.bx.cell 0, h.bx.cell 1, h.bx.cell 2, h.bx.cell 3, h.bx.cell 4⟩, ⟨frozen_of_row _ _ _ _ _ h.bx, frozen_of_row _ _ _ _ _ h.bx, frozen_of_row _ _ _ _ _ h.bx, frozen_of_row _ _ _ _ _ h.bx, frozen_of_row _ _ _ _ _ h.bx⟩, ⟨h.rs.cell 0, h.rs.cell 1, h.rs.cell 2, h.rs.cell 3, h.rs.cell 4⟩, ⟨frozen_of_row _ _ _ _ _ h.rs, frozen_of_row _ _ _ _ _ h.rs, frozen_of_row _ _ _ _ _ h.rs, frozen_of_row _ _ _ _ _ h.rs, frozen_of_row _ _ _ _ _ h.rs⟩⟩
/-- What l1Spoilt hands back. -/
def SpPost (w w0 : World) (p : Nat) (a : Option Addr) (cap : Nat) (code : List Nat) (e : Ending) (w' : World) : Prop := ∃ a1 n1 c1 a2 n2 c2 a3 n3 c3 a4 n4 c4 q j, e = .returned (.agg #[.slice a1 n1 c1, .slice a2 n2 c2, .slice a3 n3 c3, .slice a4 n4 c4, .int .i64 q]) ∧ RdIn w w0 w' p a cap code j
theorem spi_end {w w0 W : World} {p : Nat} {a : Option Addr} {cap : Nat} {code : List Nat} {j n1 c1 n2 c2 n3 c3 n4 c4 : Nat} {a1 a2 a3 a4 : Option Addr} {q : Int} (h : Spi w w0 W p a cap code j (.slice a1 n1 c1) (.slice a2 n2 c2) (.slice a3 n3 c3) (.slice a4 n4 c4) (.int .i64 q)) : SpPost w w0 p a cap code (.returned (.agg #[.slice a1 n1 c1, .slice a2 n2 c2, .slice a3 n3 c3, .slice a4 n4 c4, .int .i64 q])) (setD W (w.heap.size + 1) (.slice a1 n1 c1) (.slice a2 n2 c2) (.slice a3 n3 c3) (.slice a4 n4 c4) (.int .i64 q)) :=
  ⟨a1, n1, c1, a2, n2, c2, a3, n3, c3, a4, n4, c4, q, j, rfl, h.rd.fr (setD_fr _ _ _ _ _ _ _) h.hp h.h0 (fun g e => by omega)⟩
end Go.Proofs.YtpccongphchagaaGreatDoor
