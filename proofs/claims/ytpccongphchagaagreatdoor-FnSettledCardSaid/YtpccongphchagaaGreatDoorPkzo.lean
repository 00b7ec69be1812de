import Derived.Test.YtpccongphchagaaGreatDoorPkzm
import Derived.Test.YtpccongphchagaaGreatDoorPkzn
import Derived.Test.YtpccongphchagaaGreatDoorPkz
import Derived.Deep.DeepCutAuto
import Derived.RegionTactic
import Derived.ChangeAlike
import Derived.BigRegion
namespace Go.Proofs.YtpccongphchagaaGreatDoor
open Go.RowKit
set_option linter.unusedVariables false
theorem Spi.drew {w w0 W : World} {p : Nat} {a : Option Addr} {cap : Nat} {code : List Nat} {j : Nat} {y1 y2 y3 y4 y5 : Value} (h : Spi w w0 W p a cap code j y1 y2 y3 y4 y5) : Spi w w0 W.drew p a cap code j y1 y2 y3 y4 y5 :=
  h.fr (S := fun _ => False) ⟨rfl, rfl, rfl, Nat.le_refl _, fun _ _ _ => rfl⟩ (fun g e => e.elim)
theorem sp_drew {w w0 : World} {p : Nat} {a : Option Addr} {cap : Nat} {code : List Nat} {e : Ending} {w' : World} (h : SpPost w w0 p a cap code e w') : SpPost w w0 p a cap code e w'.drew := by
  obtain ⟨a1, n1, c1, a2, n2, c2, a3, n3, c3, a4, n4, c4, q, j, rfl, h⟩ := h
  exact ⟨a1, n1, c1, a2, n2, c2, a3, n3, c3, a4, n4, c4, q, j, rfl, ⟨h.rd, h.low.drew, h.above, ⟨h.kp.size, h.kp.block⟩⟩⟩
theorem OwnO.cells0 {w : World} {base : Nat} {a : Option Addr} {n cap : Nat} {es : List DO} (h : OwnO w base (.slice a n cap) es) (hp : 0 < es.length) :
    ∃ g, a = some ⟨g, 0, none⟩ ∧ base ≤ g ∧ (∀ o, w.frozen? ⟨g, o, none⟩ = false) ∧ KindAt w g 68 := by
  rcases h.2 with ⟨_, hn⟩ | ⟨g, c, cur, hv, hlo, hg, hcs⟩
  · rw [List.length_map] at hn; omega
  · obtain ⟨rfl, rfl, rfl⟩ : a = some ⟨g, 0, none⟩ ∧ n = (es.map opP).length ∧ cap = c := by simpa using hv
    exact ⟨g, rfl, hlo, fun o => frozen_of_row w g o _ _ hg, ⟨_, _, hg⟩⟩
set_option maxRecDepth 20000 in
set_option maxHeartbeats 8000000 in
theorem l1Spoilt_in {w0 w : World} {p base : Nat} {a : Option Addr} {cap : Nat} {code : List Nat} {i : Nat} {v1 v2 v3 v4 : Value} {D : MDisk} (hc : CodeW w0 a code) (h : RdIn w w0 w p a cap code i) (hd : Dk w base v1 v2 v3 v4 D) (hv : ValidD D) (hpb : p < base) :
    Calls Tryz.prog 13 #[.pointer (some ⟨p, 0, none⟩), .agg #[v1, v2, v3, v4, .int .i64 D.quota]] w (SpPost w w0 p a cap code) := by
  have hpl := h.rd.lt
  have hw0 := h.low.size
  have hxc := nx_lt hc.byte i
  obtain ⟨L1, L2, hA, hz⟩ := boxes2 w #[v1, v2, v3, v4, .int .i64 D.quota] #[.slice none 0 0, .slice none 0 0, .slice none 0 0, .slice none 0 0, .int .i64 0] 27 27
  obtain ⟨x1, e1, rfl⟩ := hd.n.slice
  obtain ⟨x2, e2, rfl⟩ := hd.e.slice
  obtain ⟨x3, e3, rfl⟩ := hd.k.slice
  obtain ⟨x4, e4, rfl⟩ := hd.p.slice
  have HS0 := hide (show Spi w w0 _ p a cap code i _ _ _ _ _ from ⟨h.below hA, L1, L2, hpl, hw0⟩)
  have NX := hide (next_w hc (h.below hA).anew)
  have HDK := hide (hd.below hA)
  have HZ := hide hz
  have HV := hide hv
  clear h hA hc hd hv L1 L2 hz
  go_enter Tryz.func13, Tryz.ntmps13
  go_upto_region 1 with fail
  generalize (w.alloc (.cells #[.slice x1 D.nodes.length e1, .slice x2 D.names.length e2, .slice x3 D.kept.length e3, .slice x4 D.pend.length e4, .int .i64 D.quota] 27)).alloc (.cells #[.slice none 0 0, .slice none 0 0, .slice none 0 0, .slice none 0 0, .int .i64 0] 27) = wa at NX HS0 HDK HZ ⊢
  go_wp2_with fail
  refine NX.out.mono ?_
  rintro e w1 ⟨rfl, hr1⟩
  have hs0 := HS0.out
  have HS1 := hide (show Spi w w0 w1 p a cap code (i + 1) _ _ _ _ _ from ⟨RdIn.onto hs0.rd.kp hr1, (hr1.kp.block _ hs0.bx.lt (by omega)).trans hs0.bx, (hr1.kp.block _ hs0.rs.lt (by omega)).trans hs0.rs, hpl, hw0⟩)
  have HDK1 := hide (HDK.out.kp hr1.kp hpb)
  clear hs0 hr1 HS0 NX HDK HZ
  generalize nx code i = c at hxc ⊢
  obtain ⟨⟨p0, p1, p2, p3, p4⟩, ⟨f0, f1, f2, f3, f4⟩, ⟨z0, z1, z2, z3, z4⟩, ⟨g0, g1, g2, g3, g4⟩⟩ := HS1.out.cells
  by_cases hc5 : (c : Int) % 5 = 4
  · have CP := hide (l1Copy_any _ D w1 (valid_wkd HV.out) HDK1.out.own.at)
    go_wp2_with fail
    refine CP.out.mono ?_
    rintro e w2 ⟨y1, y2, y3, y4, rfl, hd2, hb2⟩
    obtain ⟨b1, d1, rfl⟩ := hd2.n.slice
    obtain ⟨b2, d2, rfl⟩ := hd2.e.slice
    obtain ⟨b3, d3, rfl⟩ := hd2.k.slice
    obtain ⟨b4, d4, rfl⟩ := hd2.p.slice
    have hs2 := HS1.out.below hb2
    have HD3 := hide (hd2.setD hs2.bx (.slice b1 D.nodes.length d1) (.slice b2 D.names.length d2) (.slice b3 D.kept.length d3) (.slice b4 D.pend.length d4) (.int .i64 D.quota))
    have HS3 := hide (hs2.put (.slice b1 D.nodes.length d1) (.slice b2 D.names.length d2) (.slice b3 D.kept.length d3) (.slice b4 D.pend.length d4) (.int .i64 D.quota))
    clear p0 p1 p2 p3 p4 f0 f1 f2 f3 f4 z0 z1 z2 z3 z4 g0 g1 g2 g3 g4
    obtain ⟨⟨p0, p1, p2, p3, p4⟩, ⟨f0, f1, f2, f3, f4⟩, rr⟩ := hs2.cells
    have HB1 := hide HS1.out.rs.lt
    have HB2 := hide (show w1.heap.size ≤ (setD w2 w.heap.size (.slice b1 D.nodes.length d1) (.slice b2 D.names.length d2) (.slice b3 D.kept.length d3) (.slice b4 D.pend.length d4) (.int .i64 D.quota)).heap.size from by rw [setD_size]; exact hb2.size)
    clear HS1 HDK1 CP hd2 hs2 hb2
    go_upto_region 5 with fail
    change Code.wp _ _ _ _ (setD w2 w.heap.size (.slice b1 D.nodes.length d1) (.slice b2 D.names.length d2) (.slice b3 D.kept.length d3) (.slice b4 D.pend.length d4) (.int .i64 D.quota))
    generalize setD w2 w.heap.size (.slice b1 D.nodes.length d1) (.slice b2 D.names.length d2) (.slice b3 D.kept.length d3) (.slice b4 D.pend.length d4) (.int .i64 D.quota) = W at HS3 HD3 HB2 ⊢
    clear p0 p1 p2 p3 p4 f0 f1 f2 f3 f4 rr
    obtain ⟨⟨p0, p1, p2, p3, p4⟩, ⟨f0, f1, f2, f3, f4⟩, ⟨z0, z1, z2, z3, z4⟩, ⟨g0, g1, g2, g3, g4⟩⟩ := HS3.out.cells
    have hq8 : (c : Int) / 5 % 8 = 0 ∨ (c : Int) / 5 % 8 = 1 ∨ (c : Int) / 5 % 8 = 2 ∨ (c : Int) / 5 % 8 = 3 ∨ (c : Int) / 5 % 8 = 4 ∨ (c : Int) / 5 % 8 = 5 ∨ (c : Int) / 5 % 8 = 6 ∨ (c : Int) / 5 % 8 = 7 := by omega
    rcases hq8 with hm | hm | hm | hm | hm | hm | hm | hm
    · skip
      have HS4 := hide (HS3.out.quota (.int .i64 (-1)))
      go_upto_region 28 with fail
      generalize W.setCell ⟨w.heap.size, 4, none⟩ (.int .i64 (-1)) = W4 at HS4 ⊢
      clear p0 p1 p2 p3 p4 f0 f1 f2 f3 f4 z0 z1 z2 z3 z4 g0 g1 g2 g3 g4
      obtain ⟨⟨p0, p1, p2, p3, p4⟩, ⟨f0, f1, f2, f3, f4⟩, ⟨z0, z1, z2, z3, z4⟩, ⟨g0, g1, g2, g3, g4⟩⟩ := HS4.out.cells
      go_wp2
      exact bodyPost_ret (ret_disk (w.heap.size + 1) _ _ _ _ _ _ rfl rfl (set_disk _ _ _ _ _ HS4.out.rs)) rfl (spi_end HS4.out)
    · skip
      have HS4 := hide (HS3.out.quota (.int .i64 1000001))
      go_upto_region 28 with fail
      generalize W.setCell ⟨w.heap.size, 4, none⟩ (.int .i64 1000001) = W4 at HS4 ⊢
      clear p0 p1 p2 p3 p4 f0 f1 f2 f3 f4 z0 z1 z2 z3 z4 g0 g1 g2 g3 g4
      obtain ⟨⟨p0, p1, p2, p3, p4⟩, ⟨f0, f1, f2, f3, f4⟩, ⟨z0, z1, z2, z3, z4⟩, ⟨g0, g1, g2, g3, g4⟩⟩ := HS4.out.cells
      go_wp2
      exact bodyPost_ret (ret_disk (w.heap.size + 1) _ _ _ _ _ _ rfl rfl (set_disk _ _ _ _ _ HS4.out.rs)) rfl (spi_end HS4.out)
    · by_cases hn : 0 < D.nodes.length
      · have hni : (0 : Int) < (D.nodes.length : Int) := by omega
        obtain ⟨g, rfl, hg, hf, hkd, hcl⟩ := HD3.out.n.cells hn
        obtain ⟨ai, ci, c0, c1, _⟩ := hcl 0 hn
        have c0' : W.cell? ⟨g, 0, none⟩ = some (.slice ai D.nodes[0].1.length ci) := c0
        have c1' : W.cell? ⟨g, 1, none⟩ = some (.int .i64 D.nodes[0].2) := c1
        have hf1 := hf 1
        have hlen : D.nodes[0].1.length ≤ 40000 := (valid_wkd HV.out).data _ (List.getElem_mem hn)
        clear hcl hf c0 c1
        generalize D.nodes[0].1.length = nl at c0' hlen
        generalize D.nodes[0].2 = sf at c1'
        have HS4 := hide (HS3.out.fr (S := fun g' => g' = g) (W' := W.setCell ⟨g, 1, none⟩ (.int .i64 ((nl : Int) + 1))) ((Fr.refl _ _).set rfl) (fun g' e => by subst e; exact ⟨by have := HB1.out; omega, _, hkd, by decide⟩))
        clear hkd
        go_upto_region 14 with fail
        go_region
        go_upto_region 28 with fail
        generalize W.setCell ⟨g, 1, none⟩ (.int .i64 ((nl : Int) + 1)) = W4 at HS4 ⊢
        clear p0 p1 p2 p3 p4 f0 f1 f2 f3 f4 z0 z1 z2 z3 z4 g0 g1 g2 g3 g4
        obtain ⟨⟨p0, p1, p2, p3, p4⟩, ⟨f0, f1, f2, f3, f4⟩, ⟨z0, z1, z2, z3, z4⟩, ⟨g0, g1, g2, g3, g4⟩⟩ := HS4.out.cells
        go_wp2
        exact bodyPost_ret (ret_disk (w.heap.size + 1) _ _ _ _ _ _ rfl rfl (set_disk _ _ _ _ _ (HS4.out).rs)) rfl (sp_drew (spi_end (HS4.out)))
      · have hni : ¬ (0 : Int) < (D.nodes.length : Int) := by omega
        go_wp2
        exact bodyPost_ret (ret_disk (w.heap.size + 1) _ _ _ _ _ _ rfl rfl (set_disk _ _ _ _ _ HS3.out.rs)) rfl (spi_end HS3.out)
    · by_cases hn : 1 < D.names.length
      · have hni : (1 : Int) < (D.names.length : Int) := by omega
        obtain ⟨g, rfl, hg, hf, hkd, hcl⟩ := OwnE.cells HD3.out.e (by omega)
        have c1' : W.cell? ⟨g, 1, none⟩ = some (.int .i64 (D.names[0]'(by omega)).2) := (hcl 0 (by omega)).2
        have c3' : W.cell? ⟨g, 3, none⟩ = some (.int .i64 (D.names[1]'hn).2) := (hcl 1 hn).2
        have hf3 := hf 3
        clear hcl hf
        generalize (D.names[0]'(by omega)).2 = s0 at c1'
        generalize (D.names[1]'hn).2 = s1 at c3'
        have HS4 := hide (HS3.out.fr (S := fun g' => g' = g) (W' := W.setCell ⟨g, 3, none⟩ (.int .i64 s0)) ((Fr.refl _ _).set rfl) (fun g' e => by subst e; exact ⟨by have := HB1.out; omega, _, hkd, by decide⟩))
        clear hkd
        go_upto_region 17 with fail
        go_region
        go_upto_region 28 with fail
        generalize W.setCell ⟨g, 3, none⟩ (.int .i64 s0) = W4 at HS4 ⊢
        clear p0 p1 p2 p3 p4 f0 f1 f2 f3 f4 z0 z1 z2 z3 z4 g0 g1 g2 g3 g4
        obtain ⟨⟨p0, p1, p2, p3, p4⟩, ⟨f0, f1, f2, f3, f4⟩, ⟨z0, z1, z2, z3, z4⟩, ⟨g0, g1, g2, g3, g4⟩⟩ := HS4.out.cells
        go_wp2
        exact bodyPost_ret (ret_disk (w.heap.size + 1) _ _ _ _ _ _ rfl rfl (set_disk _ _ _ _ _ (HS4.out).rs)) rfl (sp_drew (spi_end (HS4.out)))
      · have hni : ¬ (1 : Int) < (D.names.length : Int) := by omega
        go_wp2
        exact bodyPost_ret (ret_disk (w.heap.size + 1) _ _ _ _ _ _ rfl rfl (set_disk _ _ _ _ _ HS3.out.rs)) rfl (spi_end HS3.out)
    · by_cases hn : 1 < D.names.length
      · have hni : (1 : Int) < (D.names.length : Int) := by omega
        obtain ⟨g, rfl, hg, hf, hkd, hcl⟩ := OwnE.cells HD3.out.e (by omega)
        have hcap := own_cap HD3.out.e
        have HS4 := hide (fun u => HS3.out.names u)
        clear hcl hf hkd
        go_wp2
        exact bodyPost_ret (ret_disk (w.heap.size + 1) _ _ _ _ _ _ rfl rfl (set_disk _ _ _ _ _ (HS4.out _).rs)) rfl (spi_end (HS4.out _))
      · have hni : ¬ (1 : Int) < (D.names.length : Int) := by omega
        go_wp2
        exact bodyPost_ret (ret_disk (w.heap.size + 1) _ _ _ _ _ _ rfl rfl (set_disk _ _ _ _ _ HS3.out.rs)) rfl (spi_end HS3.out)
    · have hat : OpAt (W.alloc (.cells #[.int .i64 5, .string ⟨#[122, 122]⟩, .string ⟨#[]⟩, .int .i64 0] 68)) (some ⟨W.heap.size, 0, none⟩) [(5, ⟨#[122, 122]⟩, ⟨#[]⟩, 0)] := by
        have hL := Laid.new W #[.int .i64 5, .string ⟨#[122, 122]⟩, .string ⟨#[]⟩, .int .i64 0] 68
        refine fun _ => ⟨W.heap.size, 0, rfl, fun i hi => ?_⟩
        obtain rfl : i = 0 := by simpa using hi
        exact ⟨hL.cell 0, hL.cell 1, hL.cell 2, hL.cell 3⟩
      have hal := (Below.refl W.heap.size W).alloc (Nat.le_refl _) (.cells #[.int .i64 5, .string ⟨#[122, 122]⟩, .string ⟨#[]⟩, .int .i64 0] 68)
      have HAT := hide hat
      have HSA := hide (HS3.out.below hal)
      have HOA := hide (HD3.out.p.below hal)
      have HPL := hide (show D.pend.length + [((5 : Int), (⟨#[122, 122]⟩ : ByteArray), (⟨#[]⟩ : ByteArray), (0 : Int))].length ≤ 1048576 from by have := (valid_wkd HV.out).np; simp; omega)
      have HSZ := hide (show w1.heap.size ≤ (W.alloc (.cells #[.int .i64 5, .string ⟨#[122, 122]⟩, .string ⟨#[]⟩, .int .i64 0] 68)).heap.size from by have := HB2.out; simp; omega)
      clear hat hal
      go_wp2_with (at_builtin; (refine wpList_append_dirs _ rfl (.tmp 77) (.tmp 79) rfl w1.heap.size (.slice b4 D.pend.length d4) D.pend [(5, ⟨#[122, 122]⟩, ⟨#[]⟩, 0)] rfl ?_ (some ⟨W.heap.size, 0, none⟩) 1 rfl ?_ ?_ ?_ ?_; (exact HOA.out); (exact HAT.out); (exact HPL.out); (exact HSZ.out); intro v5 w5 ho5 hg5; obtain ⟨a6, c6, rfl⟩ := ho5.slice; have HS5 := hide (HSA.out.fr (S := fun g => (Value.slice b4 D.pend.length d4).ownBlock = some g) (Fr.of_grown hg5 (fun k e => e)) (fun g e => ⟨by have := HB1.out; have := (own_ge HOA.out e).1; omega, _, own_kind HOA.out e, by decide⟩)); clear ho5 hg5; clear p0 p1 p2 p3 p4 f0 f1 f2 f3 f4 z0 z1 z2 z3 z4 g0 g1 g2 g3 g4; obtain ⟨⟨p0, p1, p2, p3, p4⟩, ⟨f0, f1, f2, f3, f4⟩, ⟨z0, z1, z2, z3, z4⟩, ⟨g0, g1, g2, g3, g4⟩⟩ := HS5.out.cells; have HS6 := hide (fun u => HS5.out.pend u)))
      exact bodyPost_ret (ret_disk (w.heap.size + 1) _ _ _ _ _ _ rfl rfl (set_disk _ _ _ _ _ (HS6.out _).rs)) rfl (spi_end (HS6.out _))
    · by_cases hn : 1 < D.kept.length
      · have hni : (1 : Int) < (D.kept.length : Int) := by omega
        obtain ⟨g, rfl, hg, hf, hkd, hcl⟩ := OwnE.cells HD3.out.k (by omega)
        have c0' : W.cell? ⟨g, 0, none⟩ = some (.string (D.kept[0]'(by omega)).1) := (hcl 0 (by omega)).1
        have c1' : W.cell? ⟨g, 1, none⟩ = some (.int .i64 (D.kept[0]'(by omega)).2) := (hcl 0 (by omega)).2
        have c2' : W.cell? ⟨g, 2, none⟩ = some (.string (D.kept[1]'hn).1) := (hcl 1 hn).1
        have c3' : W.cell? ⟨g, 3, none⟩ = some (.int .i64 (D.kept[1]'hn).2) := (hcl 1 hn).2
        clear hcl
        generalize (D.kept[0]'(by omega)).1 = s0 at c0'
        generalize (D.kept[0]'(by omega)).2 = s1 at c1'
        generalize (D.kept[1]'hn).1 = s2 at c2'
        generalize (D.kept[1]'hn).2 = s3 at c3'
        have hf0 := hf 0
        have hf1 := hf 1
        have hf2 := hf 2
        have hf3 := hf 3
        have hal := (Below.refl W.heap.size W).alloc (Nat.le_refl _) (.cells #[.string s0, .int .i64 s1] 37)
        have L4 := Laid.new W #[.string s0, .int .i64 s1] 37
        have HS4 := hide (HS3.out.below hal)
        have hgl := (own_ge HD3.out.k (g := g) rfl).2
        have HK4 := hide (show KindAt (W.alloc (.cells #[.string s0, .int .i64 s1] 37)) g 37 from hkd.on (hal.block g hgl))
        have t0 : (W.alloc (.cells #[.string s0, .int .i64 s1] 37)).cell? ⟨g, 0, none⟩ = some (.string s0) := (hal.cell (p := ⟨g, 0, none⟩) hgl).trans c0'
        have t1 : (W.alloc (.cells #[.string s0, .int .i64 s1] 37)).cell? ⟨g, 1, none⟩ = some (.int .i64 s1) := (hal.cell (p := ⟨g, 1, none⟩) hgl).trans c1'
        have t2 : (W.alloc (.cells #[.string s0, .int .i64 s1] 37)).cell? ⟨g, 2, none⟩ = some (.string s2) := (hal.cell (p := ⟨g, 2, none⟩) hgl).trans c2'
        have t3 : (W.alloc (.cells #[.string s0, .int .i64 s1] 37)).cell? ⟨g, 3, none⟩ = some (.int .i64 s3) := (hal.cell (p := ⟨g, 3, none⟩) hgl).trans c3'
        have h0 := hf 0
        have fz0 := (hal.frozen (p := ⟨g, 0, none⟩) hgl).trans (hf 0)
        have fz1 := (hal.frozen (p := ⟨g, 1, none⟩) hgl).trans (hf 1)
        have fz2 := (hal.frozen (p := ⟨g, 2, none⟩) hgl).trans (hf 2)
        have fz3 := (hal.frozen (p := ⟨g, 3, none⟩) hgl).trans (hf 3)
        have q0 : (W.alloc (.cells #[.string s0, .int .i64 s1] 37)).cell? ⟨W.heap.size, 0, none⟩ = some (.string s0) := L4.cell 0
        have q1 : (W.alloc (.cells #[.string s0, .int .i64 s1] 37)).cell? ⟨W.heap.size, 1, none⟩ = some (.int .i64 s1) := L4.cell 1
        have hb1 := HB1.out
        have n1 : ¬ g = w.heap.size := by omega
        have n2 : ¬ w.heap.size = g := by omega
        have n3 : ¬ g = w.heap.size + 1 := by omega
        have n4 : ¬ w.heap.size + 1 = g := by omega
        have n5 : ¬ g = W.heap.size := by omega
        have n6 : ¬ W.heap.size = g := by omega
        have HS5 := hide (HS4.out.fr (S := fun g' => g' = g) (W' := ((((W.alloc (.cells #[.string s0, .int .i64 s1] 37)).setCell ⟨g, 0, none⟩ (.string s2)).setCell ⟨g, 1, none⟩ (.int .i64 s3)).setCell ⟨g, 2, none⟩ (.string s0)).setCell ⟨g, 3, none⟩ (.int .i64 s1)) (((((Fr.refl (fun g' => g' = g) _).set (g := g) rfl).set (g := g) rfl).set (g := g) rfl).set (g := g) rfl) (fun g' e => by subst e; exact ⟨by omega, _, HK4.out, by decide⟩))
        go_upto_region 26 with fail
        generalize W.alloc (.cells #[.string s0, .int .i64 s1] 37) = W4 at HS4 HK4 HS5 t0 t1 t2 t3 fz0 fz1 fz2 fz3 q0 q1 ⊢
        clear p0 p1 p2 p3 p4 f0 f1 f2 f3 f4 z0 z1 z2 z3 z4 g0 g1 g2 g3 g4
        clear c0' c1' c2' c3' hf0 hf1 hf2 hf3 h0 hf hal L4 hkd
        obtain ⟨⟨p0, p1, p2, p3, p4⟩, ⟨f0, f1, f2, f3, f4⟩, ⟨z0, z1, z2, z3, z4⟩, ⟨g0, g1, g2, g3, g4⟩⟩ := HS4.out.cells
        have HS6 := hide HS5.out.drew
        clear HS5
        go_region
        go_upto_region 28 with fail
        generalize (((((W4).setCell ⟨g, 0, none⟩ (.string s2)).setCell ⟨g, 1, none⟩ (.int .i64 s3)).setCell ⟨g, 2, none⟩ (.string s0)).setCell ⟨g, 3, none⟩ (.int .i64 s1)).drew = W6 at HS6 ⊢
        clear p0 p1 p2 p3 p4 f0 f1 f2 f3 f4 z0 z1 z2 z3 z4 g0 g1 g2 g3 g4
        clear t0 t1 t2 t3 fz0 fz1 fz2 fz3 q0 q1
        obtain ⟨⟨p0, p1, p2, p3, p4⟩, ⟨f0, f1, f2, f3, f4⟩, ⟨z0, z1, z2, z3, z4⟩, ⟨g0, g1, g2, g3, g4⟩⟩ := HS6.out.cells
        go_wp2
        exact bodyPost_ret (ret_disk (w.heap.size + 1) _ _ _ _ _ _ rfl rfl (set_disk _ _ _ _ _ HS6.out.rs)) rfl (spi_end HS6.out)
      · have hni : ¬ (1 : Int) < (D.kept.length : Int) := by omega
        go_wp2
        exact bodyPost_ret (ret_disk (w.heap.size + 1) _ _ _ _ _ _ rfl rfl (set_disk _ _ _ _ _ HS3.out.rs)) rfl (spi_end HS3.out)
    · by_cases hn : 0 < D.pend.length
      · have hni : (0 : Int) < (D.pend.length : Int) := by omega
        obtain ⟨g, rfl, hg, hf, hkd⟩ := HD3.out.p.cells0 hn
        have c2' : W.cell? ⟨g, 2, none⟩ = some (.string (D.pend[0]'hn).2.2.1) := (OwnO.cells HD3.out.p hn).2.2.1
        generalize (D.pend[0]'hn).2.2.1 = s2 at c2'
        have hf2 := hf 2
        clear hf
        have HS4 := hide (HS3.out.fr (S := fun g' => g' = g) (W' := W.setCell ⟨g, 2, none⟩ (.string ⟨#[120]⟩)) ((Fr.refl _ _).set rfl) (fun g' e => by subst e; exact ⟨by have := HB1.out; omega, _, hkd, by decide⟩))
        clear hkd
        go_upto_region 28 with fail
        generalize W.setCell ⟨g, 2, none⟩ (.string ⟨#[120]⟩) = W4 at HS4 ⊢
        clear p0 p1 p2 p3 p4 f0 f1 f2 f3 f4 z0 z1 z2 z3 z4 g0 g1 g2 g3 g4
        obtain ⟨⟨p0, p1, p2, p3, p4⟩, ⟨f0, f1, f2, f3, f4⟩, ⟨z0, z1, z2, z3, z4⟩, ⟨g0, g1, g2, g3, g4⟩⟩ := HS4.out.cells
        go_wp2
        exact bodyPost_ret (ret_disk (w.heap.size + 1) _ _ _ _ _ _ rfl rfl (set_disk _ _ _ _ _ HS4.out.rs)) rfl (spi_end HS4.out)
      · have hni : ¬ (0 : Int) < (D.pend.length : Int) := by omega
        go_wp2
        exact bodyPost_ret (ret_disk (w.heap.size + 1) _ _ _ _ _ _ rfl rfl (set_disk _ _ _ _ _ HS3.out.rs)) rfl (spi_end HS3.out)
  · have hc5' : ¬ (c : Int) % 5 = 4 := hc5
    go_wp2
    exact bodyPost_ret (ret_disk (w.heap.size + 1) _ _ _ _ _ _ rfl rfl (set_disk _ _ _ _ _ HS1.out.rs)) rfl (spi_end HS1.out)
end Go.Proofs.YtpccongphchagaaGreatDoor
