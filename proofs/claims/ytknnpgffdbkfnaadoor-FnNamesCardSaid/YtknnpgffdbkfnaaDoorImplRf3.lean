import Derived.Test.YtknnpgffdbkfnaaDoorImplRf2
namespace Go.Proofs.YtknnpgffdbkfnaaDoor
open Go.RowKit
set_option maxRecDepth 20000 in
set_option maxHeartbeats 1000000 in
theorem implRf_any (s : ByteArray) (w : World) (hs : s.size ≤ 1048576) (hm : MaxL w) :
    Calls Tryd.prog 10 #[.string s] w (RfPost w (rfOf s.data.toList)) := by
  have hx0 := bx_new w false 0
  have hb0 := (Below.refl w.heap.size w).alloc (Nat.le_refl _) (.cells #[.bool false, .int .u32 0] 32)
  have hm0 := hm.below hb0
  go_enter Tryd.func10, Tryd.ntmps10
  go_wp2_with fail
  have hz0 : (w.alloc (.cells #[.bool false, .int .u32 0] 32)).heap.size = w.heap.size + 1 := World.size_alloc ..
  generalize w.alloc (.cells #[.bool false, .int .u32 0] 32) = w0 at hx0 hb0 hz0 hm0 ⊢
  refine (bracketed_any s w0 (by omega) hm0).mono ?_
  rintro e w1 ⟨a, c, ws, good, rfl, hgf, hgt, hwd, hwl, hwz, hb1⟩
  have HB1 := hide (hb0.trans (hb1.mono hb0.size))
  have hx1 := hx0.below hb1 (by omega)
  have hz1 : w.heap.size + 1 ≤ w1.heap.size := by have := hb1.size; omega
  have hsl : s.data.toList.length = s.size := rfl
  rw [hz0] at hwd
  clear hx0 hb0 hm0 hb1 hm
  have p0 := hx1.c0
  have p1 := hx1.c1
  have g0 := hx1.fz 0
  have g1 := hx1.fz 1
  have HX1 := hide hx1
  have HWD1 := hide hwd
  have HWZ := hide hwz
  clear hx1 hwd hwz
  cases good with
  | false =>
    have HR := hide (show rfOf s.data.toList = none by unfold rfOf; rw [hgf rfl])
    clear hgf hgt
    go_wp2
    exact bodyPost_ret (ret_flags w.heap.size _ false 0 rfl rfl (HX1.out.set false 0)) rfl (rf_no HR.out ((HB1.out.setCell (p := ⟨w.heap.size, 0, none⟩) (Nat.le_refl _) _).setCell (p := ⟨w.heap.size, 1, none⟩) (Nat.le_refl _) _))
  | true =>
    obtain ⟨i, hbk, hws⟩ := hgt rfl
    have HR2 := hide (show rfOf s.data.toList = accTo (ws.map bytesL) by
      unfold rfOf
      rw [hbk]
      simp only
      by_cases hi : i = []
      · rw [if_pos hi] at hws ⊢
        have h0 : ws = [] := List.map_eq_nil_iff.1 hws
        rw [h0]; rfl
      · rw [if_neg hi] at hws ⊢
        rw [← hws, List.map_map]; rfl)
    clear hgf hgt hbk hws
    have h2x := HX1.out.alloc (.cells #[.bool true, .int .u32 0] 32)
    have h2o := bx_new w1 true 0
    have HB2 := hide (HB1.out.alloc (by omega) (.cells #[.bool true, .int .u32 0] 32))
    have hw2 := HWD1.out.below ((Below.refl w1.heap.size w1).alloc (Nat.le_refl _) (.cells #[.bool true, .int .u32 0] 32))
    have hwne : ∀ j (h : j < ws.length), ∀ gb, a = some ⟨gb, 0, none⟩ → gb < w1.heap.size := fun j h gb e => by
      obtain ⟨gb', e', _, hc⟩ := HWD1.out j h
      rw [e] at e'
      simp only [Option.some.injEq, Addr.mk.injEq, and_true] at e'
      rw [e']
      exact lt_of_cell0 hc
    have HNE := hide hwne
    have HW2 := hide hw2
    have HX2 := hide h2x
    have HO2 := hide h2o
    clear h2x h2o hw2 hwne HX1 HWD1 p0 p1 g0 g1
    go_wp2
    have hgt2 : w.heap.size < w1.heap.size := by omega
    generalize w1.alloc (.cells #[.bool true, .int .u32 0] 32) = w2 at HX2 HO2 HW2 HB2 ⊢
    generalize w1.heap.size = B1 at HO2 HNE hgt2 ⊢
    go_loopw [7, 8, 9, 21] (fun _ _ _ i wr => ∃ (k F : Nat), k ≤ ws.length ∧ i = .int .i64 (k : Int) ∧ F < 2147483648 ∧ accTo ((ws.map bytesL).take k) = some F ∧ Bx wr w.heap.size false 0 ∧ Bx wr B1 true (F : Int) ∧ WordsAt wr (w.heap.size + 1) a ws ∧ Below w.heap.size w wr) (fun _ _ _ i _ => ws.length - (intOf i).toNat)
    case atStart => exact ⟨0, 0, Nat.zero_le _, rfl, by omega, rfl, HX2.out, HO2.out, HW2.out, HB2.out⟩
    case round =>
      obtain ⟨k, F, hk, rfl, hF, hacc, hx, ho, hwd, hb⟩ := hrel
      clear HX2 HO2 HW2 HB2
      by_cases hlt : k < ws.length
      · have hne := HNE.out k hlt
        obtain ⟨gb, rfl, _, hcell⟩ := hwd k hlt
        have hml : k < (ws.map bytesL).length := by rw [List.length_map]; exact hlt
        have hget : (ws.map bytesL)[k] = bytesL ws[k] := List.getElem_map ..
        have HACC := hide (fun kk (h : findK (bytesL ws[k]) = some kk) => acc_step hml hacc (hget.trans rfl ▸ h))
        have HSTOP := hide (fun (h : findK (bytesL ws[k]) = none) => HR2.out.trans (acc_stop hml (hget ▸ h)))
        have hysz := HWZ.out _ (List.getElem_mem hlt)
        have hyb := bytesL_lt ws[k]
        have hyl := bytesL_len ws[k]
        have hye := strB_bytesL ws[k]
        rw [← hye] at hcell
        generalize bytesL ws[k] = y at hcell HACC HSTOP hyb hyl
        have hyl2 : y.length ≤ 1048576 := by omega
        have HNM := hide (readName_any y wr hyl2 hyb)
        have HKP := hide (fun (W : World) (hW : Below wr.heap.size wr W) => And.intro (hx.below hW hx.lt) (And.intro (ho.below hW ho.lt) (And.intro (hwd.below hW) (hb.trans (hW.mono hb.size)))))
        have HSET := hide (show ∀ (W : World) (u : Value), WordsAt W (w.heap.size + 1) (some ⟨gb, 0, none⟩) ws → WordsAt (W.setCell ⟨B1, 1, none⟩ u) (w.heap.size + 1) (some ⟨gb, 0, none⟩) ws from fun W u h j hj => by
          obtain ⟨gb', e, h1, h2⟩ := h j hj
          have hlt2 := hne gb rfl
          simp only [Option.some.injEq, Addr.mk.injEq, and_true] at e
          subst e
          exact ⟨gb, rfl, h1, by rw [World.cell?_setCell_other _ _ _ _ (by intro e; simp only [Addr.mk.injEq] at e; omega)]; exact h2⟩)
        clear hx ho hwd hb hacc hye hyl hysz hget hne
        go_wp2_with fail
        refine HNM.out.mono ?_
        rintro e w5 ⟨hor, hb5⟩
        obtain ⟨hx, ho, hwd, hb⟩ := HKP.out w5 hb5
        clear HKP HNM hb5 hcell
        rcases hor with ⟨kk, hkk, hfs, rfl⟩ | ⟨hfn, rfl⟩
        · have HA2 := hide (HACC.out kk hfs)
          have hor2 := or_lt31 hF hkk
          have hob := or_nat' F (2 ^ kk) (by omega) (Nat.lt_of_lt_of_le (Nat.pow_lt_pow_right (by decide) hkk) (by decide))
          have q1 := ho.c1
          have g1 := ho.fz 1
          have HX := hide hx
          have HO := hide ho
          have HWD := hide hwd
          have HB := hide hb
          clear hx ho hwd hb hfs HACC HSTOP
          generalize ((2 ^ kk : Nat) : Int) = mk at hob ⊢
          have HV := hide hob
          clear hob
          go_wp2
          rw [HV.out]
          exact ⟨⟨k + 1, F ||| 2 ^ kk, by omega, by go_num, hor2, HA2.out, HX.out.other (by omega), HO.out.set1 _, HSET.out _ _ HWD.out, HB.out.setCell (p := ⟨B1, 1, none⟩) (by simp; omega) _⟩, by simp [intOf]; omega⟩
        · have HS := hide (HSTOP.out hfn)
          have p0 := hx.c0
          have p1 := hx.c1
          have g0 := hx.fz 0
          have g1 := hx.fz 1
          have HX := hide hx
          have HB := hide hb
          clear hx ho hwd hb hfn HACC HSTOP
          go_wp2
          exact bodyPost_ret (ret_flags w.heap.size _ false 0 rfl rfl (HX.out.set false 0)) rfl (rf_no HS.out ((HB.out.setCell (p := ⟨w.heap.size, 0, none⟩) (Nat.le_refl _) _).setCell (p := ⟨w.heap.size, 1, none⟩) (Nat.le_refl _) _))
      · obtain rfl : k = ws.length := by omega
        have HA2 := hide (show rfOf s.data.toList = some F by rw [HR2.out, ← hacc, List.take_of_length_le (by simp)])
        have p0 := hx.c0
        have p1 := hx.c1
        have g0 := hx.fz 0
        have g1 := hx.fz 1
        have q0 := ho.c0
        have q1 := ho.c1
        have HX := hide hx
        have HB := hide hb
        clear hx ho hwd hb hacc
        go_wp2
        exact bodyPost_ret (ret_flags w.heap.size _ true (F : Int) rfl rfl (HX.out.set true (F : Int))) rfl (rf_yes HA2.out ((HB.out.setCell (p := ⟨w.heap.size, 0, none⟩) (Nat.le_refl _) _).setCell (p := ⟨w.heap.size, 1, none⟩) (Nat.le_refl _) _))
end Go.Proofs.YtknnpgffdbkfnaaDoor
