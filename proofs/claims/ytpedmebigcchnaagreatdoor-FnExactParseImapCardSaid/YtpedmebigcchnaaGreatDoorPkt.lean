import Derived.Test.YtpedmebigcchnaaGreatDoorPks
import Derived.Test.YtpedmebigcchnaaGreatDoorShelfR
import Derived.Test.YtpedmebigcchnaaGreatDoorPkb
import Derived.Lib.SliceRun
namespace Go.Proofs.YtpedmebigcchnaaGreatDoor
open Go.RowKit
theorem brk_lib (t : List UInt8) : brk t = if Lib.hasPrefix t [40] && Lib.hasSuffix (Lib.trimPrefix t [40]) [41] then some (Lib.trimSuffix (Lib.trimPrefix t [40]) [41]) else none := by
  cases t with
  | nil => rfl
  | cons x r =>
    by_cases hx : x = 40
    · subst hx
      have hp : Lib.hasPrefix (40 :: r) [40] = true := by simp [Lib.hasPrefix]
      have ht : Lib.trimPrefix (40 :: r) [40] = r := by unfold Lib.trimPrefix; rw [hp]; rfl
      rw [hp, ht, Bool.true_and]
      unfold brk
      by_cases hs : Lib.hasSuffix r [41] = true
      · have hsf : [41] <:+ r := List.isSuffixOf_iff_suffix.1 hs
        obtain ⟨l, rfl⟩ := hsf
        rw [if_pos hs, if_pos ⟨by simp, rfl, by rw [← List.cons_append, List.getLast?_concat]⟩]
        unfold Lib.trimSuffix
        rw [hs]
        simp
      · rw [if_neg hs, if_neg]
        rintro ⟨h1, _, h3⟩
        apply hs
        have hr : r ≠ [] := fun e => by rw [e] at h1; simp at h1
        rw [List.getLast?_cons_of_ne_nil hr] at h3
        obtain ⟨l, hl⟩ := List.getLast?_eq_some_iff.1 h3
        exact List.isSuffixOf_iff_suffix.2 ⟨l, hl.symm⟩
    · have hp : Lib.hasPrefix (x :: r) [40] = false := by
        simp only [Lib.hasPrefix, List.isPrefixOf]
        simp
        exact fun e => hx e.symm
      rw [hp, Bool.false_and]
      unfold brk
      rw [if_neg (fun h => hx (by have := h.2.1; simpa using this))]
      rfl
theorem trim_len (t : List UInt8) : (Lib.trimSuffix (Lib.trimPrefix t [40]) [41]).length ≤ t.length := by
  have h1 : (Lib.trimPrefix t [40]).length ≤ t.length := by unfold Lib.trimPrefix; split <;> simp
  have h2 : (Lib.trimSuffix (Lib.trimPrefix t [40]) [41]).length ≤ (Lib.trimPrefix t [40]).length := by
    unfold Lib.trimSuffix
    split
    · rw [List.length_take]; omega
    · omega
  omega
def MaxL (w : World) : Prop := ∃ m : Int, w.cell? ⟨0, 0, none⟩ = some (.int .i64 m)
theorem MaxL.below {w w' : World} (h : MaxL w) (hb : Below w.heap.size w w') : MaxL w' := by
  obtain ⟨m, hm⟩ := h
  exact ⟨m, by rw [hb.cell (p := ⟨0, 0, none⟩) (lt_of_cell0 hm)]; exact hm⟩
/-- What bracketed answers. -/
def BrPost (w : World) (t : List UInt8) (e : Ending) (w' : World) : Prop := ∃ (a : Option Addr) (c : Nat) (ws : List ByteArray) (good : Bool), e = .returned (.tuple #[.slice a ws.length c, .bool good]) ∧ (good = false → brk t = none) ∧ (good = true → ∃ i, brk t = some i ∧ ws.map (·.data.toList) = if i = [] then [] else splitOf 32 i) ∧ WordsAt w' w.heap.size a ws ∧ ws.length ≤ t.length + 1 ∧ (∀ y ∈ ws, y.size ≤ t.length) ∧ Below w.heap.size w w'
set_option maxRecDepth 20000 in
set_option maxHeartbeats 1000000 in
theorem bracketed_any (s : ByteArray) (w : World) (hs : s.size ≤ 1048576) (hm : MaxL w) :
    Calls Tryz.prog 74 #[.string s] w (BrPost w s.data.toList) := by
  have hbl := brk_lib s.data.toList
  have htl := trim_len s.data.toList
  have hsl : s.data.toList.length = s.size := rfl
  have HP := hide (fun W => Tryz.strings_CutPrefix s ⟨#[40]⟩ W)
  have HS := hide (fun W => Tryz.strings_CutSuffix ⟨(Lib.trimPrefix s.data.toList (⟨#[40]⟩ : ByteArray).data.toList).toArray⟩ ⟨#[41]⟩ W)
  rw [show (⟨#[40]⟩ : ByteArray).data.toList = [40] from rfl] at HP HS
  rw [show (⟨#[41]⟩ : ByteArray).data.toList = [41] from rfl] at HS
  have hps : (⟨(Lib.trimPrefix s.data.toList [40]).toArray⟩ : ByteArray).size ≤ 9223372036854775807 := by
    have h1 : (Lib.trimPrefix s.data.toList [40]).length ≤ s.data.toList.length := by unfold Lib.trimPrefix; split <;> simp
    have h2 : (⟨(Lib.trimPrefix s.data.toList [40]).toArray⟩ : ByteArray).size = (Lib.trimPrefix s.data.toList [40]).length := by simp [ByteArray.size]
    omega
  replace HS := hide (fun W => HS.out W hps)
  rw [show (⟨(Lib.trimPrefix s.data.toList [40]).toArray⟩ : ByteArray).data.toList = Lib.trimPrefix s.data.toList [40] from by simp] at HS
  generalize Lib.hasPrefix s.data.toList [40] = op at hbl HP
  generalize Lib.hasSuffix (Lib.trimPrefix s.data.toList [40]) [41] = cl at hbl HS
  generalize Lib.trimSuffix (Lib.trimPrefix s.data.toList [40]) [41] = inner at hbl HS htl
  generalize (⟨(Lib.trimPrefix s.data.toList [40]).toArray⟩ : ByteArray) = ps at HP HS
  clear hps
  have HBL := hide hbl
  have HM := hide hm
  clear hbl hm
  go_enter Tryz.func74, Tryz.ntmps74
  go_wp2_with fail
  refine (HP.out w).mono ?_
  rintro e w1 ⟨rfl, rfl⟩
  go_wp2_with fail
  refine (HS.out w1).mono ?_
  rintro e w2 ⟨rfl, rfl⟩
  have hit : (⟨inner.toArray⟩ : ByteArray).toList = inner := by rw [ByteArray.toList_eq]
  have hid : (⟨inner.toArray⟩ : ByteArray).data.toList = inner := rfl
  have hisz : (⟨inner.toArray⟩ : ByteArray).size = inner.length := by simp [ByteArray.size]
  generalize (⟨inner.toArray⟩ : ByteArray) = I at hit hid hisz ⊢
  by_cases hie : inner = []
  · have hte : I.toList.isEmpty = true := by rw [hit, hie]; rfl
    have HN := hide (show ∀ g : Bool, g = (op && cl) → BrPost w2 s.data.toList (.returned (.tuple #[.slice none 0 0, .bool g])) w2 from fun g hg => by
      refine ⟨none, 0, [], g, rfl, fun h => ?_, fun h => ⟨inner, ?_, ?_⟩, (fun j hj => by cases hj), by simp, (fun y hy => by cases hy), Below.refl _ _⟩
      · rw [HBL.out, ← hg, h]; rfl
      · rw [HBL.out, ← hg, h]; rfl
      · rw [if_pos hie]; rfl)
    clear hie hit hid hisz HBL HP HS
    cases op <;> cases cl
    all_goals
      go_wp2
      go_ret2
      exact HN.out _ rfl
  · have hte : I.toList.isEmpty = false := by rw [hit]; simpa using hie
    obtain ⟨m, hmm⟩ := HM.out
    have HSP := hide (Tryz.strings_Split I ⟨#[32]⟩ m w2 (by omega) hmm (by decide))
    have hsb := splitB_of 32 I.size I (Nat.le_refl _)
    have hsa := Lib.splitB_all ⟨#[32]⟩ (by decide) 0 (Lib.countB I ⟨#[32]⟩) I rfl
    rw [hid] at hsb
    generalize Lib.splitB ⟨#[32]⟩ 0 (Lib.countB I ⟨#[32]⟩) I = ws at HSP hsb hsa
    rw [← hsa] at HSP
    have hwl : ws.length ≤ s.data.toList.length + 1 := by
      have h1 := congrArg List.length hsb
      rw [List.length_map] at h1
      have h2 := splitOf_len 32 inner
      omega
    have hwz : ∀ y ∈ ws, y.size ≤ s.data.toList.length := fun y hy => by
      have hmem : y.data.toList ∈ splitOf 32 inner := by rw [← hsb]; exact List.mem_map.2 ⟨y, hy, rfl⟩
      have h1 := splitOf_mem hmem
      have h2 : y.data.toList.length = y.size := rfl
      omega
    have HWA := hide (show WordsAt (w2.alloc (.cells (ws.map Value.string).toArray 9)) w2.heap.size (some ⟨w2.heap.size, 0, none⟩) ws from fun j hj => ⟨w2.heap.size, rfl, Nat.le_refl _, by
      rw [cell_of_row _ _ _ _ _ _ (heap_alloc_new w2 _)]
      simp [hj]⟩)
    have HBA := hide ((Below.refl w2.heap.size w2).alloc (Nat.le_refl _) (.cells (ws.map Value.string).toArray 9))
    generalize w2.alloc (.cells (ws.map Value.string).toArray 9) = w3 at HSP HWA HBA
    have HN := hide (show ∀ g : Bool, g = (op && cl) → BrPost w2 s.data.toList (.returned (.tuple #[.slice (some ⟨w2.heap.size, 0, none⟩) ws.length ws.length, .bool g])) w3 from fun g hg => by
      refine ⟨_, _, ws, g, rfl, fun h => ?_, fun h => ⟨inner, ?_, ?_⟩, HWA.out, hwl, hwz, HBA.out⟩
      · rw [HBL.out, ← hg, h]; rfl
      · rw [HBL.out, ← hg, h]; rfl
      · rw [if_neg hie]; exact hsb)
    clear hie hit hid hisz HBL HP HS hmm hsb hsa hwl hwz HWA HBA
    go_wp2_with fail
    refine HSP.out.mono ?_
    rintro e w4 ⟨rfl, rfl⟩
    generalize ws.length = wl at HN ⊢
    cases op <;> cases cl
    all_goals
      go_wp2
      go_ret2
      exact HN.out _ rfl
end Go.Proofs.YtpedmebigcchnaaGreatDoor
namespace Go.Proofs.YtpedmebigcchnaaGreatDoor
open Go.RowKit
set_option maxRecDepth 20000 in
set_option maxHeartbeats 1000000 in
theorem implRf_any (s : ByteArray) (w : World) (hs : s.size ≤ 1048576) (hm : MaxL w) :
    Calls Tryz.prog 72 #[.string s] w (RfPost w (rfOf s.data.toList)) := by
  have hx0 := bx_new w false 0
  have hb0 := (Below.refl w.heap.size w).alloc (Nat.le_refl _) (.cells #[.bool false, .int .u32 0] 45)
  have hm0 := hm.below hb0
  go_enter Tryz.func72, Tryz.ntmps72
  go_wp2_with fail
  have hz0 : (w.alloc (.cells #[.bool false, .int .u32 0] 45)).heap.size = w.heap.size + 1 := World.size_alloc ..
  generalize w.alloc (.cells #[.bool false, .int .u32 0] 45) = w0 at hx0 hb0 hz0 hm0 ⊢
  refine (bracketed_any s w0 (by omega) hm0).mono ?_
  rintro e w1 ⟨a, c, ws, good, rfl, hgf, hgt, hwd, hwl, hwz, hb1⟩
  have HB1 := hide (hb0.trans (hb1.mono hb0.size))
  have hx1 := hx0.below hb1 (by omega)
  have hz1 : w.heap.size + 1 ≤ w1.heap.size := by have := hb1.size; omega
  have hsl : s.data.toList.length = s.size := rfl
  rw [hz0] at hwd
  clear hx0 hb0 hm0 hb1 hm
  have p0 := hx1.c0
  have p1 := hx1.c1
  have g0 := hx1.fz 0
  have g1 := hx1.fz 1
  have HX1 := hide hx1
  have HWD1 := hide hwd
  have HWZ := hide hwz
  clear hx1 hwd hwz
  cases good with
  | false =>
    have HR := hide (show rfOf s.data.toList = none by unfold rfOf; rw [hgf rfl])
    clear hgf hgt
    go_wp2
    exact bodyPost_ret (ret_flags w.heap.size _ false 0 rfl rfl (HX1.out.set false 0)) rfl (rf_no HR.out ((HB1.out.setCell (p := ⟨w.heap.size, 0, none⟩) (Nat.le_refl _) _).setCell (p := ⟨w.heap.size, 1, none⟩) (Nat.le_refl _) _))
  | true =>
    obtain ⟨i, hbk, hws⟩ := hgt rfl
    have HR2 := hide (show rfOf s.data.toList = accTo (ws.map bytesL) by
      unfold rfOf
      rw [hbk]
      simp only
      by_cases hi : i = []
      · rw [if_pos hi] at hws ⊢
        have h0 : ws = [] := List.map_eq_nil_iff.1 hws
        rw [h0]; rfl
      · rw [if_neg hi] at hws ⊢
        rw [← hws, List.map_map]; rfl)
    clear hgf hgt hbk hws
    have h2x := HX1.out.alloc (.cells #[.bool true, .int .u32 0] 45)
    have h2o := bx_new w1 true 0
    have HB2 := hide (HB1.out.alloc (by omega) (.cells #[.bool true, .int .u32 0] 45))
    have hw2 := HWD1.out.below ((Below.refl w1.heap.size w1).alloc (Nat.le_refl _) (.cells #[.bool true, .int .u32 0] 45))
    have hwne : ∀ j (h : j < ws.length), ∀ gb, a = some ⟨gb, 0, none⟩ → gb < w1.heap.size := fun j h gb e => by
      obtain ⟨gb', e', _, hc⟩ := HWD1.out j h
      rw [e] at e'
      simp only [Option.some.injEq, Addr.mk.injEq, and_true] at e'
      rw [e']
      exact lt_of_cell0 hc
    have HNE := hide hwne
    have HW2 := hide hw2
    have HX2 := hide h2x
    have HO2 := hide h2o
    clear h2x h2o hw2 hwne HX1 HWD1 p0 p1 g0 g1
    go_wp2
    have hgt2 : w.heap.size < w1.heap.size := by omega
    generalize w1.alloc (.cells #[.bool true, .int .u32 0] 45) = w2 at HX2 HO2 HW2 HB2 ⊢
    generalize w1.heap.size = B1 at HO2 HNE hgt2 ⊢
    go_loopw [7, 8, 9, 21] (fun _ _ _ i wr => ∃ (k F : Nat), k ≤ ws.length ∧ i = .int .i64 (k : Int) ∧ F < 2147483648 ∧ accTo ((ws.map bytesL).take k) = some F ∧ Bx wr w.heap.size false 0 ∧ Bx wr B1 true (F : Int) ∧ WordsAt wr (w.heap.size + 1) a ws ∧ Below w.heap.size w wr) (fun _ _ _ i _ => ws.length - (intOf i).toNat)
    case atStart => exact ⟨0, 0, Nat.zero_le _, rfl, by omega, rfl, HX2.out, HO2.out, HW2.out, HB2.out⟩
    case round =>
      obtain ⟨k, F, hk, rfl, hF, hacc, hx, ho, hwd, hb⟩ := hrel
      clear HX2 HO2 HW2 HB2
      by_cases hlt : k < ws.length
      · have hne := HNE.out k hlt
        obtain ⟨gb, rfl, _, hcell⟩ := hwd k hlt
        have hml : k < (ws.map bytesL).length := by rw [List.length_map]; exact hlt
        have hget : (ws.map bytesL)[k] = bytesL ws[k] := List.getElem_map ..
        have HACC := hide (fun kk (h : findK (bytesL ws[k]) = some kk) => acc_step hml hacc (hget.trans rfl ▸ h))
        have HSTOP := hide (fun (h : findK (bytesL ws[k]) = none) => HR2.out.trans (acc_stop hml (hget ▸ h)))
        have hysz := HWZ.out _ (List.getElem_mem hlt)
        have hyb := bytesL_lt ws[k]
        have hyl := bytesL_len ws[k]
        have hye := strB_bytesL ws[k]
        rw [← hye] at hcell
        generalize bytesL ws[k] = y at hcell HACC HSTOP hyb hyl
        have hyl2 : y.length ≤ 1048576 := by omega
        have HNM := hide (readName_any y wr hyl2 hyb)
        have HKP := hide (fun (W : World) (hW : Below wr.heap.size wr W) => And.intro (hx.below hW hx.lt) (And.intro (ho.below hW ho.lt) (And.intro (hwd.below hW) (hb.trans (hW.mono hb.size)))))
        have HSET := hide (show ∀ (W : World) (u : Value), WordsAt W (w.heap.size + 1) (some ⟨gb, 0, none⟩) ws → WordsAt (W.setCell ⟨B1, 1, none⟩ u) (w.heap.size + 1) (some ⟨gb, 0, none⟩) ws from fun W u h j hj => by
          obtain ⟨gb', e, h1, h2⟩ := h j hj
          have hlt2 := hne gb rfl
          simp only [Option.some.injEq, Addr.mk.injEq, and_true] at e
          subst e
          exact ⟨gb, rfl, h1, by rw [World.cell?_setCell_other _ _ _ _ (by intro e; simp only [Addr.mk.injEq] at e; omega)]; exact h2⟩)
        clear hx ho hwd hb hacc hye hyl hysz hget hne
        go_wp2_with fail
        refine HNM.out.mono ?_
        rintro e w5 ⟨hor, hb5⟩
        obtain ⟨hx, ho, hwd, hb⟩ := HKP.out w5 hb5
        clear HKP HNM hb5 hcell
        rcases hor with ⟨kk, hkk, hfs, rfl⟩ | ⟨hfn, rfl⟩
        · have HA2 := hide (HACC.out kk hfs)
          have hor2 := or_lt31 hF hkk
          have hob := or_nat' F (2 ^ kk) (by omega) (Nat.lt_of_lt_of_le (Nat.pow_lt_pow_right (by decide) hkk) (by decide))
          have q1 := ho.c1
          have g1 := ho.fz 1
          have HX := hide hx
          have HO := hide ho
          have HWD := hide hwd
          have HB := hide hb
          clear hx ho hwd hb hfs HACC HSTOP
          generalize ((2 ^ kk : Nat) : Int) = mk at hob ⊢
          have HV := hide hob
          clear hob
          go_wp2
          rw [HV.out]
          exact ⟨⟨k + 1, F ||| 2 ^ kk, by omega, by go_num, hor2, HA2.out, HX.out.other (by omega), HO.out.set1 _, HSET.out _ _ HWD.out, HB.out.setCell (p := ⟨B1, 1, none⟩) (by simp; omega) _⟩, by simp [intOf]; omega⟩
        · have HS := hide (HSTOP.out hfn)
          have p0 := hx.c0
          have p1 := hx.c1
          have g0 := hx.fz 0
          have g1 := hx.fz 1
          have HX := hide hx
          have HB := hide hb
          clear hx ho hwd hb hfn HACC HSTOP
          go_wp2
          exact bodyPost_ret (ret_flags w.heap.size _ false 0 rfl rfl (HX.out.set false 0)) rfl (rf_no HS.out ((HB.out.setCell (p := ⟨w.heap.size, 0, none⟩) (Nat.le_refl _) _).setCell (p := ⟨w.heap.size, 1, none⟩) (Nat.le_refl _) _))
      · obtain rfl : k = ws.length := by omega
        have HA2 := hide (show rfOf s.data.toList = some F by rw [HR2.out, ← hacc, List.take_of_length_le (by simp)])
        have p0 := hx.c0
        have p1 := hx.c1
        have g0 := hx.fz 0
        have g1 := hx.fz 1
        have q0 := ho.c0
        have q1 := ho.c1
        have HX := hide hx
        have HB := hide hb
        clear hx ho hwd hb hacc
        go_wp2
        exact bodyPost_ret (ret_flags w.heap.size _ true (F : Int) rfl rfl (HX.out.set true (F : Int))) rfl (rf_yes HA2.out ((HB.out.setCell (p := ⟨w.heap.size, 0, none⟩) (Nat.le_refl _) _).setCell (p := ⟨w.heap.size, 1, none⟩) (Nat.le_refl _) _))
end Go.Proofs.YtpedmebigcchnaaGreatDoor
namespace Go.Proofs.YtpedmebigcchnaaGreatDoor
open Go.RowKit
theorem clone_any (a : Option Addr) (cap : Nat) (l : List Nat) (w : World) (hl : l.length ≤ 1048576) (h0 : 0 < l.length) (hr : RowAt w a l) :
    Calls Tryz.prog 60 #[.slice a l.length cap] w fun e w' => ∃ v, e = .returned v ∧ OwnB w' w.heap.size v l ∧ Below w.heap.size w w' := by
  obtain ⟨b, off, rfl, hc⟩ := hr h0
  have hn := fun (n c : Nat) (x : Option Addr) (w : World) => Lib.run_eql_slice_nil (P := Tryz.prog) w 22 5 x n c 0 0 Tryz.underlying22
  go_enter Tryz.func60, Tryz.ntmps60
  have hE : OwnB (w.alloc (.cells #[] 5)) w.heap.size (.slice (some ⟨w.heap.size, 0, none⟩) ([] : List Nat).length ([] : List Nat).length) [] := own_of_block (l := []) (Nat.le_refl _) (by simp) (heap_alloc_new w _)
  have hA : Below w.heap.size w (w.alloc (.cells #[] 5)) := (Below.refl _ _).alloc (Nat.le_refl _) _
  go_wp2_with (at_builtin; refine wpList_append_bytes _ rfl _ _ rfl w.heap.size (.slice (some ⟨w.heap.size, 0, none⟩) 0 0) [] l rfl hE _ _ rfl (hr.below hA) h0 (by simp; omega) (by simp) ?_; intro v2 w2 ho2 hg2)
  go_ret
  exact ⟨_, rfl, ho2, hA.grown hg2 (by simp) (fun k h => by simp [Value.ownBlock] at h; omega)⟩
theorem clone_own (a : Option Addr) (cap : Nat) (l : List Nat) (w : World) (hl : l.length ≤ 1048576) (hr : RowAt w a l) :
    Calls Tryz.prog 60 #[.slice a l.length cap] w fun e w' => ∃ v, e = .returned v ∧ OwnB w' w.heap.size v l ∧ Below w.heap.size w w' := by
  by_cases h0 : 0 < l.length
  · exact clone_any a cap l w hl h0 hr
  · obtain rfl : l = [] := List.length_eq_zero_iff.1 (by omega)
    have hn := fun (n c : Nat) (x : Option Addr) (w : World) => Lib.run_eql_slice_nil (P := Tryz.prog) w 22 5 x n c 0 0 Tryz.underlying22
    cases a with
    | none =>
      go_enter Tryz.func60, Tryz.ntmps60
      go_wp2
      go_ret
      exact ⟨_, rfl, OwnB.nil _ _, Below.refl _ _⟩
    | some x =>
      go_enter Tryz.func60, Tryz.ntmps60
      have hE : OwnB (w.alloc (.cells #[] 5)) w.heap.size (.slice (some ⟨w.heap.size, 0, none⟩) ([] : List Nat).length ([] : List Nat).length) [] := own_of_block (l := []) (Nat.le_refl _) (by simp) (heap_alloc_new w _)
      have hA : Below w.heap.size w (w.alloc (.cells #[] 5)) := (Below.refl _ _).alloc (Nat.le_refl _) _
      obtain ⟨i0, hi, hz0, hz1, hz2⟩ := info_parts Tryz.info5
      go_wp2_with (at_builtin; refine wpList_append_own _ rfl _ _ 22 rfl w.heap.size 5 i0 (.int .u8 0) 1 1 Tryz.underlying22 hi hz0 hz1 hz2 rfl (by decide) (.slice (some ⟨w.heap.size, 0, none⟩) 0 0) 0 [] rfl hE x 0 cap [] rfl (by simp) (by intro j u hj; simp at hj) (by intro u hu; cases hu) (by unfold maxLen; omega) (by omega) (by simp) ?_; intro v2 w2 ho2 hg2 _)
      go_ret
      exact ⟨_, rfl, ho2, hA.grown hg2 (by simp) (fun k h => by simp [Value.ownBlock] at h; omega)⟩
end Go.Proofs.YtpedmebigcchnaaGreatDoor
