import Derived.Test.YtpbpidfjecejcaaGreatDoorPlb
import Derived.Test.YtpbpidfjecejcaaGreatDoorPlc
import Derived.Test.YtpbpidfjecejcaaGreatDoorPku
import Derived.Test.YtpbpidfjecejcaaGreatDoorPkzc
import Derived.Test.YtpbpidfjecejcaaGreatDoorPkzi
import Derived.Test.YtpbpidfjecejcaaGreatDoorPkzj
import Derived.Test.YtpbpidfjecejcaaGreatDoorPkzk
import Derived.Test.YtpbpidfjecejcaaGreatDoorPkp
namespace Go.Proofs.YtpbpidfjecejcaaGreatDoor
open Go.RowKit Go.Sort Go.Lib
set_option linter.unusedVariables false
def nmIndex : ByteArray := ⟨#[105, 110, 100, 101, 120]⟩
def nmUid : ByteArray := ⟨#[117, 105, 100, 108, 105, 115, 116]⟩
def nmText : ByteArray := ⟨#[109, 98, 111, 120, 46, 48]⟩
/-- The head of a form. -/
def headOf (k : Int) (u : Nat) : List Nat := if k = 1 then recOf [86] [u, 1, 0] else recOf [86] [u, 1]
def baseOps (k : Int) (u : Nat) : List OpV := if k = 1 then putOps nmIndex (frameOf [recOf [86] [u, 1, 0]]) ++ putOps nmText [] else putOps nmUid (frameOf [recOf [86] [u, 1]])
def fmtOps (k : Int) (u : Nat) : List OpV := baseOps k u ++ [(6, noStr, noStr, [])]
def bareD (q : Int) : MDisk := ⟨[], [], [], [], q⟩
/-- What Format answers. -/
noncomputable def fmtOf (k : Int) (u : Nat) (q : Int) : MDisk := if u ≠ 0 ∧ (k = 1 ∨ k = 3) ∧ (doOf (bareD q) (fmtOps k u)).2.2 = 0 then (doOf (bareD q) (fmtOps k u)).1 else noDisk
theorem fmt_no {k : Int} {u : Nat} {q : Int} (h : ¬ (u ≠ 0 ∧ (k = 1 ∨ k = 3) ∧ (doOf (bareD q) (fmtOps k u)).2.2 = 0)) : fmtOf k u q = noDisk := by unfold fmtOf; rw [if_neg h]
theorem fmt_yes {k : Int} {u : Nat} {q : Int} (h : u ≠ 0 ∧ (k = 1 ∨ k = 3) ∧ (doOf (bareD q) (fmtOps k u)).2.2 = 0) : fmtOf k u q = (doOf (bareD q) (fmtOps k u)).1 := by unfold fmtOf; rw [if_pos h]
theorem bare_modest (q : Int) : Modest (bareD q) := modest_of (by simp [szOf, szD, bareD, sumE, sumO, sumN])
theorem bare_at (w : World) (q : Int) : DiskAt w (.agg #[.slice none 0 0, .slice none 0 0, .slice none 0 0, .slice none 0 0, .int .i64 q]) (bareD q) :=
  ⟨none, 0, none, 0, none, 0, none, 0, rfl, fun h => absurd h (Nat.lt_irrefl _), fun h => absurd h (Nat.lt_irrefl _), fun h => absurd h (Nat.lt_irrefl _), fun h => absurd h (Nat.lt_irrefl _)⟩
theorem put_size (nm : ByteArray) (d : List Nat) (hn : nm.size ≤ 1048576) (hd : d.length ≤ 1048576) : ∀ o ∈ putOps nm d, o.2.1.size ≤ 1048576 ∧ o.2.2.1.size ≤ 1048576 ∧ o.2.2.2.length ≤ 1048576 := fun o ho => by
  have h0 : noStr.size ≤ 1048576 := by simp [noStr, ByteArray.size]
  simp only [putOps, List.mem_cons, List.not_mem_nil, or_false] at ho
  rcases ho with rfl | rfl | rfl
  · exact ⟨hn, h0, by simp⟩
  · exact ⟨hn, h0, hd⟩
  · exact ⟨hn, h0, by simp⟩
theorem fmt_size (k : Int) (u : Nat) : ∀ o ∈ fmtOps k u, o.2.1.size ≤ 1048576 ∧ o.2.2.1.size ≤ 1048576 ∧ o.2.2.2.length ≤ 1048576 := fun o ho => by
  have h0 : noStr.size ≤ 1048576 := by simp [noStr, ByteArray.size]
  have h1 : nmIndex.size ≤ 1048576 := by simp [nmIndex, ByteArray.size]
  have h2 : nmUid.size ≤ 1048576 := by simp [nmUid, ByteArray.size]
  have h3 : nmText.size ≤ 1048576 := by simp [nmText, ByteArray.size]
  unfold fmtOps baseOps at ho
  rcases List.mem_append.1 ho with ho | ho
  · split at ho
    · rcases List.mem_append.1 ho with ho | ho
      · exact put_size _ _ h1 (Nat.le_trans (frameOf_len _) (by omega)) o ho
      · exact put_size _ _ h3 (by simp) o ho
    · exact put_size _ _ h2 (Nat.le_trans (frameOf_len _) (by omega)) o ho
  · obtain rfl := List.mem_singleton.1 ho
    exact ⟨h0, h0, by simp⟩
theorem fmt_len (k : Int) (u : Nat) : (fmtOps k u).length ≤ 7 := by
  unfold fmtOps baseOps putOps
  split <;> simp
theorem decN0 : decN 0 = [48] := by unfold decN; rw [Lib.decDigits_one (by omega)]; rfl
theorem decN1 : decN 1 = [49] := by unfold decN; rw [Lib.decDigits_one (by omega)]; rfl
theorem strB_append (a b : List Nat) : strB a ++ strB b = strB (a ++ b) := by
  unfold strB
  rw [Go.ByteArray.mk_append_mk, List.map_append]
theorem text1 (u : Nat) : (⟨#[86, 32]⟩ : ByteArray) ++ decS u ++ (⟨#[32, 49, 32, 48]⟩ : ByteArray) = strB (recOf [86] [u, 1, 0]) := by
  rw [decS_strB, show (⟨#[86, 32]⟩ : ByteArray) = strB [86, 32] from rfl, show (⟨#[32, 49, 32, 48]⟩ : ByteArray) = strB [32, 49, 32, 48] from rfl, strB_append, strB_append]
  simp [recOf, decN0, decN1]
theorem text3 (u : Nat) : (⟨#[86, 32]⟩ : ByteArray) ++ decS u ++ (⟨#[32, 49]⟩ : ByteArray) = strB (recOf [86] [u, 1]) := by
  rw [decS_strB, show (⟨#[86, 32]⟩ : ByteArray) = strB [86, 32] from rfl, show (⟨#[32, 49]⟩ : ByteArray) = strB [32, 49] from rfl, strB_append, strB_append]
  simp [recOf, decN1]
theorem decS_size (u : Nat) (h : u < 4294967296) : (decS u).size ≤ 20 := by
  rw [decS_strB, strB_size, decN_len]
  exact nd20 u (by omega)
/-- A list of one row. -/
theorem rows_one {w : World} {g : Nat} {a : Option Addr} {c : Nat} {l : List Nat} (hc : w.cell? ⟨g, 0, none⟩ = some (.slice a l.length c)) (hr : RowAt w a l) : RowsAt w (some ⟨g, 0, none⟩) [l] := fun _ => ⟨g, 0, rfl, fun i hi => by
  have hi0 : i = 0 := by simpa using hi
  subst hi0
  exact ⟨a, c, by simpa using hc, hr⟩⟩
end Go.Proofs.YtpbpidfjecejcaaGreatDoor
namespace Go.Proofs.YtpbpidfjecejcaaGreatDoor
open Go.RowKit Go.Sort Go.Lib
set_option linter.unusedVariables false
theorem dk_sl {w : World} {base : Nat} {v1 v2 v3 v4 : Value} {C : MDisk} (h : Dk w base v1 v2 v3 v4 C) : ∃ a1 m1 c1 a2 m2 c2 a3 m3 c3 a4 m4 c4, v1 = .slice a1 m1 c1 ∧ v2 = .slice a2 m2 c2 ∧ v3 = .slice a3 m3 c3 ∧ v4 = .slice a4 m4 c4 := by
  obtain ⟨a1, c1, e1⟩ := h.n.slice
  obtain ⟨a2, c2, e2⟩ := h.e.slice
  obtain ⟨a3, c3, e3⟩ := h.k.slice
  obtain ⟨a4, c4, e4⟩ := h.p.slice
  exact ⟨a1, _, c1, a2, _, c2, a3, _, c3, a4, _, c4, e1, e2, e3, e4⟩
/-- What spec.Format hands back. -/
def FmPost (w : World) (C : MDisk) (e : Ending) (w' : World) : Prop := ∃ v1 v2 v3 v4, e = .returned (.agg #[v1, v2, v3, v4, .int .i64 C.quota]) ∧ Dk w' w.heap.size v1 v2 v3 v4 C ∧ Below w.heap.size w w'
theorem fm_no {w W : World} {C : MDisk} (h : C = noDisk) (hb : Below w.heap.size w W) : FmPost w C (.returned (.agg #[.slice none 0 0, .slice none 0 0, .slice none 0 0, .slice none 0 0, .int .i64 0])) (setD W w.heap.size (.slice none 0 0) (.slice none 0 0) (.slice none 0 0) (.slice none 0 0) (.int .i64 0)) := by
  subst h
  exact ⟨_, _, _, _, rfl, ⟨(OwnNA.nil _ _).own, World.ownsRow_nil _ _ _ 2, World.ownsRow_nil _ _ _ 2, World.ownsRow_nil _ _ _ 4⟩, hb.trans ((setD_fr _ _ _ _ _ _ _).below (fun g e => by omega) hb.size)⟩
theorem Dk.mono {w : World} {base base' : Nat} {v1 v2 v3 v4 : Value} {D : MDisk} (h : Dk w base v1 v2 v3 v4 D) (hb : base' ≤ base) : Dk w base' v1 v2 v3 v4 D := ⟨h.n.mono hb, h.e.mono hb, h.k.mono hb, h.p.mono hb⟩
theorem fm_dk {w W : World} {base : Nat} {v1 v2 v3 v4 : Value} {C E : MDisk} (h : E = C) (hd : Dk W base v1 v2 v3 v4 C) (hL : Laid W w.heap.size #[.slice none 0 0, .slice none 0 0, .slice none 0 0, .slice none 0 0, .int .i64 0] 27) (hb : Below w.heap.size w W) (hs : w.heap.size ≤ base) : FmPost w E (.returned (.agg #[v1, v2, v3, v4, .int .i64 C.quota])) (setD W w.heap.size v1 v2 v3 v4 (.int .i64 C.quota)) := by
  subst h
  exact ⟨_, _, _, _, rfl, (hd.mono hs).setD hL _ _ _ _ _, hb.trans ((setD_fr _ _ _ _ _ _ _).below (fun g e => by omega) hb.size)⟩
set_option maxHeartbeats 1600000 in
set_option maxRecDepth 20000 in
theorem l5Rec_any (l : List Nat) (w : World) (hb : ∀ x ∈ l, x < 256) (hl : l.length ≤ 1000) :
    Calls Tryz.prog 22 #[.string (strB l)] w fun e w' => ∃ v, e = .returned v ∧ OwnB w' w.heap.size v (frameOf [l]) ∧ Below w.heap.size w w' := by
  have hcv := run_bytes_of_string (P := Tryz.prog) w 9 52 5 (strB l) (by kernel_rfl) (by kernel_rfl) (by kernel_rfl)
  have hge := grownCap_ge w (strB l).size 0 5
  rw [strB_size] at hcv hge
  have hom := owM_new w l hb (grownCap w l.length 0 5) hge
  have hnx : Below w.heap.size w (w.drew.alloc (.cells (bytesRow (strB l) (grownCap w l.length 0 5)) 5 ((bytesRow (strB l) (grownCap w l.length 0 5)).size, (bytesRow (strB l) (grownCap w l.length 0 5)).size + 1))) := (Below.refl _ _).drew.alloc (Nat.le_refl _) _
  have hlt : w.heap.size < (w.drew.alloc (.cells (bytesRow (strB l) (grownCap w l.length 0 5)) 5 ((bytesRow (strB l) (grownCap w l.length 0 5)).size, (bytesRow (strB l) (grownCap w l.length 0 5)).size + 1))).heap.size := by simp
  generalize w.drew.alloc (.cells (bytesRow (strB l) (grownCap w l.length 0 5)) 5 ((bytesRow (strB l) (grownCap w l.length 0 5)).size, (bytesRow (strB l) (grownCap w l.length 0 5)).size + 1)) = W1 at hcv hom hnx hlt
  generalize grownCap w l.length 0 5 = cap0 at hcv hom
  have hal := (Below.refl W1.heap.size W1).alloc (Nat.le_refl _) (.cells #[.slice (some ⟨w.heap.size, 0, none⟩) l.length cap0] 52)
  have L := Laid.new W1 #[.slice (some ⟨w.heap.size, 0, none⟩) l.length cap0] 52
  have hrow := rows_one (L.cell 0) (hom.row.below hal)
  have HF := hide (specFrame_any (some ⟨W1.heap.size, 0, none⟩) 1 [l] _ (by simp) (fun x hx => by obtain rfl := List.mem_singleton.1 hx; omega) hrow (fun x hx => by obtain rfl := List.mem_singleton.1 hx; exact hb))
  have HB := hide (hnx.trans (hal.mono hnx.size))
  clear hom hnx hlt hal L hrow hge hb
  go_enter Tryz.func22, Tryz.ntmps22
  go_wp2_with fail
  refine HF.out.mono ?_
  rintro e w2 ⟨v, rfl, ho, hb2⟩
  have HO := hide (ho.mono HB.out.size)
  have HB2 := hide (HB.out.trans (hb2.mono HB.out.size))
  clear ho hb2 HF
  go_wp2
  go_ret
  exact ⟨v, rfl, HO.out, HB2.out⟩
set_option maxHeartbeats 4000000 in
set_option maxRecDepth 20000 in
theorem specFmt1 (u : Nat) (q : Int) (w : World) (hu : u < 4294967296) :
    Calls Tryz.prog 5 #[.int .i64 1, .int .u32 (u : Int), .int .i64 q] w (FmPost w (fmtOf 1 u q)) := by
  have hA := (Below.refl w.heap.size w).alloc (Nat.le_refl _) (.cells #[.slice none 0 0, .slice none 0 0, .slice none 0 0, .slice none 0 0, .int .i64 0] 27)
  have L0 := Laid.new w #[.slice none 0 0, .slice none 0 0, .slice none 0 0, .slice none 0 0, .int .i64 0] 27
  have hds := decS_size u hu
  have HTX := hide (text1 u)
  have HRB := hide (recOf_byte [86] [u, 1, 0] (fun x hx => by obtain rfl := List.mem_singleton.1 hx; omega))
  have HRL := hide (show (recOf [86] [u, 1, 0]).length ≤ 1000 from Nat.le_trans (recOf_len [86] [u, 1, 0] (fun n hn => by simp only [List.mem_cons, List.not_mem_nil, or_false] at hn; omega)) (by simp))
  go_enter Tryz.func5, Tryz.ntmps5
  go_wp2_with fail
  generalize w.alloc (.cells #[.slice none 0 0, .slice none 0 0, .slice none 0 0, .slice none 0 0, .int .i64 0] 27) = w0 at hA L0 ⊢
  have HB0 := hide hA
  have HL0 := hide L0
  clear hA L0
  refine (l1Dec_any u w0 (by omega)).mono ?_
  rintro e w1 ⟨rfl, hb1⟩
  have HB1 := hide (HB0.out.trans (hb1.mono HB0.out.size))
  have HL1 := hide (HL0.out.below hb1 HL0.out.lt)
  clear hb1 HB0 HL0
  generalize hdd : decS u = ds at hds HTX
  clear hdd
  go_wp2_with fail
  rw [HTX.out]
  refine (l5Rec_any _ w1 HRB.out HRL.out).mono ?_
  rintro e w2 ⟨v2, rfl, ho2, hb2⟩
  obtain ⟨a2, c2, rfl⟩ := OwnB.slice ho2
  have HB2 := hide (HB1.out.trans (hb2.mono HB1.out.size))
  have HL2 := hide (HL1.out.below hb2 HL1.out.lt)
  have HR2 := hide (OwnB.row ho2)
  clear ho2 hb2 HB1 HL1
  have hfl := frameOf_len [recOf [86] [u, 1, 0]]
  have HP := hide (l5Put_any nmIndex a2 c2 (frameOf [recOf [86] [u, 1, 0]]) w2 (by omega) HR2.out)
  generalize hfo : frameOf [recOf [86] [u, 1, 0]] = fo at hfl HP HR2
  have HFO := hide hfo
  clear hfo
  unfold nmIndex at HP
  go_wp2_with fail
  refine HP.out.mono ?_
  rintro e w3 ⟨v3, vs3, rfl, ho3, hb3⟩
  obtain ⟨a3, c3, hv3⟩ := ho3.slice
  rw [show (putOps _ fo).length = 3 from rfl] at hv3
  subst hv3
  have HB3 := hide (HB2.out.trans (hb3.mono HB2.out.size))
  have HL3 := hide (HL2.out.below hb3 HL2.out.lt)
  have HV3 := hide (ho3.mono HB2.out.size)
  clear ho3 hb3 HP
  have HP := hide (l5Put_any nmText none 0 [] w3 (by simp) (fun h => absurd h (Nat.lt_irrefl _)))
  unfold nmText at HP
  go_wp2_with fail
  refine HP.out.mono ?_
  rintro e w4 ⟨v4, vs4, rfl, ho4, hb4⟩
  obtain ⟨a4, c4, hv4⟩ := ho4.slice
  rw [show (putOps _ []).length = 3 from rfl] at hv4
  subst hv4
  have HB4 := hide (HB3.out.trans (hb4.mono HB3.out.size))
  have HL4 := hide (HL3.out.below hb4 HL3.out.lt)
  have HV4 := hide (HV3.out.below' hb4)
  have HX4 := hide (ho4.mono HB3.out.size)
  have FIN0 := hide (fun (v5 : Value) (w5 : World) (hg : w4.grownBy w5 (Value.slice a3 3 c3).ownBlock) => show Below w.heap.size w w5 ∧ Laid w5 w.heap.size #[.slice none 0 0, .slice none 0 0, .slice none 0 0, .slice none 0 0, .int .i64 0] 27 from
    have f := Fr.of_grown (S := fun g => (Value.slice a3 3 c3).ownBlock = some g) hg (fun k e => e)
    ⟨HB4.out.trans (f.below (fun g e => (own_ge HV4.out.row e).1) HB4.out.size), (f.block _ HL4.out.lt (fun e => absurd (HL4.out.kind.ne (own_kind HV4.out.row e)) (by decide))).trans HL4.out⟩)
  clear ho4 hb4 HP HV3 HB3 HL3
  go_upto_region 8 with (at_builtin; (refine wpList_append_ops _ rfl (.tmp 19) (.tmp 20) rfl w.heap.size (.slice a3 3 c3) vs3 (putOps ⟨#[105, 110, 100, 101, 120]⟩ fo) rfl ?_ (.slice a4 3 c4) vs4 (putOps ⟨#[109, 98, 111, 120, 46, 48]⟩ []) rfl ?_ ?_ ?_ ?_ ?_; (exact HV4.out); (exact HX4.out); (exact Nat.succ_pos 2); (simp [putOps]); (exact HB4.out.size); intro v7 W h7 hg7; have HV7 := hide h7; have hfn0 := FIN0.out v7 W hg7; have HB := hide hfn0.1; have HL := hide hfn0.2; clear h7 hg7 hfn0))
  obtain ⟨vs7, hvs7⟩ : ∃ x, x = vs3 ++ vs4 := ⟨_, rfl⟩
  rw [← hvs7] at HV7
  have HV := hide (show OwnV W w.heap.size v7 vs7 (baseOps 1 u) from by unfold baseOps nmIndex nmText; rw [if_pos rfl, HFO.out]; exact HV7.out)
  clear hvs7 HV7 HV4 HX4 HB4 HL4 FIN0
  obtain ⟨a7, c7, hv⟩ := HV.out.slice
  rw [show (baseOps 1 u).length = 6 from rfl] at hv
  subst hv
  have HLN := hide (show (baseOps 1 u).length + [((6 : Int), noStr, noStr, ([] : List Nat))].length ≤ 1048576 from by have := fmt_len 1 u; unfold fmtOps at this; rw [List.length_append] at this; omega)
  have f0 := frozen_of_row W (w.heap.size) 0 _ _ HL.out
  have f1 := frozen_of_row W (w.heap.size) 1 _ _ HL.out
  have f2 := frozen_of_row W (w.heap.size) 2 _ _ HL.out
  have f3 := frozen_of_row W (w.heap.size) 3 _ _ HL.out
  have f4 := frozen_of_row W (w.heap.size) 4 _ _ HL.out
  have z0 : W.cell? ⟨w.heap.size, 0, none⟩ = some (.slice none 0 0) := HL.out.cell 0
  have z1 : W.cell? ⟨w.heap.size, 1, none⟩ = some (.slice none 0 0) := HL.out.cell 1
  have z2 : W.cell? ⟨w.heap.size, 2, none⟩ = some (.slice none 0 0) := HL.out.cell 2
  have z3 : W.cell? ⟨w.heap.size, 3, none⟩ = some (.slice none 0 0) := HL.out.cell 3
  have z4 : W.cell? ⟨w.heap.size, 4, none⟩ = some (.int .i64 0) := HL.out.cell 4
  by_cases hu0 : u = 0
  · have hR := fmt_no (k := 1) (u := u) (q := q) (fun x => x.1 hu0)
    subst hu0
    have HR := hide hR
    clear hR
    go_wp2
    exact bodyPost_ret (ret_disk w.heap.size _ _ _ _ _ _ rfl rfl (set_disk _ _ _ _ _ HL.out)) rfl (fm_no HR.out HB.out)
  clear f0 f1 f2 f3 f4 z0 z1 z2 z3 z4
  have hal := (Below.refl W.heap.size W).alloc (Nat.le_refl _) (.cells (four [(.int .i64 6, .string noStr, .string noStr, .slice none 0 0)]).toArray 56)
  have HX := hide ((ownV_new W W.heap.size [(.int .i64 6, .string noStr, .string noStr, .slice none 0 0)] [(6, noStr, noStr, [])] (Nat.le_refl _) (by simp) rfl (fun i hi => by
    match i, hi with
    | 0, _ => exact ⟨_, rfl, OwnB.nil _ _⟩)).mono HB.out.size)
  have HV1 := hide (HV.out.below' hal)
  have HB1 := hide (HB.out.trans (hal.mono HB.out.size))
  have HL1 := hide (HL.out.below hal HL.out.lt)
  have FIN := hide (fun (v5 : Value) (w5 : World) (hg : (W.alloc (.cells (four [(.int .i64 6, .string noStr, .string noStr, .slice none 0 0)]).toArray 56)).grownBy w5 (Value.slice a7 6 c7).ownBlock) => show Below w.heap.size w w5 ∧ Laid w5 w.heap.size #[.slice none 0 0, .slice none 0 0, .slice none 0 0, .slice none 0 0, .int .i64 0] 27 from
    have f := Fr.of_grown (S := fun g => (Value.slice a7 6 c7).ownBlock = some g) hg (fun k e => e)
    ⟨HB1.out.trans (f.below (fun g e => (own_ge HV1.out.row e).1) HB1.out.size), (f.block _ HL1.out.lt (fun e => absurd (HL1.out.kind.ne (own_kind HV1.out.row e)) (by decide))).trans HL1.out⟩)
  clear hal
  go_wp2_with (at_builtin; (refine wpList_append_ops _ rfl (.tmp 36) (.tmp 38) rfl w.heap.size (.slice a7 6 c7) vs7 (baseOps 1 u) rfl ?_ (.slice (some ⟨W.heap.size, 0, none⟩) 1 1) [(.int .i64 6, .string noStr, .string noStr, .slice none 0 0)] [(6, noStr, noStr, [])] rfl ?_ ?_ ?_ ?_ ?_; (exact HV1.out); (exact HX.out); (exact Nat.succ_pos 0); (exact HLN.out); (exact HB1.out.size); intro v8 w8 h8 hg8; have HV8 := hide h8; have hfn := FIN.out v8 w8 hg8; have HB8 := hide hfn.1; have HL8 := hide hfn.2; clear h8 hg8 hfn))
  rw [show baseOps 1 u ++ [(6, noStr, noStr, [])] = fmtOps 1 u from rfl] at HV8
  obtain ⟨a8, c8, rfl⟩ := HV8.out.slice
  have HDO := hide (specDo_any one_law l1Copy_any _ (bareD q) a8 c8 (fmtOps 1 u) w8 (bare_modest q) (bare_at w8 q) (by have := fmt_len 1 u; omega) (fmt_size 1 u) HV8.out.at)
  have HYES := hide (fun h => fmt_yes (k := 1) (u := u) (q := q) ⟨hu0, by simp, h⟩)
  have HNO := hide (fun (h : ¬ (doOf (bareD q) (fmtOps 1 u)).2.2 = 0) => fmt_no (k := 1) (u := u) (q := q) (fun x => h x.2.2))
  generalize doOf (bareD q) (fmtOps 1 u) = R at HDO HYES HNO
  obtain ⟨C, nn, cc⟩ := R
  simp only at HYES HNO
  clear HV HV1 HV8 HX HL HL1 HB HB1 FIN
  refine HDO.out.mono ?_
  rintro e w9 ⟨s1, s2, s3, s4, rfl, hos, hb9⟩
  obtain ⟨q1, j1, r1, q2, j2, r2, q3, j3, r3, q4, j4, r4, rfl, rfl, rfl, rfl⟩ := dk_sl hos
  have n10 := (Below.refl w9.heap.size w9).alloc (Nat.le_refl _) (.cells #[.slice q1 j1 r1, .slice q2 j2 r2, .slice q3 j3 r3, .slice q4 j4 r4, .int .i64 C.quota, .int .i64 (nn : Int), .int .i64 cc] 41)
  have S10 := Laid.new w9 #[.slice q1 j1 r1, .slice q2 j2 r2, .slice q3 j3 r3, .slice q4 j4 r4, .int .i64 C.quota, .int .i64 (nn : Int), .int .i64 cc] 41
  have HB := hide (HB8.out.trans ((hb9.trans (n10.mono hb9.size)).mono HB8.out.size))
  have L10 := (HL8.out.below hb9 HL8.out.lt).below n10 (HL8.out.below hb9 HL8.out.lt).lt
  have HOS := hide (hos.below n10)
  have HSZ := hide (show w8.heap.size ≤ w9.heap.size from hb9.size)
  have HS8 := hide HB8.out.size
  clear HDO hos hb9 n10 HB8
  go_upto_region 11 with fail
  generalize w9.alloc (.cells #[.slice q1 j1 r1, .slice q2 j2 r2, .slice q3 j3 r3, .slice q4 j4 r4, .int .i64 C.quota, .int .i64 (nn : Int), .int .i64 cc] 41) = w10 at S10 HB L10 HOS ⊢
  have u0 : w10.cell? ⟨w9.heap.size, 0, none⟩ = some (.slice q1 j1 r1) := S10.cell 0
  have u1 : w10.cell? ⟨w9.heap.size, 1, none⟩ = some (.slice q2 j2 r2) := S10.cell 1
  have u2 : w10.cell? ⟨w9.heap.size, 2, none⟩ = some (.slice q3 j3 r3) := S10.cell 2
  have u3 : w10.cell? ⟨w9.heap.size, 3, none⟩ = some (.slice q4 j4 r4) := S10.cell 3
  have u4 : w10.cell? ⟨w9.heap.size, 4, none⟩ = some (.int .i64 C.quota) := S10.cell 4
  have u5 : w10.cell? ⟨w9.heap.size, 5, none⟩ = some (.int .i64 (nn : Int)) := S10.cell 5
  have u6 : w10.cell? ⟨w9.heap.size, 6, none⟩ = some (.int .i64 cc) := S10.cell 6
  have z0 : w10.cell? ⟨w.heap.size, 0, none⟩ = some (.slice none 0 0) := L10.cell 0
  have z1 : w10.cell? ⟨w.heap.size, 1, none⟩ = some (.slice none 0 0) := L10.cell 1
  have z2 : w10.cell? ⟨w.heap.size, 2, none⟩ = some (.slice none 0 0) := L10.cell 2
  have z3 : w10.cell? ⟨w.heap.size, 3, none⟩ = some (.slice none 0 0) := L10.cell 3
  have z4 : w10.cell? ⟨w.heap.size, 4, none⟩ = some (.int .i64 0) := L10.cell 4
  have f0 := frozen_of_row w10 (w.heap.size) 0 _ _ L10
  have f1 := frozen_of_row w10 (w.heap.size) 1 _ _ L10
  have f2 := frozen_of_row w10 (w.heap.size) 2 _ _ L10
  have f3 := frozen_of_row w10 (w.heap.size) 3 _ _ L10
  have f4 := frozen_of_row w10 (w.heap.size) 4 _ _ L10
  have HL := hide L10
  have HSL := hide S10.lt
  clear S10 L10
  by_cases hc : cc = 0
  · subst hc
    have HR := hide (HYES.out rfl)
    go_wp2
    exact bodyPost_ret (ret_disk w.heap.size _ _ _ _ _ _ rfl rfl (set_disk _ _ _ _ _ HL.out)) rfl (fm_dk HR.out HOS.out HL.out HB.out HS8.out)
  · have HR := hide (HNO.out hc)
    go_wp2
    exact bodyPost_ret (ret_disk w.heap.size _ _ _ _ _ _ rfl rfl (set_disk _ _ _ _ _ HL.out)) rfl (fm_no HR.out HB.out)
set_option maxHeartbeats 4000000 in
set_option maxRecDepth 20000 in
theorem specFmt3 (u : Nat) (q : Int) (w : World) (hu : u < 4294967296) :
    Calls Tryz.prog 5 #[.int .i64 3, .int .u32 (u : Int), .int .i64 q] w (FmPost w (fmtOf 3 u q)) := by
  have hA := (Below.refl w.heap.size w).alloc (Nat.le_refl _) (.cells #[.slice none 0 0, .slice none 0 0, .slice none 0 0, .slice none 0 0, .int .i64 0] 27)
  have L0 := Laid.new w #[.slice none 0 0, .slice none 0 0, .slice none 0 0, .slice none 0 0, .int .i64 0] 27
  have hds := decS_size u hu
  have HTX := hide (text3 u)
  have HRB := hide (recOf_byte [86] [u, 1] (fun x hx => by obtain rfl := List.mem_singleton.1 hx; omega))
  have HRL := hide (show (recOf [86] [u, 1]).length ≤ 1000 from Nat.le_trans (recOf_len [86] [u, 1] (fun n hn => by simp only [List.mem_cons, List.not_mem_nil, or_false] at hn; omega)) (by simp))
  go_enter Tryz.func5, Tryz.ntmps5
  go_wp2_with fail
  generalize w.alloc (.cells #[.slice none 0 0, .slice none 0 0, .slice none 0 0, .slice none 0 0, .int .i64 0] 27) = w0 at hA L0 ⊢
  have HB0 := hide hA
  have HL0 := hide L0
  clear hA L0
  refine (l1Dec_any u w0 (by omega)).mono ?_
  rintro e w1 ⟨rfl, hb1⟩
  have HB1 := hide (HB0.out.trans (hb1.mono HB0.out.size))
  have HL1 := hide (HL0.out.below hb1 HL0.out.lt)
  clear hb1 HB0 HL0
  generalize hdd : decS u = ds at hds HTX
  clear hdd
  go_wp2_with fail
  rw [HTX.out]
  refine (l5Rec_any _ w1 HRB.out HRL.out).mono ?_
  rintro e w2 ⟨v2, rfl, ho2, hb2⟩
  obtain ⟨a2, c2, rfl⟩ := OwnB.slice ho2
  have HB2 := hide (HB1.out.trans (hb2.mono HB1.out.size))
  have HL2 := hide (HL1.out.below hb2 HL1.out.lt)
  have HR2 := hide (OwnB.row ho2)
  clear ho2 hb2 HB1 HL1
  have hfl := frameOf_len [recOf [86] [u, 1]]
  have HP := hide (l5Put_any nmUid a2 c2 (frameOf [recOf [86] [u, 1]]) w2 (by omega) HR2.out)
  generalize hfo : frameOf [recOf [86] [u, 1]] = fo at hfl HP HR2
  have HFO := hide hfo
  clear hfo
  unfold nmUid at HP
  go_wp2_with fail
  refine HP.out.mono ?_
  rintro e w3 ⟨v3, vs3, rfl, ho3, hb3⟩
  obtain ⟨a7, c7, hv3⟩ := ho3.slice
  rw [show (putOps _ fo).length = 3 from rfl] at hv3
  subst hv3
  have HB3 := hide (HB2.out.trans (hb3.mono HB2.out.size))
  have HL3 := hide (HL2.out.below hb3 HL2.out.lt)
  have HV3 := hide (ho3.mono HB2.out.size)
  clear ho3 hb3 HP
  obtain ⟨W, hW⟩ : ∃ x, x = w3 := ⟨_, rfl⟩
  subst hW
  obtain ⟨vs7, hvs7⟩ : ∃ x, x = vs3 := ⟨_, rfl⟩
  subst hvs7
  have HV := hide (show OwnV W w.heap.size (.slice a7 3 c7) vs7 (baseOps 3 u) from by unfold baseOps nmUid; rw [if_neg (by decide), HFO.out]; exact HV3.out)
  have HB := HB3
  have HL := HL3
  clear HV3 HB3 HL3
  have HLN := hide (show (baseOps 3 u).length + [((6 : Int), noStr, noStr, ([] : List Nat))].length ≤ 1048576 from by have := fmt_len 3 u; unfold fmtOps at this; rw [List.length_append] at this; omega)
  have f0 := frozen_of_row W (w.heap.size) 0 _ _ HL.out
  have f1 := frozen_of_row W (w.heap.size) 1 _ _ HL.out
  have f2 := frozen_of_row W (w.heap.size) 2 _ _ HL.out
  have f3 := frozen_of_row W (w.heap.size) 3 _ _ HL.out
  have f4 := frozen_of_row W (w.heap.size) 4 _ _ HL.out
  have z0 : W.cell? ⟨w.heap.size, 0, none⟩ = some (.slice none 0 0) := HL.out.cell 0
  have z1 : W.cell? ⟨w.heap.size, 1, none⟩ = some (.slice none 0 0) := HL.out.cell 1
  have z2 : W.cell? ⟨w.heap.size, 2, none⟩ = some (.slice none 0 0) := HL.out.cell 2
  have z3 : W.cell? ⟨w.heap.size, 3, none⟩ = some (.slice none 0 0) := HL.out.cell 3
  have z4 : W.cell? ⟨w.heap.size, 4, none⟩ = some (.int .i64 0) := HL.out.cell 4
  by_cases hu0 : u = 0
  · have hR := fmt_no (k := 3) (u := u) (q := q) (fun x => x.1 hu0)
    subst hu0
    have HR := hide hR
    clear hR
    go_wp2
    exact bodyPost_ret (ret_disk w.heap.size _ _ _ _ _ _ rfl rfl (set_disk _ _ _ _ _ HL.out)) rfl (fm_no HR.out HB.out)
  clear f0 f1 f2 f3 f4 z0 z1 z2 z3 z4
  have hal := (Below.refl W.heap.size W).alloc (Nat.le_refl _) (.cells (four [(.int .i64 6, .string noStr, .string noStr, .slice none 0 0)]).toArray 56)
  have HX := hide ((ownV_new W W.heap.size [(.int .i64 6, .string noStr, .string noStr, .slice none 0 0)] [(6, noStr, noStr, [])] (Nat.le_refl _) (by simp) rfl (fun i hi => by
    match i, hi with
    | 0, _ => exact ⟨_, rfl, OwnB.nil _ _⟩)).mono HB.out.size)
  have HV1 := hide (HV.out.below' hal)
  have HB1 := hide (HB.out.trans (hal.mono HB.out.size))
  have HL1 := hide (HL.out.below hal HL.out.lt)
  have FIN := hide (fun (v5 : Value) (w5 : World) (hg : (W.alloc (.cells (four [(.int .i64 6, .string noStr, .string noStr, .slice none 0 0)]).toArray 56)).grownBy w5 (Value.slice a7 3 c7).ownBlock) => show Below w.heap.size w w5 ∧ Laid w5 w.heap.size #[.slice none 0 0, .slice none 0 0, .slice none 0 0, .slice none 0 0, .int .i64 0] 27 from
    have f := Fr.of_grown (S := fun g => (Value.slice a7 3 c7).ownBlock = some g) hg (fun k e => e)
    ⟨HB1.out.trans (f.below (fun g e => (own_ge HV1.out.row e).1) HB1.out.size), (f.block _ HL1.out.lt (fun e => absurd (HL1.out.kind.ne (own_kind HV1.out.row e)) (by decide))).trans HL1.out⟩)
  clear hal
  go_wp2_with (at_builtin; (refine wpList_append_ops _ rfl (.tmp 36) (.tmp 38) rfl w.heap.size (.slice a7 3 c7) vs7 (baseOps 3 u) rfl ?_ (.slice (some ⟨W.heap.size, 0, none⟩) 1 1) [(.int .i64 6, .string noStr, .string noStr, .slice none 0 0)] [(6, noStr, noStr, [])] rfl ?_ ?_ ?_ ?_ ?_; (exact HV1.out); (exact HX.out); (exact Nat.succ_pos 0); (exact HLN.out); (exact HB1.out.size); intro v8 w8 h8 hg8; have HV8 := hide h8; have hfn := FIN.out v8 w8 hg8; have HB8 := hide hfn.1; have HL8 := hide hfn.2; clear h8 hg8 hfn))
  rw [show baseOps 3 u ++ [(6, noStr, noStr, [])] = fmtOps 3 u from rfl] at HV8
  obtain ⟨a8, c8, rfl⟩ := HV8.out.slice
  have HDO := hide (specDo_any one_law l1Copy_any _ (bareD q) a8 c8 (fmtOps 3 u) w8 (bare_modest q) (bare_at w8 q) (by have := fmt_len 3 u; omega) (fmt_size 3 u) HV8.out.at)
  have HYES := hide (fun h => fmt_yes (k := 3) (u := u) (q := q) ⟨hu0, by simp, h⟩)
  have HNO := hide (fun (h : ¬ (doOf (bareD q) (fmtOps 3 u)).2.2 = 0) => fmt_no (k := 3) (u := u) (q := q) (fun x => h x.2.2))
  generalize doOf (bareD q) (fmtOps 3 u) = R at HDO HYES HNO
  obtain ⟨C, nn, cc⟩ := R
  simp only at HYES HNO
  clear HV HV1 HV8 HX HL HL1 HB HB1 FIN
  refine HDO.out.mono ?_
  rintro e w9 ⟨s1, s2, s3, s4, rfl, hos, hb9⟩
  obtain ⟨q1, j1, r1, q2, j2, r2, q3, j3, r3, q4, j4, r4, rfl, rfl, rfl, rfl⟩ := dk_sl hos
  have n10 := (Below.refl w9.heap.size w9).alloc (Nat.le_refl _) (.cells #[.slice q1 j1 r1, .slice q2 j2 r2, .slice q3 j3 r3, .slice q4 j4 r4, .int .i64 C.quota, .int .i64 (nn : Int), .int .i64 cc] 41)
  have S10 := Laid.new w9 #[.slice q1 j1 r1, .slice q2 j2 r2, .slice q3 j3 r3, .slice q4 j4 r4, .int .i64 C.quota, .int .i64 (nn : Int), .int .i64 cc] 41
  have HB := hide (HB8.out.trans ((hb9.trans (n10.mono hb9.size)).mono HB8.out.size))
  have L10 := (HL8.out.below hb9 HL8.out.lt).below n10 (HL8.out.below hb9 HL8.out.lt).lt
  have HOS := hide (hos.below n10)
  have HSZ := hide (show w8.heap.size ≤ w9.heap.size from hb9.size)
  have HS8 := hide HB8.out.size
  clear HDO hos hb9 n10 HB8
  go_upto_region 11 with fail
  generalize w9.alloc (.cells #[.slice q1 j1 r1, .slice q2 j2 r2, .slice q3 j3 r3, .slice q4 j4 r4, .int .i64 C.quota, .int .i64 (nn : Int), .int .i64 cc] 41) = w10 at S10 HB L10 HOS ⊢
  have u0 : w10.cell? ⟨w9.heap.size, 0, none⟩ = some (.slice q1 j1 r1) := S10.cell 0
  have u1 : w10.cell? ⟨w9.heap.size, 1, none⟩ = some (.slice q2 j2 r2) := S10.cell 1
  have u2 : w10.cell? ⟨w9.heap.size, 2, none⟩ = some (.slice q3 j3 r3) := S10.cell 2
  have u3 : w10.cell? ⟨w9.heap.size, 3, none⟩ = some (.slice q4 j4 r4) := S10.cell 3
  have u4 : w10.cell? ⟨w9.heap.size, 4, none⟩ = some (.int .i64 C.quota) := S10.cell 4
  have u5 : w10.cell? ⟨w9.heap.size, 5, none⟩ = some (.int .i64 (nn : Int)) := S10.cell 5
  have u6 : w10.cell? ⟨w9.heap.size, 6, none⟩ = some (.int .i64 cc) := S10.cell 6
  have z0 : w10.cell? ⟨w.heap.size, 0, none⟩ = some (.slice none 0 0) := L10.cell 0
  have z1 : w10.cell? ⟨w.heap.size, 1, none⟩ = some (.slice none 0 0) := L10.cell 1
  have z2 : w10.cell? ⟨w.heap.size, 2, none⟩ = some (.slice none 0 0) := L10.cell 2
  have z3 : w10.cell? ⟨w.heap.size, 3, none⟩ = some (.slice none 0 0) := L10.cell 3
  have z4 : w10.cell? ⟨w.heap.size, 4, none⟩ = some (.int .i64 0) := L10.cell 4
  have f0 := frozen_of_row w10 (w.heap.size) 0 _ _ L10
  have f1 := frozen_of_row w10 (w.heap.size) 1 _ _ L10
  have f2 := frozen_of_row w10 (w.heap.size) 2 _ _ L10
  have f3 := frozen_of_row w10 (w.heap.size) 3 _ _ L10
  have f4 := frozen_of_row w10 (w.heap.size) 4 _ _ L10
  have HL := hide L10
  have HSL := hide S10.lt
  clear S10 L10
  by_cases hc : cc = 0
  · subst hc
    have HR := hide (HYES.out rfl)
    go_wp2
    exact bodyPost_ret (ret_disk w.heap.size _ _ _ _ _ _ rfl rfl (set_disk _ _ _ _ _ HL.out)) rfl (fm_dk HR.out HOS.out HL.out HB.out HS8.out)
  · have HR := hide (HNO.out hc)
    go_wp2
    exact bodyPost_ret (ret_disk w.heap.size _ _ _ _ _ _ rfl rfl (set_disk _ _ _ _ _ HL.out)) rfl (fm_no HR.out HB.out)
set_option maxRecDepth 20000 in
theorem specFmt_other (k : Int) (u : Nat) (q : Int) (w : World) (h1 : k ≠ 1) (h3 : k ≠ 3) :
    Calls Tryz.prog 5 #[.int .i64 k, .int .u32 (u : Int), .int .i64 q] w (FmPost w (fmtOf k u q)) := by
  have hA := (Below.refl w.heap.size w).alloc (Nat.le_refl _) (.cells #[.slice none 0 0, .slice none 0 0, .slice none 0 0, .slice none 0 0, .int .i64 0] 27)
  have L0 := Laid.new w #[.slice none 0 0, .slice none 0 0, .slice none 0 0, .slice none 0 0, .int .i64 0] 27
  have HB := hide hA
  have HL := hide L0
  have HR := hide (fmt_no (k := k) (u := u) (q := q) (fun x => x.2.1.elim h1 h3))
  have hk1 : ¬ k = 1 := h1
  have hk3 : ¬ k = 3 := h3
  clear hA L0 h1 h3
  go_enter Tryz.func5, Tryz.ntmps5
  go_upto_region 1 with fail
  generalize w.alloc (.cells #[.slice none 0 0, .slice none 0 0, .slice none 0 0, .slice none 0 0, .int .i64 0] 27) = w0 at HB HL ⊢
  have f0 := frozen_of_row w0 (w.heap.size) 0 _ _ HL.out
  have f1 := frozen_of_row w0 (w.heap.size) 1 _ _ HL.out
  have f2 := frozen_of_row w0 (w.heap.size) 2 _ _ HL.out
  have f3 := frozen_of_row w0 (w.heap.size) 3 _ _ HL.out
  have f4 := frozen_of_row w0 (w.heap.size) 4 _ _ HL.out
  have z0 : w0.cell? ⟨w.heap.size, 0, none⟩ = some (.slice none 0 0) := HL.out.cell 0
  have z1 : w0.cell? ⟨w.heap.size, 1, none⟩ = some (.slice none 0 0) := HL.out.cell 1
  have z2 : w0.cell? ⟨w.heap.size, 2, none⟩ = some (.slice none 0 0) := HL.out.cell 2
  have z3 : w0.cell? ⟨w.heap.size, 3, none⟩ = some (.slice none 0 0) := HL.out.cell 3
  have z4 : w0.cell? ⟨w.heap.size, 4, none⟩ = some (.int .i64 0) := HL.out.cell 4
  go_wp2
  exact bodyPost_ret (ret_disk w.heap.size _ _ _ _ _ _ rfl rfl (set_disk _ _ _ _ _ HL.out)) rfl (fm_no HR.out HB.out)
end Go.Proofs.YtpbpidfjecejcaaGreatDoor
namespace Go.Proofs.YtpbpidfjecejcaaGreatDoor
open Go.RowKit Go.Sort Go.Lib
set_option linter.unusedVariables false
theorem da_sl {w : World} {base hi : Nat} {v1 v2 v3 v4 : Value} {vs : List (Value × Value)} {C : MDisk} (h : OwnDA w base hi v1 v2 v3 v4 vs C) : ∃ a1 m1 c1 a2 m2 c2 a3 m3 c3 a4 m4 c4, v1 = .slice a1 m1 c1 ∧ v2 = .slice a2 m2 c2 ∧ v3 = .slice a3 m3 c3 ∧ v4 = .slice a4 m4 c4 := by
  obtain ⟨a1, c1, e1⟩ := h.nodes.slice
  obtain ⟨a2, c2, e2⟩ := h.names.slice
  obtain ⟨a3, c3, e3⟩ := h.kept.slice
  obtain ⟨a4, c4, e4⟩ := h.pend.slice
  exact ⟨a1, _, c1, a2, _, c2, a3, _, c3, a4, _, c4, e1, e2, e3, e4⟩
/-- What impl.Format hands back. -/
def FmaPost (w : World) (C : MDisk) (e : Ending) (w' : World) : Prop := ∃ v1 v2 v3 v4 vs, e = .returned (.agg #[v1, v2, v3, v4, .int .i64 C.quota]) ∧ OwnDA w' w.heap.size w'.heap.size v1 v2 v3 v4 vs C ∧ Below w.heap.size w w'
theorem fm_noa {w W : World} {C : MDisk} (h : C = noDisk) (hb : Below w.heap.size w W) : FmaPost w C (.returned (.agg #[.slice none 0 0, .slice none 0 0, .slice none 0 0, .slice none 0 0, .int .i64 0])) (setD W w.heap.size (.slice none 0 0) (.slice none 0 0) (.slice none 0 0) (.slice none 0 0) (.int .i64 0)) := by
  subst h
  exact ⟨_, _, _, _, [], rfl, da_no _ _, hb.trans ((setD_fr _ _ _ _ _ _ _).below (fun g e => by omega) hb.size)⟩
theorem fm_da {w W : World} {base hi : Nat} {v1 v2 v3 v4 : Value} {vs : List (Value × Value)} {C E : MDisk} (h : E = C) (hd : OwnDA W base hi v1 v2 v3 v4 vs C) (hL : Laid W w.heap.size #[.slice none 0 0, .slice none 0 0, .slice none 0 0, .slice none 0 0, .int .i64 0] 27) (hb : Below w.heap.size w W) (hs : w.heap.size < base) (hh : hi ≤ W.heap.size) : FmaPost w E (.returned (.agg #[v1, v2, v3, v4, .int .i64 C.quota])) (setD W w.heap.size v1 v2 v3 v4 (.int .i64 C.quota)) := by
  subst h
  have f := setD_fr W w.heap.size v1 v2 v3 v4 (.int .i64 E.quota)
  exact ⟨_, _, _, _, vs, rfl, (hd.fr f (fun g a b e => by omega)).wide (by omega) (Nat.le_trans hh f.size), hb.trans (f.below (fun g e => by omega) hb.size)⟩
theorem textOf_zero (w : World) (htab : TabIs Tryz.prog w "internal/strconv.uint64pow10" .u64 Lib.pow10Tab) :
    Calls Tryz.prog 27 #[.int .u64 0] w fun e w' => e = .returned (.string nmText) ∧ Below w.heap.size w w' := by
  have HC := hide (strFormatUint_any 0 w (by omega) htab)
  rw [decS_zero] at HC
  go_enter Tryz.func27, Tryz.ntmps27
  go_wp2_with fail
  refine HC.out.mono ?_
  rintro e w1 ⟨rfl, hb⟩
  have HB := hide hb
  clear hb HC
  go_wp2
  go_ret
  exact ⟨rfl, HB.out⟩
set_option maxHeartbeats 4000000 in
set_option maxRecDepth 20000 in
theorem implFmt1 (u : Nat) (q : Int) (w : World) (hu : u < 4294967296) (hu0 : ¬ u = 0) (hg : ErrG w) (htab : TabIs Tryz.prog w "internal/strconv.uint64pow10" .u64 Lib.pow10Tab) :
    Calls Tryz.prog 6 #[.int .i64 1, .int .u32 (u : Int), .int .i64 q] w (FmaPost w (fmtOf 1 u q)) := by
  have HEG := hide (fun w' (hb : Below w.heap.size w w') => show ErrG w' from (hb.cell (p := ⟨0, 0, none⟩) (lt_cell hg)).trans hg)
  have HTB := hide (fun w' (hb : Below w.heap.size w w') => tabIs_below htab hb)
  have hA := (Below.refl w.heap.size w).alloc (Nat.le_refl _) (.cells #[.slice none 0 0, .slice none 0 0, .slice none 0 0, .slice none 0 0, .int .i64 0] 27)
  have L0 := Laid.new w #[.slice none 0 0, .slice none 0 0, .slice none 0 0, .slice none 0 0, .int .i64 0] 27
  have HRB := hide (recOf_byte [86] [u, 1, 0] (fun x hx => by obtain rfl := List.mem_singleton.1 hx; omega))
  have HRL := hide (show (recOf [86] [u, 1, 0]).length ≤ 1000 from Nat.le_trans (recOf_len [86] [u, 1, 0] (fun n hn => by simp only [List.mem_cons, List.not_mem_nil, or_false] at hn; omega)) (by simp))
  clear hg htab
  go_enter Tryz.func6, Tryz.ntmps6
  go_upto_region 1 with fail
  generalize w.alloc (.cells #[.slice none 0 0, .slice none 0 0, .slice none 0 0, .slice none 0 0, .int .i64 0] 27) = w0 at hA L0 ⊢
  have HB0 := hide hA
  have HL0 := hide L0
  clear hA L0
  have hal := (Below.refl w0.heap.size w0).alloc (Nat.le_refl _) (.cells #[.int .u64 (u : Int), .int .u64 1, .int .u64 0] 58)
  have LN := Laid.new w0 #[.int .u64 (u : Int), .int .u64 1, .int .u64 0] 58
  have HB1 := hide (HB0.out.trans (hal.mono HB0.out.size))
  have HL1 := hide (HL0.out.below hal HL0.out.lt)
  have hU : U64At (w0.alloc (.cells #[.int .u64 (u : Int), .int .u64 1, .int .u64 0] 58)) (some ⟨w0.heap.size, 0, none⟩) [u, 1, 0] := fun _ => ⟨w0.heap.size, 0, rfl, fun i hi => by
    match i, hi with
    | 0, _ => exact LN.cell 0
    | 1, _ => exact LN.cell 1
    | 2, _ => exact LN.cell 2⟩
  have HRC := hide (record_any [86] (some ⟨w0.heap.size, 0, none⟩) 3 [u, 1, 0] _ (fun x hx => by obtain rfl := List.mem_singleton.1 hx; omega) (by simp) (by simp) (fun n hn => by simp only [List.mem_cons, List.not_mem_nil, or_false] at hn; omega) hU (fun X hX => HTB.out X (HB1.out.trans (hX.mono HB1.out.size))))
  rw [show strB [86] = (⟨#[86]⟩ : ByteArray) from rfl] at HRC
  clear hal LN hU
  go_wp2_with fail
  refine HRC.out.mono ?_
  rintro e w1 ⟨v1, g1, cap1, rfl, ho1, hg1, hb1⟩
  have HB2 := hide (HB1.out.trans (hb1.mono HB1.out.size))
  have HL2 := hide (HL1.out.below hb1 HL1.out.lt)
  have hv1 := ho1.val
  subst hv1
  have hal := (Below.refl w1.heap.size w1).alloc (Nat.le_refl _) (.cells #[.slice (some ⟨g1, 0, none⟩) (recOf [86] [u, 1, 0]).length cap1] 52)
  have LR := Laid.new w1 #[.slice (some ⟨g1, 0, none⟩) (recOf [86] [u, 1, 0]).length cap1] 52
  have HB3 := hide (HB2.out.trans (hal.mono HB2.out.size))
  have HL3 := hide (HL2.out.below hal HL2.out.lt)
  have hrow := rows_one (LR.cell 0) (ho1.row.below hal)
  have HF := hide (implFrame_any (some ⟨w1.heap.size, 0, none⟩) 1 [recOf [86] [u, 1, 0]] _ (by simp) (fun x hx => by obtain rfl := List.mem_singleton.1 hx; have := HRL.out; omega) hrow (fun x hx => by obtain rfl := List.mem_singleton.1 hx; exact HRB.out))
  have hfl := frameOf_len [recOf [86] [u, 1, 0]]
  have HFO := hide (show ∃ fo, fo = frameOf [recOf [86] [u, 1, 0]] from ⟨_, rfl⟩)
  clear ho1 hg1 hb1 hal LR hrow HB1 HL1 HRC
  obtain ⟨fo, hfo⟩ := HFO.out
  have HFE := hide hfo.symm
  rw [← hfo] at hfl HF
  clear HFO hfo
  obtain ⟨rr, hrr⟩ : ∃ x, x = recOf [86] [u, 1, 0] := ⟨_, rfl⟩
  rw [← hrr] at HF HFE HB3 HL3 ⊢
  have HRR := hide hrr.symm
  clear hrr
  go_wp2_with fail
  refine HF.out.mono ?_
  rintro e w2 ⟨v2, rfl, ho2, hb2⟩
  obtain ⟨a2, c2, rfl⟩ := OwnB.slice ho2
  have HB4 := hide (HB3.out.trans (hb2.mono HB3.out.size))
  have HL4 := hide (HL3.out.below hb2 HL3.out.lt)
  have HP := hide (made_any nmIndex a2 c2 fo w2 (by omega) (OwnB.row ho2))
  clear ho2 hb2 HF HB3 HL3 HB2 HL2
  unfold nmIndex at HP
  go_wp2_with fail
  refine HP.out.mono ?_
  rintro e w3 ⟨v3, vs3, rfl, ho3, hb3⟩
  obtain ⟨a3, c3, hv3⟩ := ho3.slice
  rw [show (putOps _ fo).length = 3 from rfl] at hv3
  subst hv3
  have HB5 := hide (HB4.out.trans (hb3.mono HB4.out.size))
  have HL5 := hide (HL4.out.below hb3 HL4.out.lt)
  have HV5 := hide (ho3.mono HB4.out.size)
  clear ho3 hb3 HP HB4 HL4
  go_wp2_with fail
  refine (textOf_zero w3 (HTB.out w3 HB5.out)).mono ?_
  rintro e w4 ⟨rfl, hb4⟩
  have HB6 := hide (HB5.out.trans (hb4.mono HB5.out.size))
  have HL6 := hide (HL5.out.below hb4 HL5.out.lt)
  have HV6 := hide (HV5.out.below' hb4)
  have HP := hide (made_any nmText none 0 [] w4 (by simp) (fun h => absurd h (Nat.lt_irrefl _)))
  unfold nmText at HP ⊢
  clear hb4 HB5 HL5 HV5
  go_wp2_with fail
  refine HP.out.mono ?_
  rintro e w5 ⟨v5, vs5, rfl, ho5, hb5⟩
  obtain ⟨a5, c5, hv5⟩ := ho5.slice
  rw [show (putOps _ []).length = 3 from rfl] at hv5
  subst hv5
  have HB7 := hide (HB6.out.trans (hb5.mono HB6.out.size))
  have HL7 := hide (HL6.out.below hb5 HL6.out.lt)
  have HV7 := hide (HV6.out.below' hb5)
  have HX7 := hide (ho5.mono HB6.out.size)
  have FIN0 := hide (fun (v9 : Value) (w9 : World) (hg : w5.grownBy w9 (Value.slice a3 3 c3).ownBlock) => show Below w.heap.size w w9 ∧ Laid w9 w.heap.size #[.slice none 0 0, .slice none 0 0, .slice none 0 0, .slice none 0 0, .int .i64 0] 27 from
    have f := Fr.of_grown (S := fun g => (Value.slice a3 3 c3).ownBlock = some g) hg (fun k e => e)
    ⟨HB7.out.trans (f.below (fun g e => (own_ge HV7.out.row e).1) HB7.out.size), (f.block _ HL7.out.lt (fun e => absurd (HL7.out.kind.ne (own_kind HV7.out.row e)) (by decide))).trans HL7.out⟩)
  clear ho5 hb5 HP HB6 HL6 HV6
  go_upto_region 12 with (at_builtin; (refine wpList_append_ops _ rfl (.tmp 25) (.tmp 27) rfl w.heap.size (.slice a3 3 c3) vs3 (putOps ⟨#[105, 110, 100, 101, 120]⟩ fo) rfl ?_ (.slice a5 3 c5) vs5 (putOps ⟨#[109, 98, 111, 120, 46, 48]⟩ []) rfl ?_ ?_ ?_ ?_ ?_; (exact HV7.out); (exact HX7.out); (exact Nat.succ_pos 2); (simp [putOps]); (exact HB7.out.size); intro v7 W h7 hg7; have HV70 := hide h7; have hfn0 := FIN0.out v7 W hg7; have HB := hide hfn0.1; have HL := hide hfn0.2; clear h7 hg7 hfn0))
  obtain ⟨vs7, hvs7⟩ : ∃ x, x = vs3 ++ vs5 := ⟨_, rfl⟩
  rw [← hvs7] at HV70
  have HV := hide (show OwnV W w.heap.size v7 vs7 (baseOps 1 u) from by unfold baseOps nmIndex nmText; rw [if_pos rfl, HRR.out, HFE.out]; exact HV70.out)
  clear hvs7 HV70 HV7 HX7 HB7 HL7 FIN0
  obtain ⟨a7, c7, hv⟩ := HV.out.slice
  rw [show (baseOps 1 u).length = 6 from rfl] at hv
  subst hv
  have HLN := hide (show (baseOps 1 u).length + [((6 : Int), noStr, noStr, ([] : List Nat))].length ≤ 1048576 from by have := fmt_len 1 u; unfold fmtOps at this; rw [List.length_append] at this; omega)
  have hal := (Below.refl W.heap.size W).alloc (Nat.le_refl _) (.cells (four [(.int .i64 6, .string noStr, .string noStr, .slice none 0 0)]).toArray 56)
  have HX := hide ((ownV_new W W.heap.size [(.int .i64 6, .string noStr, .string noStr, .slice none 0 0)] [(6, noStr, noStr, [])] (Nat.le_refl _) (by simp) rfl (fun i hi => by
    match i, hi with
    | 0, _ => exact ⟨_, rfl, OwnB.nil _ _⟩)).mono HB.out.size)
  have HV1 := hide (HV.out.below' hal)
  have HB1 := hide (HB.out.trans (hal.mono HB.out.size))
  have HL1 := hide (HL.out.below hal HL.out.lt)
  have FIN := hide (fun (v5 : Value) (w5 : World) (hg : (W.alloc (.cells (four [(.int .i64 6, .string noStr, .string noStr, .slice none 0 0)]).toArray 56)).grownBy w5 (Value.slice a7 6 c7).ownBlock) => show Below w.heap.size w w5 ∧ Laid w5 w.heap.size #[.slice none 0 0, .slice none 0 0, .slice none 0 0, .slice none 0 0, .int .i64 0] 27 from
    have f := Fr.of_grown (S := fun g => (Value.slice a7 6 c7).ownBlock = some g) hg (fun k e => e)
    ⟨HB1.out.trans (f.below (fun g e => (own_ge HV1.out.row e).1) HB1.out.size), (f.block _ HL1.out.lt (fun e => absurd (HL1.out.kind.ne (own_kind HV1.out.row e)) (by decide))).trans HL1.out⟩)
  clear hal
  go_wp2_with (at_builtin; (refine wpList_append_ops _ rfl (.tmp 41) (.tmp 43) rfl w.heap.size (.slice a7 6 c7) vs7 (baseOps 1 u) rfl ?_ (.slice (some ⟨W.heap.size, 0, none⟩) 1 1) [(.int .i64 6, .string noStr, .string noStr, .slice none 0 0)] [(6, noStr, noStr, [])] rfl ?_ ?_ ?_ ?_ ?_; (exact HV1.out); (exact HX.out); (exact Nat.succ_pos 0); (exact HLN.out); (exact HB1.out.size); intro v8 w8 h8 hg8; have HV8 := hide h8; have hfn := FIN.out v8 w8 hg8; have HB8 := hide hfn.1; have HL8 := hide hfn.2; clear h8 hg8 hfn))
  rw [show baseOps 1 u ++ [(6, noStr, noStr, [])] = fmtOps 1 u from rfl] at HV8
  obtain ⟨a8, c8, rfl⟩ := HV8.out.slice
  have HDO := hide (implDo_any _ (bareD q) a8 c8 (fmtOps 1 u) w8 (HEG.out w8 HB8.out) (bare_modest q) (fun o ho => by cases ho) (bare_at w8 q) (by have := fmt_len 1 u; omega) (fmt_size 1 u) HV8.out.at)
  have HYES := hide (fun h => fmt_yes (k := 1) (u := u) (q := q) ⟨hu0, by simp, h⟩)
  have HNO := hide (fun (h : ¬ (doOf (bareD q) (fmtOps 1 u)).2.2 = 0) => fmt_no (k := 1) (u := u) (q := q) (fun x => h x.2.2))
  generalize doOf (bareD q) (fmtOps 1 u) = R at HDO HYES HNO
  obtain ⟨C, nn, cc⟩ := R
  simp only at HYES HNO
  clear HV HV1 HV8 HX HL HL1 HB HB1 FIN
  refine HDO.out.mono ?_
  rintro e w9 ⟨s1, s2, s3, s4, svs, rfl, hos, hb9⟩
  obtain ⟨q1, j1, r1, q2, j2, r2, q3, j3, r3, q4, j4, r4, rfl, rfl, rfl, rfl⟩ := da_sl hos
  have n10 := (Below.refl w9.heap.size w9).alloc (Nat.le_refl _) (.cells #[.slice q1 j1 r1, .slice q2 j2 r2, .slice q3 j3 r3, .slice q4 j4 r4, .int .i64 C.quota, .int .i64 (nn : Int), .int .i64 cc] 41)
  have S10 := Laid.new w9 #[.slice q1 j1 r1, .slice q2 j2 r2, .slice q3 j3 r3, .slice q4 j4 r4, .int .i64 C.quota, .int .i64 (nn : Int), .int .i64 cc] 41
  have HB := hide (HB8.out.trans ((hb9.trans (n10.mono hb9.size)).mono HB8.out.size))
  have L10 := (HL8.out.below hb9 HL8.out.lt).below n10 (HL8.out.below hb9 HL8.out.lt).lt
  have HOS := hide (hos.below n10)
  have HSZ := hide (show w8.heap.size ≤ w9.heap.size from hb9.size)
  have HS8 := hide HL8.out.lt
  have HH10 := hide n10.size
  clear HDO hos hb9 n10 HB8
  go_upto_region 13 with fail
  generalize w9.alloc (.cells #[.slice q1 j1 r1, .slice q2 j2 r2, .slice q3 j3 r3, .slice q4 j4 r4, .int .i64 C.quota, .int .i64 (nn : Int), .int .i64 cc] 41) = w10 at S10 HB L10 HOS HH10 ⊢
  have u0 : w10.cell? ⟨w9.heap.size, 0, none⟩ = some (.slice q1 j1 r1) := S10.cell 0
  have u1 : w10.cell? ⟨w9.heap.size, 1, none⟩ = some (.slice q2 j2 r2) := S10.cell 1
  have u2 : w10.cell? ⟨w9.heap.size, 2, none⟩ = some (.slice q3 j3 r3) := S10.cell 2
  have u3 : w10.cell? ⟨w9.heap.size, 3, none⟩ = some (.slice q4 j4 r4) := S10.cell 3
  have u4 : w10.cell? ⟨w9.heap.size, 4, none⟩ = some (.int .i64 C.quota) := S10.cell 4
  have u5 : w10.cell? ⟨w9.heap.size, 5, none⟩ = some (.int .i64 (nn : Int)) := S10.cell 5
  have u6 : w10.cell? ⟨w9.heap.size, 6, none⟩ = some (.int .i64 cc) := S10.cell 6
  have z0 : w10.cell? ⟨w.heap.size, 0, none⟩ = some (.slice none 0 0) := L10.cell 0
  have z1 : w10.cell? ⟨w.heap.size, 1, none⟩ = some (.slice none 0 0) := L10.cell 1
  have z2 : w10.cell? ⟨w.heap.size, 2, none⟩ = some (.slice none 0 0) := L10.cell 2
  have z3 : w10.cell? ⟨w.heap.size, 3, none⟩ = some (.slice none 0 0) := L10.cell 3
  have z4 : w10.cell? ⟨w.heap.size, 4, none⟩ = some (.int .i64 0) := L10.cell 4
  have f0 := frozen_of_row w10 (w.heap.size) 0 _ _ L10
  have f1 := frozen_of_row w10 (w.heap.size) 1 _ _ L10
  have f2 := frozen_of_row w10 (w.heap.size) 2 _ _ L10
  have f3 := frozen_of_row w10 (w.heap.size) 3 _ _ L10
  have f4 := frozen_of_row w10 (w.heap.size) 4 _ _ L10
  have HL := hide L10
  have HSL := hide S10.lt
  clear S10 L10
  by_cases hc : cc = 0
  · subst hc
    have HR := hide (HYES.out rfl)
    go_wp2
    exact bodyPost_ret (ret_disk w.heap.size _ _ _ _ _ _ rfl rfl (set_disk _ _ _ _ _ HL.out)) rfl (fm_da HR.out HOS.out HL.out HB.out HS8.out HH10.out)
  · have HR := hide (HNO.out hc)
    go_wp2
    exact bodyPost_ret (ret_disk w.heap.size _ _ _ _ _ _ rfl rfl (set_disk _ _ _ _ _ HL.out)) rfl (fm_noa HR.out HB.out)
set_option maxHeartbeats 4000000 in
set_option maxRecDepth 20000 in
theorem implFmt3 (u : Nat) (q : Int) (w : World) (hu : u < 4294967296) (hu0 : ¬ u = 0) (hg : ErrG w) (htab : TabIs Tryz.prog w "internal/strconv.uint64pow10" .u64 Lib.pow10Tab) :
    Calls Tryz.prog 6 #[.int .i64 3, .int .u32 (u : Int), .int .i64 q] w (FmaPost w (fmtOf 3 u q)) := by
  have HEG := hide (fun w' (hb : Below w.heap.size w w') => show ErrG w' from (hb.cell (p := ⟨0, 0, none⟩) (lt_cell hg)).trans hg)
  have HTB := hide (fun w' (hb : Below w.heap.size w w') => tabIs_below htab hb)
  have hA := (Below.refl w.heap.size w).alloc (Nat.le_refl _) (.cells #[.slice none 0 0, .slice none 0 0, .slice none 0 0, .slice none 0 0, .int .i64 0] 27)
  have L0 := Laid.new w #[.slice none 0 0, .slice none 0 0, .slice none 0 0, .slice none 0 0, .int .i64 0] 27
  have HRB := hide (recOf_byte [86] [u, 1] (fun x hx => by obtain rfl := List.mem_singleton.1 hx; omega))
  have HRL := hide (show (recOf [86] [u, 1]).length ≤ 1000 from Nat.le_trans (recOf_len [86] [u, 1] (fun n hn => by simp only [List.mem_cons, List.not_mem_nil, or_false] at hn; omega)) (by simp))
  clear hg htab
  go_enter Tryz.func6, Tryz.ntmps6
  go_upto_region 1 with fail
  generalize w.alloc (.cells #[.slice none 0 0, .slice none 0 0, .slice none 0 0, .slice none 0 0, .int .i64 0] 27) = w0 at hA L0 ⊢
  have HB0 := hide hA
  have HL0 := hide L0
  clear hA L0
  have hal := (Below.refl w0.heap.size w0).alloc (Nat.le_refl _) (.cells #[.int .u64 (u : Int), .int .u64 1] 58)
  have LN := Laid.new w0 #[.int .u64 (u : Int), .int .u64 1] 58
  have HB1 := hide (HB0.out.trans (hal.mono HB0.out.size))
  have HL1 := hide (HL0.out.below hal HL0.out.lt)
  have hU : U64At (w0.alloc (.cells #[.int .u64 (u : Int), .int .u64 1] 58)) (some ⟨w0.heap.size, 0, none⟩) [u, 1] := fun _ => ⟨w0.heap.size, 0, rfl, fun i hi => by
    match i, hi with
    | 0, _ => exact LN.cell 0
    | 1, _ => exact LN.cell 1⟩
  have HRC := hide (record_any [86] (some ⟨w0.heap.size, 0, none⟩) 2 [u, 1] _ (fun x hx => by obtain rfl := List.mem_singleton.1 hx; omega) (by simp) (by simp) (fun n hn => by simp only [List.mem_cons, List.not_mem_nil, or_false] at hn; omega) hU (fun X hX => HTB.out X (HB1.out.trans (hX.mono HB1.out.size))))
  rw [show strB [86] = (⟨#[86]⟩ : ByteArray) from rfl] at HRC
  clear hal LN hU
  go_wp2_with fail
  refine HRC.out.mono ?_
  rintro e w1 ⟨v1, g1, cap1, rfl, ho1, hg1, hb1⟩
  have HB2 := hide (HB1.out.trans (hb1.mono HB1.out.size))
  have HL2 := hide (HL1.out.below hb1 HL1.out.lt)
  have hv1 := ho1.val
  subst hv1
  have hal := (Below.refl w1.heap.size w1).alloc (Nat.le_refl _) (.cells #[.slice (some ⟨g1, 0, none⟩) (recOf [86] [u, 1]).length cap1] 52)
  have LR := Laid.new w1 #[.slice (some ⟨g1, 0, none⟩) (recOf [86] [u, 1]).length cap1] 52
  have HB3 := hide (HB2.out.trans (hal.mono HB2.out.size))
  have HL3 := hide (HL2.out.below hal HL2.out.lt)
  have hrow := rows_one (LR.cell 0) (ho1.row.below hal)
  have HF := hide (implFrame_any (some ⟨w1.heap.size, 0, none⟩) 1 [recOf [86] [u, 1]] _ (by simp) (fun x hx => by obtain rfl := List.mem_singleton.1 hx; have := HRL.out; omega) hrow (fun x hx => by obtain rfl := List.mem_singleton.1 hx; exact HRB.out))
  have hfl := frameOf_len [recOf [86] [u, 1]]
  have HFO := hide (show ∃ fo, fo = frameOf [recOf [86] [u, 1]] from ⟨_, rfl⟩)
  clear ho1 hg1 hb1 hal LR hrow HB1 HL1 HRC
  obtain ⟨fo, hfo⟩ := HFO.out
  have HFE := hide hfo.symm
  rw [← hfo] at hfl HF
  clear HFO hfo
  obtain ⟨rr, hrr⟩ : ∃ x, x = recOf [86] [u, 1] := ⟨_, rfl⟩
  rw [← hrr] at HF HFE HB3 HL3 ⊢
  have HRR := hide hrr.symm
  clear hrr
  go_wp2_with fail
  refine HF.out.mono ?_
  rintro e w2 ⟨v2, rfl, ho2, hb2⟩
  obtain ⟨a2, c2, rfl⟩ := OwnB.slice ho2
  have HB4 := hide (HB3.out.trans (hb2.mono HB3.out.size))
  have HL4 := hide (HL3.out.below hb2 HL3.out.lt)
  have HP := hide (made_any nmUid a2 c2 fo w2 (by omega) (OwnB.row ho2))
  clear ho2 hb2 HF HB3 HL3 HB2 HL2
  unfold nmUid at HP
  go_wp2_with fail
  refine HP.out.mono ?_
  rintro e w3 ⟨v3, vs3, rfl, ho3, hb3⟩
  obtain ⟨a7, c7, hv3⟩ := ho3.slice
  rw [show (putOps _ fo).length = 3 from rfl] at hv3
  subst hv3
  have HB5 := hide (HB4.out.trans (hb3.mono HB4.out.size))
  have HL5 := hide (HL4.out.below hb3 HL4.out.lt)
  have HV5 := hide (ho3.mono HB4.out.size)
  clear ho3 hb3 HP HB4 HL4
  obtain ⟨W, hW⟩ : ∃ x, x = w3 := ⟨_, rfl⟩
  subst hW
  obtain ⟨vs7, hvs7⟩ : ∃ x, x = vs3 := ⟨_, rfl⟩
  subst hvs7
  have HV := hide (show OwnV W w.heap.size (.slice a7 3 c7) vs7 (baseOps 3 u) from by unfold baseOps nmUid; rw [if_neg (by decide), HRR.out, HFE.out]; exact HV5.out)
  have HB := HB5
  have HL := HL5
  clear HV5 HB5 HL5
  have HLN := hide (show (baseOps 3 u).length + [((6 : Int), noStr, noStr, ([] : List Nat))].length ≤ 1048576 from by have := fmt_len 3 u; unfold fmtOps at this; rw [List.length_append] at this; omega)
  have hal := (Below.refl W.heap.size W).alloc (Nat.le_refl _) (.cells (four [(.int .i64 6, .string noStr, .string noStr, .slice none 0 0)]).toArray 56)
  have HX := hide ((ownV_new W W.heap.size [(.int .i64 6, .string noStr, .string noStr, .slice none 0 0)] [(6, noStr, noStr, [])] (Nat.le_refl _) (by simp) rfl (fun i hi => by
    match i, hi with
    | 0, _ => exact ⟨_, rfl, OwnB.nil _ _⟩)).mono HB.out.size)
  have HV1 := hide (HV.out.below' hal)
  have HB1 := hide (HB.out.trans (hal.mono HB.out.size))
  have HL1 := hide (HL.out.below hal HL.out.lt)
  have FIN := hide (fun (v5 : Value) (w5 : World) (hg : (W.alloc (.cells (four [(.int .i64 6, .string noStr, .string noStr, .slice none 0 0)]).toArray 56)).grownBy w5 (Value.slice a7 3 c7).ownBlock) => show Below w.heap.size w w5 ∧ Laid w5 w.heap.size #[.slice none 0 0, .slice none 0 0, .slice none 0 0, .slice none 0 0, .int .i64 0] 27 from
    have f := Fr.of_grown (S := fun g => (Value.slice a7 3 c7).ownBlock = some g) hg (fun k e => e)
    ⟨HB1.out.trans (f.below (fun g e => (own_ge HV1.out.row e).1) HB1.out.size), (f.block _ HL1.out.lt (fun e => absurd (HL1.out.kind.ne (own_kind HV1.out.row e)) (by decide))).trans HL1.out⟩)
  clear hal
  go_wp2_with (at_builtin; (refine wpList_append_ops _ rfl (.tmp 41) (.tmp 43) rfl w.heap.size (.slice a7 3 c7) vs7 (baseOps 3 u) rfl ?_ (.slice (some ⟨W.heap.size, 0, none⟩) 1 1) [(.int .i64 6, .string noStr, .string noStr, .slice none 0 0)] [(6, noStr, noStr, [])] rfl ?_ ?_ ?_ ?_ ?_; (exact HV1.out); (exact HX.out); (exact Nat.succ_pos 0); (exact HLN.out); (exact HB1.out.size); intro v8 w8 h8 hg8; have HV8 := hide h8; have hfn := FIN.out v8 w8 hg8; have HB8 := hide hfn.1; have HL8 := hide hfn.2; clear h8 hg8 hfn))
  rw [show baseOps 3 u ++ [(6, noStr, noStr, [])] = fmtOps 3 u from rfl] at HV8
  obtain ⟨a8, c8, rfl⟩ := HV8.out.slice
  have HDO := hide (implDo_any _ (bareD q) a8 c8 (fmtOps 3 u) w8 (HEG.out w8 HB8.out) (bare_modest q) (fun o ho => by cases ho) (bare_at w8 q) (by have := fmt_len 3 u; omega) (fmt_size 3 u) HV8.out.at)
  have HYES := hide (fun h => fmt_yes (k := 3) (u := u) (q := q) ⟨hu0, by simp, h⟩)
  have HNO := hide (fun (h : ¬ (doOf (bareD q) (fmtOps 3 u)).2.2 = 0) => fmt_no (k := 3) (u := u) (q := q) (fun x => h x.2.2))
  generalize doOf (bareD q) (fmtOps 3 u) = R at HDO HYES HNO
  obtain ⟨C, nn, cc⟩ := R
  simp only at HYES HNO
  clear HV HV1 HV8 HX HL HL1 HB HB1 FIN
  refine HDO.out.mono ?_
  rintro e w9 ⟨s1, s2, s3, s4, svs, rfl, hos, hb9⟩
  obtain ⟨q1, j1, r1, q2, j2, r2, q3, j3, r3, q4, j4, r4, rfl, rfl, rfl, rfl⟩ := da_sl hos
  have n10 := (Below.refl w9.heap.size w9).alloc (Nat.le_refl _) (.cells #[.slice q1 j1 r1, .slice q2 j2 r2, .slice q3 j3 r3, .slice q4 j4 r4, .int .i64 C.quota, .int .i64 (nn : Int), .int .i64 cc] 41)
  have S10 := Laid.new w9 #[.slice q1 j1 r1, .slice q2 j2 r2, .slice q3 j3 r3, .slice q4 j4 r4, .int .i64 C.quota, .int .i64 (nn : Int), .int .i64 cc] 41
  have HB := hide (HB8.out.trans ((hb9.trans (n10.mono hb9.size)).mono HB8.out.size))
  have L10 := (HL8.out.below hb9 HL8.out.lt).below n10 (HL8.out.below hb9 HL8.out.lt).lt
  have HOS := hide (hos.below n10)
  have HSZ := hide (show w8.heap.size ≤ w9.heap.size from hb9.size)
  have HS8 := hide HL8.out.lt
  have HH10 := hide n10.size
  clear HDO hos hb9 n10 HB8
  go_upto_region 13 with fail
  generalize w9.alloc (.cells #[.slice q1 j1 r1, .slice q2 j2 r2, .slice q3 j3 r3, .slice q4 j4 r4, .int .i64 C.quota, .int .i64 (nn : Int), .int .i64 cc] 41) = w10 at S10 HB L10 HOS HH10 ⊢
  have u0 : w10.cell? ⟨w9.heap.size, 0, none⟩ = some (.slice q1 j1 r1) := S10.cell 0
  have u1 : w10.cell? ⟨w9.heap.size, 1, none⟩ = some (.slice q2 j2 r2) := S10.cell 1
  have u2 : w10.cell? ⟨w9.heap.size, 2, none⟩ = some (.slice q3 j3 r3) := S10.cell 2
  have u3 : w10.cell? ⟨w9.heap.size, 3, none⟩ = some (.slice q4 j4 r4) := S10.cell 3
  have u4 : w10.cell? ⟨w9.heap.size, 4, none⟩ = some (.int .i64 C.quota) := S10.cell 4
  have u5 : w10.cell? ⟨w9.heap.size, 5, none⟩ = some (.int .i64 (nn : Int)) := S10.cell 5
  have u6 : w10.cell? ⟨w9.heap.size, 6, none⟩ = some (.int .i64 cc) := S10.cell 6
  have z0 : w10.cell? ⟨w.heap.size, 0, none⟩ = some (.slice none 0 0) := L10.cell 0
  have z1 : w10.cell? ⟨w.heap.size, 1, none⟩ = some (.slice none 0 0) := L10.cell 1
  have z2 : w10.cell? ⟨w.heap.size, 2, none⟩ = some (.slice none 0 0) := L10.cell 2
  have z3 : w10.cell? ⟨w.heap.size, 3, none⟩ = some (.slice none 0 0) := L10.cell 3
  have z4 : w10.cell? ⟨w.heap.size, 4, none⟩ = some (.int .i64 0) := L10.cell 4
  have f0 := frozen_of_row w10 (w.heap.size) 0 _ _ L10
  have f1 := frozen_of_row w10 (w.heap.size) 1 _ _ L10
  have f2 := frozen_of_row w10 (w.heap.size) 2 _ _ L10
  have f3 := frozen_of_row w10 (w.heap.size) 3 _ _ L10
  have f4 := frozen_of_row w10 (w.heap.size) 4 _ _ L10
  have HL := hide L10
  have HSL := hide S10.lt
  clear S10 L10
  by_cases hc : cc = 0
  · subst hc
    have HR := hide (HYES.out rfl)
    go_wp2
    exact bodyPost_ret (ret_disk w.heap.size _ _ _ _ _ _ rfl rfl (set_disk _ _ _ _ _ HL.out)) rfl (fm_da HR.out HOS.out HL.out HB.out HS8.out HH10.out)
  · have HR := hide (HNO.out hc)
    go_wp2
    exact bodyPost_ret (ret_disk w.heap.size _ _ _ _ _ _ rfl rfl (set_disk _ _ _ _ _ HL.out)) rfl (fm_noa HR.out HB.out)
set_option maxRecDepth 20000 in
theorem implFmt_no (k : Int) (u : Nat) (q : Int) (w : World) (h : u = 0 ∨ (k ≠ 1 ∧ k ≠ 3)) :
    Calls Tryz.prog 6 #[.int .i64 k, .int .u32 (u : Int), .int .i64 q] w (FmaPost w (fmtOf k u q)) := by
  have hA := (Below.refl w.heap.size w).alloc (Nat.le_refl _) (.cells #[.slice none 0 0, .slice none 0 0, .slice none 0 0, .slice none 0 0, .int .i64 0] 27)
  have L0 := Laid.new w #[.slice none 0 0, .slice none 0 0, .slice none 0 0, .slice none 0 0, .int .i64 0] 27
  have HB := hide hA
  have HL := hide L0
  have HR := hide (fmt_no (k := k) (u := u) (q := q) (fun x => h.elim x.1 (fun y => x.2.1.elim y.1 y.2)))
  clear hA L0
  by_cases hu0 : u = 0
  · subst hu0
    clear h
    go_enter Tryz.func6, Tryz.ntmps6
    go_upto_region 1 with fail
    generalize w.alloc (.cells #[.slice none 0 0, .slice none 0 0, .slice none 0 0, .slice none 0 0, .int .i64 0] 27) = w0 at HB HL ⊢
    have f0 := frozen_of_row w0 (w.heap.size) 0 _ _ HL.out
    have f1 := frozen_of_row w0 (w.heap.size) 1 _ _ HL.out
    have f2 := frozen_of_row w0 (w.heap.size) 2 _ _ HL.out
    have f3 := frozen_of_row w0 (w.heap.size) 3 _ _ HL.out
    have f4 := frozen_of_row w0 (w.heap.size) 4 _ _ HL.out
    have z0 : w0.cell? ⟨w.heap.size, 0, none⟩ = some (.slice none 0 0) := HL.out.cell 0
    have z1 : w0.cell? ⟨w.heap.size, 1, none⟩ = some (.slice none 0 0) := HL.out.cell 1
    have z2 : w0.cell? ⟨w.heap.size, 2, none⟩ = some (.slice none 0 0) := HL.out.cell 2
    have z3 : w0.cell? ⟨w.heap.size, 3, none⟩ = some (.slice none 0 0) := HL.out.cell 3
    have z4 : w0.cell? ⟨w.heap.size, 4, none⟩ = some (.int .i64 0) := HL.out.cell 4
    go_wp2
    exact bodyPost_ret (ret_disk w.heap.size _ _ _ _ _ _ rfl rfl (set_disk _ _ _ _ _ HL.out)) rfl (fm_noa HR.out HB.out)
  · have hk1 : ¬ k = 1 := fun e => h.elim hu0 (fun y => y.1 e)
    have hk3 : ¬ k = 3 := fun e => h.elim hu0 (fun y => y.2 e)
    clear h
    go_enter Tryz.func6, Tryz.ntmps6
    go_upto_region 1 with fail
    generalize w.alloc (.cells #[.slice none 0 0, .slice none 0 0, .slice none 0 0, .slice none 0 0, .int .i64 0] 27) = w0 at HB HL ⊢
    have f0 := frozen_of_row w0 (w.heap.size) 0 _ _ HL.out
    have f1 := frozen_of_row w0 (w.heap.size) 1 _ _ HL.out
    have f2 := frozen_of_row w0 (w.heap.size) 2 _ _ HL.out
    have f3 := frozen_of_row w0 (w.heap.size) 3 _ _ HL.out
    have f4 := frozen_of_row w0 (w.heap.size) 4 _ _ HL.out
    have z0 : w0.cell? ⟨w.heap.size, 0, none⟩ = some (.slice none 0 0) := HL.out.cell 0
    have z1 : w0.cell? ⟨w.heap.size, 1, none⟩ = some (.slice none 0 0) := HL.out.cell 1
    have z2 : w0.cell? ⟨w.heap.size, 2, none⟩ = some (.slice none 0 0) := HL.out.cell 2
    have z3 : w0.cell? ⟨w.heap.size, 3, none⟩ = some (.slice none 0 0) := HL.out.cell 3
    have z4 : w0.cell? ⟨w.heap.size, 4, none⟩ = some (.int .i64 0) := HL.out.cell 4
    go_wp2
    exact bodyPost_ret (ret_disk w.heap.size _ _ _ _ _ _ rfl rfl (set_disk _ _ _ _ _ HL.out)) rfl (fm_noa HR.out HB.out)
theorem implFormat_any (k : Int) (u : Nat) (q : Int) (w : World) (hu : u < 4294967296) (hg : ErrG w) (htab : TabIs Tryz.prog w "internal/strconv.uint64pow10" .u64 Lib.pow10Tab) :
    Calls Tryz.prog 6 #[.int .i64 k, .int .u32 (u : Int), .int .i64 q] w (FmaPost w (fmtOf k u q)) := by
  by_cases hu0 : u = 0
  · exact implFmt_no k u q w (.inl hu0)
  by_cases h1 : k = 1
  · subst h1; exact implFmt1 u q w hu hu0 hg htab
  by_cases h3 : k = 3
  · subst h3; exact implFmt3 u q w hu hu0 hg htab
  exact implFmt_no k u q w (.inr ⟨h1, h3⟩)
theorem specFormat_any (k : Int) (u : Nat) (q : Int) (w : World) (hu : u < 4294967296) :
    Calls Tryz.prog 5 #[.int .i64 k, .int .u32 (u : Int), .int .i64 q] w (FmPost w (fmtOf k u q)) := by
  by_cases h1 : k = 1
  · subst h1; exact specFmt1 u q w hu
  by_cases h3 : k = 3
  · subst h3; exact specFmt3 u q w hu
  exact specFmt_other k u q w h1 h3
end Go.Proofs.YtpbpidfjecejcaaGreatDoor
namespace Go.Proofs.YtpbpidfjecejcaaGreatDoor
open Go.RowKit Go.Lib
set_option linter.unusedVariables false
theorem fmt_small (k : Int) (u : Nat) (q : Int) : Small (fmtOf k u q) := by
  by_cases h : u ≠ 0 ∧ (k = 1 ∨ k = 3) ∧ (doOf (bareD q) (fmtOps k u)).2.2 = 0
  · rw [fmt_yes h]
    exact do_small _ (bare_modest q)
  · rw [fmt_no h]
    exact small_of (by simp [noDisk]) (by simp [noDisk]) (by simp [noDisk]) (by simp [noDisk]) (fun e he => by cases he)
/-- How the law stands behind the second call. -/
structure FmT (w5 W : World) (n8 n9 : Nat) (g1 g2 g3 g4 : Value) (vs : List (Value × Value)) (q : Int) (C : MDisk) : Prop where
  bel : Below w5.heap.size w5 W
  g : OwnDA W n8 n9 g1 g2 g3 g4 vs C
  gb : Laid W n9 #[g1, g2, g3, g4, .int .i64 q] 27
  o8 : w5.heap.size ≤ n8
  o9 : n8 ≤ n9
theorem FmT.below {w5 W W' : World} {n8 n9 : Nat} {g1 g2 g3 g4 : Value} {vs : List (Value × Value)} {q : Int} {C : MDisk} (h : FmT w5 W n8 n9 g1 g2 g3 g4 vs q C) (hb : Below W.heap.size W W') : FmT w5 W' n8 n9 g1 g2 g3 g4 vs q C :=
  ⟨h.bel.trans (hb.mono h.bel.size), h.g.below hb, h.gb.below hb h.gb.lt, h.o8, h.o9⟩
theorem FmT.marked {w5 W W' : World} {n8 n9 : Nat} {g1 g2 g3 g4 : Value} {vs vs' : List (Value × Value)} {q : Int} {C C' : MDisk} (h : FmT w5 W n8 n9 g1 g2 g3 g4 vs q C) (hg : OwnDA W' n8 n9 g1 g2 g3 g4 vs' C') (hf : Fr (fun g => n8 ≤ g ∧ g < n9) W W') : FmT w5 W' n8 n9 g1 g2 g3 g4 vs' q C' := by
  have h8 := h.o8
  refine ⟨h.bel.trans (hf.below (fun g e => by omega) h.bel.size), hg, (hf.block n9 h.gb.lt (by omega)).trans h.gb, h8, h.o9⟩
set_option maxRecDepth 20000 in
set_option maxHeartbeats 8000000 in
theorem fmt_law (k : Int) (u : Nat) (q : Int) (w : World) (hu : u < 4294967296) (hg : ErrG w) (htab : TabIs Tryz.prog w "internal/strconv.uint64pow10" .u64 Lib.pow10Tab) :
    Calls Tryz.prog 3 #[.int .i64 k, .int .u32 (u : Int), .int .i64 q] w fun e w' => e = .returned (.bool true) ∧ Below w.heap.size w w' := by
  have HSR := hide (specFormat_any k u q w hu)
  have HIR := hide (fun (X : World) (hX : Below w.heap.size w X) => implFormat_any k u q X hu ((hX.cell (p := ⟨0, 0, none⟩) (lt_cell hg)).trans hg) (tabIs_below htab hX))
  have hsmC := fmt_small k u q
  generalize fmtOf k u q = C at HSR HIR hsmC
  have HEC := hide (fun (x y : Value) (X : World) (hx : DiskAt X x C) (hy : DiskAt X y C) => eqDisk_same x y C X hsmC.n1 hsmC.n2 hsmC.n3 hsmC.n4 hsmC.ns hx hy)
  have HSC := hide hsmC
  unfold FmPost at HSR
  unfold FmaPost at HIR
  clear hsmC hg htab
  go_enter Tryz.func3, Tryz.ntmps3
  go_wp2_with fail
  refine HSR.out.mono ?_
  rintro e w4 ⟨s1, s2, s3, s4, rfl, hos, hb4⟩
  obtain ⟨q1, j1, r1, q2, j2, r2, q3, j3, r3, q4, j4, r4, rfl, rfl, rfl, rfl⟩ := dk_sl hos
  have n5 := (Below.refl w4.heap.size w4).alloc (Nat.le_refl _) (.cells #[.slice q1 j1 r1, .slice q2 j2 r2, .slice q3 j3 r3, .slice q4 j4 r4, .int .i64 C.quota] 27)
  have S5 := Laid.new w4 #[.slice q1 j1 r1, .slice q2 j2 r2, .slice q3 j3 r3, .slice q4 j4 r4, .int .i64 C.quota] 27
  have SD5 := hos.own.at.below n5
  have HB5 := hide (hb4.trans (n5.mono hb4.size))
  clear hos hb4 HSR
  generalize hW5 : w4.alloc (.cells #[.slice q1 j1 r1, .slice q2 j2 r2, .slice q3 j3 r3, .slice q4 j4 r4, .int .i64 C.quota] 27) = w5 at n5 S5 SD5 HB5
  go_wp2_with fail
  have H5 := hide (fun (W : World) (hW : Below w5.heap.size w5 W) => And.intro (S5.below hW S5.lt) (SD5.below hW))
  have HBB := hide (fun (W : World) (hW : Below w5.heap.size w5 W) => HB5.out.trans (hW.mono HB5.out.size))
  clear hW5 n5 S5 SD5
  refine (HIR.out w5 HB5.out).mono ?_
  rintro e w9 ⟨g1, g2, g3, g4, vs, rfl, hog, hb9⟩
  obtain ⟨f1, i1, l1, f2, i2, l2, f3, i3, l3, f4, i4, l4, rfl, rfl, rfl, rfl⟩ := da_sl hog
  have n10 := (Below.refl w9.heap.size w9).alloc (Nat.le_refl _) (.cells #[.slice f1 i1 l1, .slice f2 i2 l2, .slice f3 i3 l3, .slice f4 i4 l4, .int .i64 C.quota] 27)
  have hb10 := hb9.trans (n10.mono hb9.size)
  have GB10 := Laid.new w9 #[.slice f1 i1 l1, .slice f2 i2 l2, .slice f3 i3 l3, .slice f4 i4 l4, .int .i64 C.quota] 27
  have G10 := hog.below n10
  have s89 := hb9.size
  generalize hW10 : w9.alloc (.cells #[.slice f1 i1 l1, .slice f2 i2 l2, .slice f3 i3 l3, .slice f4 i4 l4, .int .i64 C.quota] 27) = w10 at n10 GB10 G10 hb10
  have ST := hide (show FmT w5 w10 w5.heap.size w9.heap.size (.slice f1 i1 l1) (.slice f2 i2 l2) (.slice f3 i3 l3) (.slice f4 i4 l4) vs C.quota C from ⟨hb10, G10, GB10, Nat.le_refl _, s89⟩)
  obtain ⟨S10, SD10⟩ := H5.out w10 hb10
  have u0 : w10.cell? ⟨w4.heap.size, 0, none⟩ = some (.slice q1 j1 r1) := S10.cell 0
  have u1 : w10.cell? ⟨w4.heap.size, 1, none⟩ = some (.slice q2 j2 r2) := S10.cell 1
  have u2 : w10.cell? ⟨w4.heap.size, 2, none⟩ = some (.slice q3 j3 r3) := S10.cell 2
  have u3 : w10.cell? ⟨w4.heap.size, 3, none⟩ = some (.slice q4 j4 r4) := S10.cell 3
  have u4 : w10.cell? ⟨w4.heap.size, 4, none⟩ = some (.int .i64 C.quota) := S10.cell 4
  have v0 : w10.cell? ⟨w9.heap.size, 0, none⟩ = some (.slice f1 i1 l1) := GB10.cell 0
  have v1 : w10.cell? ⟨w9.heap.size, 1, none⟩ = some (.slice f2 i2 l2) := GB10.cell 1
  have v2 : w10.cell? ⟨w9.heap.size, 2, none⟩ = some (.slice f3 i3 l3) := GB10.cell 2
  have v3 : w10.cell? ⟨w9.heap.size, 3, none⟩ = some (.slice f4 i4 l4) := GB10.cell 3
  have v4 : w10.cell? ⟨w9.heap.size, 4, none⟩ = some (.int .i64 C.quota) := GB10.cell 4
  have GD10 := G10.own.at
  clear n10 hb10 GB10 G10 hb9 hog S10
  go_wp2_with fail
  refine (HEC.out _ _ w10 GD10 SD10).mono ?_
  rintro e w11 ⟨rfl, hb11⟩
  have T18 := hide (ST.out.below hb11)
  clear hb11 ST u0 u1 u2 u3 u4 v0 v1 v2 v3 v4 GD10 SD10 hW10
  have GB18 := T18.out.gb
  have hlt18 := GB18.lt
  have v0 : w11.cell? ⟨w9.heap.size, 0, none⟩ = some (.slice f1 i1 l1) := GB18.cell 0
  have v1 : w11.cell? ⟨w9.heap.size, 1, none⟩ = some (.slice f2 i2 l2) := GB18.cell 1
  have v2 : w11.cell? ⟨w9.heap.size, 2, none⟩ = some (.slice f3 i3 l3) := GB18.cell 2
  have v3 : w11.cell? ⟨w9.heap.size, 3, none⟩ = some (.slice f4 i4 l4) := GB18.cell 3
  have v4 : w11.cell? ⟨w9.heap.size, 4, none⟩ = some (.int .i64 C.quota) := GB18.cell 4
  clear GB18
  go_wp2_with fail
  refine (markDisk_own w5.heap.size w9.heap.size _ _ _ _ vs C w11 (by omega) HSC.out.k (by have := HSC.out.n1; omega) T18.out.g).mono ?_
  rintro e w19 ⟨rfl, ⟨vs', hg19⟩, f19⟩
  have T19 := hide (T18.out.marked hg19 f19)
  clear hg19 f19 T18 v0 v1 v2 v3 v4 hlt18
  have HLD := hide (fun (W : World) (h : DiskAt W (.agg #[.slice f1 i1 l1, .slice f2 i2 l2, .slice f3 i3 l3, .slice f4 i4 l4, .int .i64 C.quota]) (mkD C)) => heldDisk_any _ C W HSC.out.k (by have := HSC.out.n1; omega) h)
  generalize kD4 C = KC at HLD
  have hKC : ¬ ((KC : Nat) : Int) < 0 := by omega
  have hKK : (((KC : Nat) : Int) != ((KC : Nat) : Int)) = false := by simp
  have GB19 := T19.out.gb
  have v0 : w19.cell? ⟨w9.heap.size, 0, none⟩ = some (.slice f1 i1 l1) := GB19.cell 0
  have v1 : w19.cell? ⟨w9.heap.size, 1, none⟩ = some (.slice f2 i2 l2) := GB19.cell 1
  have v2 : w19.cell? ⟨w9.heap.size, 2, none⟩ = some (.slice f3 i3 l3) := GB19.cell 2
  have v3 : w19.cell? ⟨w9.heap.size, 3, none⟩ = some (.slice f4 i4 l4) := GB19.cell 3
  have v4 : w19.cell? ⟨w9.heap.size, 4, none⟩ = some (.int .i64 C.quota) := GB19.cell 4
  clear GB19
  go_wp2_with fail
  refine (HLD.out w19 T19.out.g.own.at).mono ?_
  rintro e w20 ⟨rfl, hb20⟩
  have T20 := hide (T19.out.below hb20)
  clear hb20 T19 v0 v1 v2 v3 v4
  go_wp2_with fail
  refine (HIR.out w20 (HBB.out w20 T20.out.bel)).mono ?_
  rintro e w23 ⟨y1, y2, y3, y4, yvs, rfl, hoy, hb23⟩
  obtain ⟨y1, o1, p1, y2, o2, p2, y3, o3, p3, y4, o4, p4, rfl, rfl, rfl, rfl⟩ := da_sl hoy
  have n24 := (Below.refl w23.heap.size w23).alloc (Nat.le_refl _) (.cells #[.slice y1 o1 p1, .slice y2 o2 p2, .slice y3 o3 p3, .slice y4 o4 p4, .int .i64 C.quota] 27)
  have Y24 := Laid.new w23 #[.slice y1 o1 p1, .slice y2 o2 p2, .slice y3 o3 p3, .slice y4 o4 p4, .int .i64 C.quota] 27
  have hb24 := hb23.trans (n24.mono hb23.size)
  have T24 := hide (T20.out.below hb24)
  have YD24 := hoy.own.at.below n24
  generalize hW24 : w23.alloc (.cells #[.slice y1 o1 p1, .slice y2 o2 p2, .slice y3 o3 p3, .slice y4 o4 p4, .int .i64 C.quota] 27) = w24 at n24 Y24 hb24 T24 YD24
  obtain ⟨S24, SD24⟩ := H5.out w24 T24.out.bel
  have u0 : w24.cell? ⟨w4.heap.size, 0, none⟩ = some (.slice q1 j1 r1) := S24.cell 0
  have u1 : w24.cell? ⟨w4.heap.size, 1, none⟩ = some (.slice q2 j2 r2) := S24.cell 1
  have u2 : w24.cell? ⟨w4.heap.size, 2, none⟩ = some (.slice q3 j3 r3) := S24.cell 2
  have u3 : w24.cell? ⟨w4.heap.size, 3, none⟩ = some (.slice q4 j4 r4) := S24.cell 3
  have u4 : w24.cell? ⟨w4.heap.size, 4, none⟩ = some (.int .i64 C.quota) := S24.cell 4
  have v0 : w24.cell? ⟨w23.heap.size, 0, none⟩ = some (.slice y1 o1 p1) := Y24.cell 0
  have v1 : w24.cell? ⟨w23.heap.size, 1, none⟩ = some (.slice y2 o2 p2) := Y24.cell 1
  have v2 : w24.cell? ⟨w23.heap.size, 2, none⟩ = some (.slice y3 o3 p3) := Y24.cell 2
  have v3 : w24.cell? ⟨w23.heap.size, 3, none⟩ = some (.slice y4 o4 p4) := Y24.cell 3
  have v4 : w24.cell? ⟨w23.heap.size, 4, none⟩ = some (.int .i64 C.quota) := Y24.cell 4
  clear n24 Y24 hb24 S24 hb23 hoy T20
  go_wp2_with fail
  refine (HEC.out _ _ w24 YD24 SD24).mono ?_
  rintro e w25 ⟨rfl, hb25⟩
  have T25 := hide (T24.out.below hb25)
  clear hb25 T24 u0 u1 u2 u3 u4 v0 v1 v2 v3 v4 YD24 SD24 hW24
  have GB25 := T25.out.gb
  have v0 : w25.cell? ⟨w9.heap.size, 0, none⟩ = some (.slice f1 i1 l1) := GB25.cell 0
  have v1 : w25.cell? ⟨w9.heap.size, 1, none⟩ = some (.slice f2 i2 l2) := GB25.cell 1
  have v2 : w25.cell? ⟨w9.heap.size, 2, none⟩ = some (.slice f3 i3 l3) := GB25.cell 2
  have v3 : w25.cell? ⟨w9.heap.size, 3, none⟩ = some (.slice f4 i4 l4) := GB25.cell 3
  have v4 : w25.cell? ⟨w9.heap.size, 4, none⟩ = some (.int .i64 C.quota) := GB25.cell 4
  clear GB25
  go_wp2_with fail
  refine (HLD.out w25 T25.out.g.own.at).mono ?_
  rintro e w26 ⟨rfl, hb26⟩
  have HB26 := hide (HBB.out w26 (T25.out.below hb26).bel)
  clear hb26 T25 v0 v1 v2 v3 v4
  go_wp2
  go_ret
  exact ⟨rfl, HB26.out⟩
end Go.Proofs.YtpbpidfjecejcaaGreatDoor
