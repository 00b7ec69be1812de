import Derived.Test.YtledlicandlekabPka
import Derived.Test.YtledlicandlekabPkb
import Derived.Test.YtledlicandlekabPkc
import Derived.Test.YtledlicandlekabPkd
import Derived.Test.YtledlicandlekabPke
import Derived.Test.YtledlicandlekabPkf
import Derived.Test.YtledlicandlekabPkg
import Derived.Test.YtledlicandlekabShelfI
import Derived.Test.YtledlicandlekabPkh
import Derived.Deep.RegionWith
import Derived.ProofKit
import Derived.OpenShut
import Derived.ShutString
import Derived.ChangeOld
import Derived.Below
import Derived.Deep.SlicePairs
namespace Go.Proofs.Ytledlicandlekab
open Go.RowKit
theorem eqEntry_same (s : ByteArray) (n : Int) (w : World) :
    Calls Try.prog 67 #[.agg #[.string s, .int .i64 n], .agg #[.string s, .int .i64 n]] w fun e w' => e = .returned (.bool true) ∧ Below w.heap.size w w' := by
  go_enter Try.func67, Try.ntmps67
  go_wp2
  go_ret
  exact ⟨rfl, ((Below.refl _ _).alloc (Nat.le_refl _) _).alloc (by simp) _⟩
theorem eqEntryS_same (a a' : Option Addr) (cap cap' : Nat) (es : List (ByteArray × Int)) (w : World) (hl : es.length ≤ 9223372036854775807) (hr : EntAt w a es) (hr' : EntAt w a' es) :
    Calls Try.prog 34 #[.slice a es.length cap, .slice a' es.length cap'] w fun e w' => e = .returned (.bool true) ∧ Below w.heap.size w w' := by
  go_enter Try.func34, Try.ntmps34
  go_wp2
  go_loopw [5] (fun i wr => ∃ k : Nat, k ≤ es.length ∧ i = .int .i64 k ∧ Below w.heap.size w wr) (fun i _ => es.length - (intOf i).toNat)
  case atStart => exact ⟨0, Nat.zero_le _, rfl, Below.refl _ _⟩
  case round =>
    obtain ⟨k, hk, rfl, hnx⟩ := hrel
    by_cases hlt : k < es.length
    · obtain ⟨b, off, rfl, hc⟩ := (hr.below hnx) (by omega)
      obtain ⟨b', off', rfl, hc'⟩ := (hr'.below hnx) (by omega)
      obtain ⟨hc0, hc1⟩ := hc k hlt
      obtain ⟨hd0, hd1⟩ := hc' k hlt
      have HN := hide hnx
      clear hc hc' hr hr' hnx
      generalize es[k].1 = s0 at hc0 hd0
      generalize es[k].2 = n0 at hc1 hd1
      go_wp2
      go_region_with (go_at_call 67; refine (eqEntry_same s0 n0 _).mono ?_; rintro e w2 ⟨rfl, hb⟩)
      all_goals
        have hnx2 : Below w.heap.size w w2 := HN.out.drew.trans (hb.mono HN.out.size)
        have HN2 := hide hnx2
        clear hnx2 hb hc0 hc1 hd0 hd1
        go_wp2
        go_roundw
        case rel => exact ⟨k + 1, by omega, by go_num, HN2.out⟩
        case measure => simp [intOf]; omega
    · go_wp2
      go_ret
      exact ⟨rfl, hnx⟩
end Go.Proofs.Ytledlicandlekab
namespace Go.Proofs.Ytledlicandlekab
open Go.RowKit
theorem eqDirOp_same (k : Int) (s t : ByteArray) (n : Int) (w : World) :
    Calls Try.prog 68 #[.agg #[.int .i64 k, .string s, .string t, .int .i64 n], .agg #[.int .i64 k, .string s, .string t, .int .i64 n]] w fun e w' => e = .returned (.bool true) ∧ Below w.heap.size w w' := by
  go_enter Try.func68, Try.ntmps68
  go_wp2
  go_ret
  exact ⟨rfl, ((Below.refl _ _).alloc (Nat.le_refl _) _).alloc (by simp) _⟩
theorem eqDirOpS_same (a a' : Option Addr) (cap cap' : Nat) (es : List (Int × ByteArray × ByteArray × Int)) (w : World) (hl : es.length ≤ 9223372036854775807) (hr : OpAt w a es) (hr' : OpAt w a' es) :
    Calls Try.prog 35 #[.slice a es.length cap, .slice a' es.length cap'] w fun e w' => e = .returned (.bool true) ∧ Below w.heap.size w w' := by
  go_enter Try.func35, Try.ntmps35
  go_wp2
  go_loopw [5] (fun i wr => ∃ k : Nat, k ≤ es.length ∧ i = .int .i64 k ∧ Below w.heap.size w wr) (fun i _ => es.length - (intOf i).toNat)
  case atStart => exact ⟨0, Nat.zero_le _, rfl, Below.refl _ _⟩
  case round =>
    obtain ⟨k, hk, rfl, hnx⟩ := hrel
    by_cases hlt : k < es.length
    · obtain ⟨b, off, rfl, hc⟩ := (hr.below hnx) (by omega)
      obtain ⟨b', off', rfl, hc'⟩ := (hr'.below hnx) (by omega)
      obtain ⟨hc0, hc1, hc2, hc3⟩ := hc k hlt
      obtain ⟨hd0, hd1, hd2, hd3⟩ := hc' k hlt
      have HN := hide hnx
      clear hc hc' hr hr' hnx
      generalize es[k].1 = k0 at hc0 hd0
      generalize es[k].2.1 = s0 at hc1 hd1
      generalize es[k].2.2.1 = t0 at hc2 hd2
      generalize es[k].2.2.2 = n0 at hc3 hd3
      go_wp2
      go_region_with (go_at_call 68; refine (eqDirOp_same k0 s0 t0 n0 _).mono ?_; rintro e w2 ⟨rfl, hb⟩)
      all_goals
        have hnx2 : Below w.heap.size w w2 := HN.out.drew.trans (hb.mono HN.out.size)
        have HN2 := hide hnx2
        clear hnx2 hb hc0 hc1 hc2 hc3 hd0 hd1 hd2 hd3
        go_wp2
        go_roundw
        case rel => exact ⟨k + 1, by omega, by go_num, HN2.out⟩
        case measure => simp [intOf]; omega
    · go_wp2
      go_ret
      exact ⟨rfl, hnx⟩
end Go.Proofs.Ytledlicandlekab
namespace Go.Proofs.Ytledlicandlekab
open Go.RowKit
theorem eqNode_same (a a' : Option Addr) (l : List Nat) (cap cap' : Nat) (sf : Int) (w : World) (hl : l.length ≤ 9223372036854775807) (hr : RowAt w a l) (hr' : RowAt w a' l) :
    Calls Try.prog 66 #[.agg #[.slice a l.length cap, .int .i64 sf], .agg #[.slice a' l.length cap', .int .i64 sf]] w fun e w' => e = .returned (.bool true) ∧ Below w.heap.size w w' := by
  have hb0 : ∀ o1 o2 : Obj, Below w.heap.size w ((w.alloc o1).alloc o2) := fun _ _ => ((Below.refl _ _).alloc (Nat.le_refl _) _).alloc (by simp) _
  have HR := hide (fun o1 o2 => hr.below (hb0 o1 o2))
  have HR' := hide (fun o1 o2 => hr'.below (hb0 o1 o2))
  have HB := hide hb0
  clear hb0 hr hr'
  go_enter Try.func66, Try.ntmps66
  go_wp2_with fail
  refine (eqByteS_any a a' cap cap' l l _ hl (HR.out _ _) (HR'.out _ _)).mono ?_
  rintro e w2 ⟨rfl, n, rfl⟩
  rw [decide_eq_true (rfl : l = l)]
  have l0 : Laid ((w.alloc (.cells #[.slice a l.length cap, .int .i64 sf] 56)).alloc (.cells #[.slice a' l.length cap', .int .i64 sf] 56)) w.heap.size #[.slice a l.length cap, .int .i64 sf] 56 := Laid.below (B := w.heap.size + 1) (Laid.new w _ _) ((Below.refl _ _).alloc (by simp) _) (by omega)
  have l1 := Laid.new (w.alloc (.cells #[.slice a l.length cap, .int .i64 sf] 56)) #[.slice a' l.length cap', .int .i64 sf] 56
  rw [show (w.alloc (.cells #[.slice a l.length cap, .int .i64 sf] 56)).heap.size = w.heap.size + 1 from by simp] at l1
  have hbb := below_drewN (HB.out (.cells #[.slice a l.length cap, .int .i64 sf] 56) (.cells #[.slice a' l.length cap', .int .i64 sf] 56)) n
  have l0' : Laid (((w.alloc (.cells #[.slice a l.length cap, .int .i64 sf] 56)).alloc (.cells #[.slice a' l.length cap', .int .i64 sf] 56)).drewN n) w.heap.size #[.slice a l.length cap, .int .i64 sf] 56 := by
    have h := below_drewN (Below.refl (w.heap.size + 1) ((w.alloc (.cells #[.slice a l.length cap, .int .i64 sf] 56)).alloc (.cells #[.slice a' l.length cap', .int .i64 sf] 56))) n
    exact l0.below h (by omega)
  have l1' : Laid (((w.alloc (.cells #[.slice a l.length cap, .int .i64 sf] 56)).alloc (.cells #[.slice a' l.length cap', .int .i64 sf] 56)).drewN n) (w.heap.size + 1) #[.slice a' l.length cap', .int .i64 sf] 56 := by
    have h := below_drewN (Below.refl (w.heap.size + 2) ((w.alloc (.cells #[.slice a l.length cap, .int .i64 sf] 56)).alloc (.cells #[.slice a' l.length cap', .int .i64 sf] 56))) n
    exact l1.below h (by omega)
  generalize (((w.alloc (.cells #[.slice a l.length cap, .int .i64 sf] 56)).alloc (.cells #[.slice a' l.length cap', .int .i64 sf] 56)).drewN n) = w3 at hbb l0' l1' ⊢
  have q0 : w3.cell? ⟨w.heap.size, 1, none⟩ = some (.int .i64 sf) := by rw [l0'.cell]; rfl
  have q1 : w3.cell? ⟨w.heap.size + 1, 1, none⟩ = some (.int .i64 sf) := by rw [l1'.cell]; rfl
  have HN := hide hbb
  clear l0 l1 l0' l1' hbb HR HR' HB
  go_wp2
  go_ret
  exact ⟨rfl, HN.out⟩
theorem eqNodeS_same (a a' : Option Addr) (cap cap' : Nat) (es : List (List Nat × Int)) (w : World) (hl : es.length ≤ 9223372036854775807) (hls : ∀ e ∈ es, e.1.length ≤ 9223372036854775807) (hr : NodeAt w a es) (hr' : NodeAt w a' es) :
    Calls Try.prog 33 #[.slice a es.length cap, .slice a' es.length cap'] w fun e w' => e = .returned (.bool true) ∧ Below w.heap.size w w' := by
  go_enter Try.func33, Try.ntmps33
  go_wp2
  go_loopw [5] (fun i wr => ∃ k : Nat, k ≤ es.length ∧ i = .int .i64 k ∧ Below w.heap.size w wr) (fun i _ => es.length - (intOf i).toNat)
  case atStart => exact ⟨0, Nat.zero_le _, rfl, Below.refl _ _⟩
  case round =>
    obtain ⟨k, hk, rfl, hnx⟩ := hrel
    by_cases hlt : k < es.length
    · obtain ⟨b, off, rfl, hc⟩ := (hr.below hnx) (by omega)
      obtain ⟨b', off', rfl, hc'⟩ := (hr'.below hnx) (by omega)
      obtain ⟨ai, ci, hc0, hc1, hri⟩ := hc k hlt
      obtain ⟨ai', ci', hd0, hd1, hri'⟩ := hc' k hlt
      have hkl := hls _ (List.getElem_mem hlt)
      have HRI := hide hri
      have HRI' := hide hri'
      have HKL := hide hkl
      have HN := hide hnx
      clear hc hc' hr hr' hnx hri hri' hkl hls
      generalize es[k].1 = l0 at hc0 hd0 HRI HRI' HKL
      generalize es[k].2 = n0 at hc1 hd1
      go_wp2
      go_region_with (go_at_call 66; refine (eqNode_same ai ai' l0 ci ci' n0 _ HKL.out (HRI.out.drew 1) (HRI'.out.drew 1)).mono ?_; rintro e w2 ⟨rfl, hb⟩)
      all_goals
        have hnx2 : Below w.heap.size w w2 := HN.out.drew.trans (hb.mono HN.out.size)
        have HN2 := hide hnx2
        clear hnx2 hb hc0 hc1 hd0 hd1
        go_wp2
        go_roundw
        case rel => exact ⟨k + 1, by omega, by go_num, HN2.out⟩
        case measure => simp [intOf]; omega
    · go_wp2
      go_ret
      exact ⟨rfl, hnx⟩
end Go.Proofs.Ytledlicandlekab
namespace Go.Proofs.Ytledlicandlekab
open Go.RowKit
/-- The two blocks of a call with two disks. -/
def TE (w wj : World) (B : Nat) (A A' : Array Value) : Prop := Laid wj B A 36 ∧ Laid wj (B + 1) A' 36 ∧ Below B w wj
theorem TE.start (w : World) (A A' : Array Value) : TE w ((w.alloc (.cells A 36)).alloc (.cells A' 36)) w.heap.size A A' := by
  refine ⟨Laid.below (B := w.heap.size + 1) (Laid.new w _ _) ((Below.refl _ _).alloc (by simp) _) (by omega), ?_, ((Below.refl w.heap.size w).alloc (Nat.le_refl _) _).alloc (by simp) _⟩
  have h := Laid.new (w.alloc (.cells A 36)) A' 36
  rw [show (w.alloc (.cells A 36)).heap.size = w.heap.size + 1 from by simp] at h
  exact h
theorem TE.below {w wj w' : World} {B : Nat} {A A' : Array Value} (h : TE w wj B A A') (hb : Below wj.heap.size wj w') : TE w w' B A A' := by
  obtain ⟨h0, h1, hn⟩ := h
  exact ⟨h0.below hb h0.lt, h1.below hb h1.lt, hn.trans (hb.mono (Nat.le_of_lt h0.lt))⟩
theorem eqDisk_same (v v' : Value) (D : MDisk) (w : World) (hl1 : D.nodes.length ≤ 1048576) (hl2 : D.names.length ≤ 1048576) (hl3 : D.kept.length ≤ 1048576) (hl4 : D.pend.length ≤ 1048576) (hls : ∀ e ∈ D.nodes, e.1.length ≤ 1048576) (hr : DiskAt w v D) (hr' : DiskAt w v' D) :
    Calls Try.prog 10 #[v, v'] w fun e w' => e = .returned (.bool true) ∧ Below w.heap.size w w' := by
  obtain ⟨a1, c1, a2, c2, a3, c3, a4, c4, rfl, r1, r2, r3, r4⟩ := hr
  obtain ⟨b1, d1, b2, d2, b3, d3, b4, d4, rfl, s1, s2, s3, s4⟩ := hr'
  have Hr1 := hide r1
  have Hr2 := hide r2
  have Hr3 := hide r3
  have Hr4 := hide r4
  have Hs1 := hide s1
  have Hs2 := hide s2
  have Hs3 := hide s3
  have Hs4 := hide s4
  have HLS := hide (fun e he => Nat.le_trans (hls e he) (by decide : 1048576 ≤ 9223372036854775807))
  clear r1 r2 r3 r4 s1 s2 s3 s4 hls
  go_enter Try.func10, Try.ntmps10
  go_wp2_with fail
  have HT := hide (TE.start w #[.slice a1 D.nodes.length c1, .slice a2 D.names.length c2, .slice a3 D.kept.length c3, .slice a4 D.pend.length c4, .int .i64 D.quota] #[.slice b1 D.nodes.length d1, .slice b2 D.names.length d2, .slice b3 D.kept.length d3, .slice b4 D.pend.length d4, .int .i64 D.quota])
  generalize ((w.alloc (.cells #[.slice a1 D.nodes.length c1, .slice a2 D.names.length c2, .slice a3 D.kept.length c3, .slice a4 D.pend.length c4, .int .i64 D.quota] 36)).alloc (.cells #[.slice b1 D.nodes.length d1, .slice b2 D.names.length d2, .slice b3 D.kept.length d3, .slice b4 D.pend.length d4, .int .i64 D.quota] 36)) = w1 at HT ⊢
  refine (eqNodeS_same a1 b1 c1 d1 D.nodes w1 (by omega) HLS.out (Hr1.out.below HT.out.2.2) (Hs1.out.below HT.out.2.2)).mono ?_
  rintro e w2 ⟨rfl, hb⟩
  replace HT := hide (HT.out.below hb)
  clear hb
  have q0 : w2.cell? ⟨w.heap.size, 1, none⟩ = some (.slice a2 D.names.length c2) := by rw [HT.out.1.cell]; rfl
  have q1 : w2.cell? ⟨w.heap.size + 1, 1, none⟩ = some (.slice b2 D.names.length d2) := by rw [HT.out.2.1.cell]; rfl
  go_wp2_with fail
  clear q0 q1
  refine (eqEntryS_same a2 b2 c2 d2 D.names w2 (by omega) (Hr2.out.below HT.out.2.2) (Hs2.out.below HT.out.2.2)).mono ?_
  rintro e w3 ⟨rfl, hb⟩
  replace HT := hide (HT.out.below hb)
  clear hb
  have q0 : w3.cell? ⟨w.heap.size, 2, none⟩ = some (.slice a3 D.kept.length c3) := by rw [HT.out.1.cell]; rfl
  have q1 : w3.cell? ⟨w.heap.size + 1, 2, none⟩ = some (.slice b3 D.kept.length d3) := by rw [HT.out.2.1.cell]; rfl
  go_wp2_with fail
  clear q0 q1
  refine (eqEntryS_same a3 b3 c3 d3 D.kept w3 (by omega) (Hr3.out.below HT.out.2.2) (Hs3.out.below HT.out.2.2)).mono ?_
  rintro e w4 ⟨rfl, hb⟩
  replace HT := hide (HT.out.below hb)
  clear hb
  have q0 : w4.cell? ⟨w.heap.size, 3, none⟩ = some (.slice a4 D.pend.length c4) := by rw [HT.out.1.cell]; rfl
  have q1 : w4.cell? ⟨w.heap.size + 1, 3, none⟩ = some (.slice b4 D.pend.length d4) := by rw [HT.out.2.1.cell]; rfl
  go_wp2_with fail
  clear q0 q1
  refine (eqDirOpS_same a4 b4 c4 d4 D.pend w4 (by omega) (Hr4.out.below HT.out.2.2) (Hs4.out.below HT.out.2.2)).mono ?_
  rintro e w5 ⟨rfl, hb⟩
  replace HT := hide (HT.out.below hb)
  clear hb
  have q0 : w5.cell? ⟨w.heap.size, 4, none⟩ = some (.int .i64 D.quota) := by rw [HT.out.1.cell]; rfl
  have q1 : w5.cell? ⟨w.heap.size + 1, 4, none⟩ = some (.int .i64 D.quota) := by rw [HT.out.2.1.cell]; rfl
  go_wp2
  go_ret
  exact ⟨rfl, HT.out.2.2⟩
end Go.Proofs.Ytledlicandlekab
namespace Go.Proofs.Ytledlicandlekab
open Go.RowKit Go.Maps
theorem mem_sumE : ∀ {es : List (ByteArray × Int)} {e : ByteArray × Int}, e ∈ es → e.1.size ≤ sumE es
  | x :: r, e, h => by
    rcases List.mem_cons.1 h with rfl | h
    · simp only [sumE]; omega
    · have := mem_sumE h; simp only [sumE]; omega
theorem mem_sumO : ∀ {es : List (Int × ByteArray × ByteArray × Int)} {e : Int × ByteArray × ByteArray × Int}, e ∈ es → e.2.1.size + e.2.2.1.size ≤ sumO es
  | x :: r, e, h => by
    rcases List.mem_cons.1 h with rfl | h
    · simp only [sumO]; omega
    · have := mem_sumO h; simp only [sumO]; omega
/-- What the readers ask of a disk that came in. -/
structure InDisk (w : World) (v : Value) (D : MDisk) : Prop where
  at_ : DiskAt w v D
  n1 : D.nodes.length ≤ 9223372036854775807
  n2 : D.names.length ≤ 9223372036854775807
  n3 : D.kept.length ≤ 9223372036854775807
  n4 : D.pend.length ≤ 9223372036854775807
  h1 : ∀ e ∈ D.nodes, e.1.length ≤ 9223372036854775807
  h2 : ∀ e ∈ D.names, e.1.size ≤ 9223372036854775807
  h3 : ∀ e ∈ D.kept, e.1.size ≤ 9223372036854775807
  h4 : ∀ e ∈ D.pend, e.2.1.size ≤ 9223372036854775807 ∧ e.2.2.1.size ≤ 9223372036854775807
  wf : ∀ o ∈ D.pend, (Lit.int .i64 o.2.2.2).wf = true
def szOf (D : MDisk) : Nat := szD D.nodes D.names D.kept D.pend
theorem modest_of {D : MDisk} (h : szOf D ≤ 1048576) : Modest D := by
  unfold szOf szD at h
  exact ⟨by omega, by omega, by omega, by omega, by omega, fun e he => by have := mem_sumE he; omega, fun e he => by have := mem_sumE he; omega, fun o ho => by have := mem_sumO ho; omega⟩
theorem nodes_small {D : MDisk} (h : szOf D ≤ 1048576) : ∀ e ∈ D.nodes, e.1.length ≤ 1048576 := fun e he => by
  have := node_le D.nodes e he
  unfold szOf szD at h
  omega
theorem szDisk_v {w : World} {v : Value} {D : MDisk} (h : InDisk w v D) :
    Calls Try.prog 5 #[v, .int .i64 1048576] w fun e w' => e = .returned (.int .i64 (szRest 1048576 (szOf D))) ∧ Below w.heap.size w w' := by
  obtain ⟨⟨a1, c1, a2, c2, a3, c3, a4, c4, rfl, r1, r2, r3, r4⟩, n1, n2, n3, n4, h1, h2, h3, h4, wf⟩ := h
  exact szDisk_any a1 a2 a3 a4 c1 c2 c3 c4 D.quota D.nodes D.names D.kept D.pend w n1 n2 n3 n4 h1 h2 h3 h4 r1 r2 r3 r4
theorem specValid_v {w : World} {v : Value} {D : MDisk} (h : DiskAt w v D) (hM : Modest D) : Calls Try.prog 23 #[v] w (ValPost w (ValidD D)) := by
  obtain ⟨a1, c1, a2, c2, a3, c3, a4, c4, rfl, r1, r2, r3, r4⟩ := h
  exact specValid_any a1 a2 a3 a4 c1 c2 c3 c4 D w hM r1 r2 r3 r4
theorem implValid_v {w : World} {v : Value} {D : MDisk} (h : DiskAt w v D) (hM : Modest D) (hw : ∀ o ∈ D.pend, (Lit.int .i64 o.2.2.2).wf = true) : Calls Try.prog 29 #[v] w (ValPost w (ValidD D)) := by
  obtain ⟨a1, c1, a2, c2, a3, c3, a4, c4, rfl, r1, r2, r3, r4⟩ := h
  exact implValid_any entries_holds a1 a2 a3 a4 c1 c2 c3 c4 D w hM hw r1 r2 r3 r4
theorem InDisk.below {w w' : World} {v : Value} {D : MDisk} (h : InDisk w v D) (hb : Below w.heap.size w w') : InDisk w' v D := { h with at_ := h.at_.below hb }
theorem InDisk.shape {w : World} {v : Value} {D : MDisk} (h : InDisk w v D) : ∃ a1 m1 c1 a2 m2 c2 a3 m3 c3 a4 m4 c4 q, v = .agg #[.slice a1 m1 c1, .slice a2 m2 c2, .slice a3 m3 c3, .slice a4 m4 c4, .int .i64 q] := by
  obtain ⟨⟨a1, c1, a2, c2, a3, c3, a4, c4, rfl, _⟩, _⟩ := h
  exact ⟨_, _, _, _, _, _, _, _, _, _, _, _, _, rfl⟩
theorem DiskAt.shape {w : World} {v : Value} {D : MDisk} (h : DiskAt w v D) : ∃ a1 m1 c1 a2 m2 c2 a3 m3 c3 a4 m4 c4 q, v = .agg #[.slice a1 m1 c1, .slice a2 m2 c2, .slice a3 m3 c3, .slice a4 m4 c4, .int .i64 q] := by
  obtain ⟨a1, c1, a2, c2, a3, c3, a4, c4, rfl, _⟩ := h
  exact ⟨_, _, _, _, _, _, _, _, _, _, _, _, _, rfl⟩
end Go.Proofs.Ytledlicandlekab
namespace Go.Proofs.Ytledlicandlekab
open Go.ChangeShapes Go.WideShapes Go.ChangeAt Go.RowKit Go.Deep
set_option linter.unusedVariables false
section
variable {H : Type} {enc : TypeId × Value → H} {W : World}
theorem spot_none {a : Addr} {v : Value} (h : W.cell? a = some v) : a.spot = none := World.cell?_spot h
theorem bytes_open {fuel : Nat} {v : Value} {x : DataW H × List MemPlace} (h : DataW.trod enc Try.prog W 0 (fun _ => true) true fuel 28 [v] = some x) :
    ∃ (a : Option Addr) (c : Nat) (l : List Nat), v = .slice a l.length c ∧ RowAt W a l ∧ l.length ≤ 9223372036854775807 := by
  rcases open_ints Try.underlying28 Try.underlying5 (by kernel_rfl) h with ⟨hcs, _⟩ | ⟨x, l, c, zs, hcs, _, hl, hm, hz, _, hcell, hwz⟩
  · simp only [List.cons.injEq, and_true] at hcs
    exact ⟨none, 0, [], hcs, fun h => absurd h (Nat.lt_irrefl _), by simp⟩
  · simp only [List.cons.injEq, and_true] at hcs
    have hz2 : zs.length = c := by simpa using hz
    have hlen : ((zs.take l).map Int.toNat).length = l := by simp; omega
    refine ⟨some x, c, (zs.take l).map Int.toNat, by rw [hlen]; exact hcs, fun hp => ?_, by rw [hlen]; unfold maxLen at hm; omega⟩
    obtain ⟨b, off, spot⟩ := x
    have hc := hcell 0 (by omega)
    have hspot : spot = none := by simpa [Addr.add] using World.cell?_spot hc
    subst hspot
    refine ⟨b, off, rfl, fun i hi => ?_⟩
    have hi' : i < zs.length := by omega
    have h1 := hcell i hi'
    have hb : 0 ≤ zs[i] ∧ zs[i] ≤ 255 := by
      have := hwz zs[i] (List.getElem_mem hi')
      simp [Lit.wf, IntKind.min, IntKind.max, IntKind.signed, IntKind.bits] at this
      exact this
    rw [addr_add] at h1
    rw [h1]
    simp only [List.getElem_map, List.getElem_take, List.getD_eq_getElem?_getD, List.getElem?_eq_getElem hi', Option.getD_some]
    rw [Int.toNat_of_nonneg hb.1]
theorem ents_open {fuel : Nat} {v : Value} {x : DataW H × List MemPlace} (h : DataW.trod enc Try.prog W 0 (fun _ => true) true fuel 23 [v] = some x) :
    ∃ (a : Option Addr) (c : Nat) (es : List (ByteArray × Int)), v = .slice a es.length c ∧ EntAt W a es ∧ es.length ≤ 9223372036854775807 ∧ ∀ e ∈ es, e.1.size ≤ 9223372036854775807 := by
  rcases open_slice_pairs Try.underlying23 Try.underlying89 (by kernel_rfl) rfl rfl (by kernel_rfl) (by kernel_rfl) h with ⟨hcs, _⟩ | ⟨x, l, c, m, fu, V0, V1, D0, D1, P0, P1, hcs, _, hl, hm, hmm, _, hx⟩
  · simp only [List.cons.injEq, and_true] at hcs
    exact ⟨none, 0, [], hcs, (fun h => absurd h (Nat.lt_irrefl _)), by simp, (fun e he => by cases he)⟩
  · simp only [List.cons.injEq, and_true] at hcs
    have hmm2 : m = c := by simpa using hmm
    have each : ∀ i, i < l → ∃ q : ByteArray × Int, W.cell? (x.add (i * 2)) = some (.string q.1) ∧ W.cell? (x.add (i * 2 + 1)) = some (.int .i64 q.2) ∧ q.1.size ≤ 9223372036854775807 := fun i hi => by
      obtain ⟨x0, x1, t0, t1⟩ := hx i (by omega)
      obtain ⟨s, g0, _, hs⟩ := DataW.trod_string Try.underlying9 t0
      obtain ⟨z, g1, _⟩ := DataW.trod_int Try.underlying3 t1
      simp only [List.cons.injEq, and_true] at g0 g1
      exact ⟨(s, z), by rw [x0, g0], by rw [x1, g1], by unfold maxLen at hs; simp only; omega⟩
    obtain ⟨q, hq⟩ := choose_lt each
    have hlen : ((List.range l).map q).length = l := by simp
    refine ⟨some x, c, (List.range l).map q, by rw [hlen]; exact hcs, fun hp => ?_, by rw [hlen]; unfold maxLen at hm; omega, fun e he => ?_⟩
    · obtain ⟨b, off, spot⟩ := x
      have hspot : spot = none := by simpa [Addr.add] using World.cell?_spot (hq 0 (by omega)).1
      subst hspot
      refine ⟨b, off, rfl, fun i hi => ?_⟩
      obtain ⟨k0, k1, _⟩ := hq i (by omega)
      rw [addr_add] at k0 k1
      simp only [List.getElem_map, List.getElem_range]
      exact ⟨k0, k1⟩
    · obtain ⟨i, hi, rfl⟩ := List.mem_map.1 he
      exact (hq i (List.mem_range.1 hi)).2.2
theorem nodes_open {fuel : Nat} {v : Value} {x : DataW H × List MemPlace} (h : DataW.trod enc Try.prog W 0 (fun _ => true) true fuel 22 [v] = some x) :
    ∃ (a : Option Addr) (c : Nat) (es : List (List Nat × Int)), v = .slice a es.length c ∧ NodeAt W a es ∧ es.length ≤ 9223372036854775807 ∧ ∀ e ∈ es, e.1.length ≤ 9223372036854775807 := by
  rcases open_slice_pairs Try.underlying22 Try.underlying87 (by kernel_rfl) rfl rfl (by kernel_rfl) (by kernel_rfl) h with ⟨hcs, _⟩ | ⟨x, l, c, m, fu, V0, V1, D0, D1, P0, P1, hcs, _, hl, hm, hmm, _, hx⟩
  · simp only [List.cons.injEq, and_true] at hcs
    exact ⟨none, 0, [], hcs, (fun h => absurd h (Nat.lt_irrefl _)), by simp, (fun e he => by cases he)⟩
  · simp only [List.cons.injEq, and_true] at hcs
    have hmm2 : m = c := by simpa using hmm
    have each : ∀ i, i < l → ∃ q : List Nat × Int, (∃ ai ci, W.cell? (x.add (i * 2)) = some (.slice ai q.1.length ci) ∧ RowAt W ai q.1) ∧ W.cell? (x.add (i * 2 + 1)) = some (.int .i64 q.2) ∧ q.1.length ≤ 9223372036854775807 := fun i hi => by
      obtain ⟨x0, x1, t0, t1⟩ := hx i (by omega)
      obtain ⟨ai, ci, bl, g0, hr, hbl⟩ := bytes_open t0
      obtain ⟨z, g1, _⟩ := DataW.trod_int Try.underlying3 t1
      simp only [List.cons.injEq, and_true] at g1
      exact ⟨(bl, z), ⟨ai, ci, by rw [x0, g0], hr⟩, by rw [x1, g1], hbl⟩
    obtain ⟨q, hq⟩ := choose_lt each
    have hlen : ((List.range l).map q).length = l := by simp
    refine ⟨some x, c, (List.range l).map q, by rw [hlen]; exact hcs, fun hp => ?_, by rw [hlen]; unfold maxLen at hm; omega, fun e he => ?_⟩
    · obtain ⟨b, off, spot⟩ := x
      obtain ⟨⟨_, _, k00, _⟩, _⟩ := hq 0 (by omega)
      have hspot : spot = none := by simpa [Addr.add] using World.cell?_spot k00
      subst hspot
      refine ⟨b, off, rfl, fun i hi => ?_⟩
      obtain ⟨⟨ai, ci, k0, kr⟩, k1, _⟩ := hq i (by omega)
      rw [addr_add] at k0 k1
      simp only [List.getElem_map, List.getElem_range]
      exact ⟨ai, ci, k0, k1, kr⟩
    · obtain ⟨i, hi, rfl⟩ := List.mem_map.1 he
      exact (hq i (List.mem_range.1 hi)).2.2
set_option maxRecDepth 20000 in
theorem ops_open {fuel : Nat} {v : Value} {x : DataW H × List MemPlace} (h : DataW.trod enc Try.prog W 0 (fun _ => true) true fuel 24 [v] = some x) :
    ∃ (a : Option Addr) (c : Nat) (es : List (Int × ByteArray × ByteArray × Int)), v = .slice a es.length c ∧ OpAt W a es ∧ es.length ≤ 9223372036854775807 ∧ (∀ e ∈ es, e.2.1.size ≤ 9223372036854775807 ∧ e.2.2.1.size ≤ 9223372036854775807) ∧ ∀ o ∈ es, (Lit.int .i64 o.2.2.2).wf = true := by
  have ce : Try.prog.cellsOf 91 = 4 := by kernel_rfl
  have c3 : Try.prog.cellsOf 3 = 1 := by kernel_rfl
  have c9 : Try.prog.cellsOf 9 = 1 := by kernel_rfl
  rcases open_slice Try.underlying24 h with ⟨hcs, _⟩ | ⟨x, l, c, m, fu, D, Pl, hcs, _, hl, hm, hmm, _, hx⟩
  · simp only [List.cons.injEq, and_true] at hcs
    exact ⟨none, 0, [], hcs, (fun h => absurd h (Nat.lt_irrefl _)), by simp, (fun e he => by cases he), (fun e he => by cases he)⟩
  · simp only [List.cons.injEq, and_true] at hcs
    have hmm2 : m = c := by simpa using hmm
    have each : ∀ i, i < l → ∃ q : Int × ByteArray × ByteArray × Int, W.cell? (x.add (i * 4)) = some (.int .i64 q.1) ∧ W.cell? (x.add (i * 4 + 1)) = some (.string q.2.1) ∧ W.cell? (x.add (i * 4 + 2)) = some (.string q.2.2.1) ∧ W.cell? (x.add (i * 4 + 3)) = some (.int .i64 q.2.2.2) ∧ q.2.1.size ≤ 9223372036854775807 ∧ q.2.2.1.size ≤ 9223372036854775807 ∧ (Lit.int .i64 q.2.2.2).wf = true := fun i hi => by
      obtain ⟨cs', h1, h2⟩ := hx i (by omega)
      rw [ce] at h1
      obtain ⟨_, hlen, hcell⟩ := World.cells?_some h1
      obtain ⟨xs, k, hk, hxy, _, hxl, hf⟩ := DataW.trod_struct Try.underlying91 h2
      match cs', hlen with
      | [v0, v1, v2, v3], _ =>
        have e0 := hcell 0 (by omega)
        have e1 := hcell 1 (by omega)
        have e2 := hcell 2 (by omega)
        have e3 := hcell 3 (by omega)
        rw [add_add] at e0 e1 e2 e3
        have hxl4 : xs.length = 4 := hxl
        match xs, hxl4 with
        | [y0, y1, y2, y3], _ =>
          have g0 : (DataW.trod enc Try.prog W 0 (fun _ => true) true k 3 (([v0, v1, v2, v3].drop 0).take (Try.prog.cellsOf 3)) = some y0) := hf 0 _ rfl
          rw [c3] at g0
          have g0 : DataW.trod enc Try.prog W 0 (fun _ => true) true k 3 [v0] = some y0 := g0
          have g1 : (DataW.trod enc Try.prog W 0 (fun _ => true) true k 9 (([v0, v1, v2, v3].drop 1).take (Try.prog.cellsOf 9)) = some y1) := hf 1 _ rfl
          rw [c9] at g1
          have g1 : DataW.trod enc Try.prog W 0 (fun _ => true) true k 9 [v1] = some y1 := g1
          have g2 : (DataW.trod enc Try.prog W 0 (fun _ => true) true k 9 (([v0, v1, v2, v3].drop 2).take (Try.prog.cellsOf 9)) = some y2) := hf 2 _ rfl
          rw [c9] at g2
          have g2 : DataW.trod enc Try.prog W 0 (fun _ => true) true k 9 [v2] = some y2 := g2
          have g3 : (DataW.trod enc Try.prog W 0 (fun _ => true) true k 3 (([v0, v1, v2, v3].drop 3).take (Try.prog.cellsOf 3)) = some y3) := hf 3 _ rfl
          rw [c3] at g3
          have g3 : DataW.trod enc Try.prog W 0 (fun _ => true) true k 3 [v3] = some y3 := g3
          obtain ⟨z0, r0, _⟩ := DataW.trod_int Try.underlying3 g0
          obtain ⟨s1, r1, _, hs1⟩ := DataW.trod_string Try.underlying9 g1
          obtain ⟨s2, r2, _, hs2⟩ := DataW.trod_string Try.underlying9 g2
          obtain ⟨z3, r3, _, w3⟩ := DataW.trod_int Try.underlying3 g3
          simp only [List.cons.injEq, and_true] at r0 r1 r2 r3
          subst r0 r1 r2 r3
          exact ⟨(z0, s1, s2, z3), by simpa using e0, by simpa using e1, by simpa using e2, by simpa using e3, by unfold maxLen at hs1; simp only; omega, by unfold maxLen at hs2; simp only; omega, w3⟩
    obtain ⟨q, hq⟩ := choose_lt each
    have hlen : ((List.range l).map q).length = l := by simp
    refine ⟨some x, c, (List.range l).map q, by rw [hlen]; exact hcs, fun hp => ?_, by rw [hlen]; unfold maxLen at hm; omega, fun e he => ?_, fun e he => ?_⟩
    · obtain ⟨b, off, spot⟩ := x
      have hspot : spot = none := by simpa [Addr.add] using World.cell?_spot (hq 0 (by omega)).1
      subst hspot
      refine ⟨b, off, rfl, fun i hi => ?_⟩
      obtain ⟨k0, k1, k2, k3, _⟩ := hq i (by omega)
      rw [addr_add] at k0 k1 k2 k3
      simp only [List.getElem_map, List.getElem_range]
      exact ⟨k0, k1, k2, k3⟩
    · obtain ⟨i, hi, rfl⟩ := List.mem_map.1 he
      exact ⟨(hq i (List.mem_range.1 hi)).2.2.2.2.1, (hq i (List.mem_range.1 hi)).2.2.2.2.2.1⟩
    · obtain ⟨i, hi, rfl⟩ := List.mem_map.1 he
      exact (hq i (List.mem_range.1 hi)).2.2.2.2.2.2
set_option maxRecDepth 20000 in
theorem disk_open {base : Nat} {v : Value} {d : DataW H} {ps : List MemPlace} (hval : Value.okWide Try.prog W .any base 26 v) (h : DataW.Trod enc Try.prog W 0 (fun _ => true) true 26 v d ps) : ∃ D, InDisk W v D := by
  obtain ⟨cs, rfl, hsz⟩ := okWide_struct Try.underlying26 hval
  obtain ⟨fuel, hf⟩ := h
  obtain ⟨xs, k, hk, hxy, hl5, hxl, hfl⟩ := DataW.trod_struct Try.underlying26 hf
  have ce : Try.prog.cellsOf 26 = 5 := by kernel_rfl
  have c3 : Try.prog.cellsOf 3 = 1 := by kernel_rfl
  have cn : Try.prog.cellsOf 22 = 1 := by kernel_rfl
  have cen : Try.prog.cellsOf 23 = 1 := by kernel_rfl
  have co : Try.prog.cellsOf 24 = 1 := by kernel_rfl
  rw [ce] at hsz
  obtain ⟨l⟩ := cs
  have hll : l.length = 5 := by simpa using hsz
  match l, hll with
  | [v0, v1, v2, v3, v4], _ =>
    have hxl5 : xs.length = 5 := hxl
    match xs, hxl5 with
    | [y0, y1, y2, y3, y4], _ =>
      have g0 : (DataW.trod enc Try.prog W 0 (fun _ => true) true k 22 (([v0, v1, v2, v3, v4].drop 0).take (Try.prog.cellsOf 22)) = some y0) := hfl 0 _ rfl
      rw [cn] at g0
      have g0 : DataW.trod enc Try.prog W 0 (fun _ => true) true k 22 [v0] = some y0 := g0
      have g1 : (DataW.trod enc Try.prog W 0 (fun _ => true) true k 23 (([v0, v1, v2, v3, v4].drop 1).take (Try.prog.cellsOf 23)) = some y1) := hfl 1 _ rfl
      rw [cen] at g1
      have g1 : DataW.trod enc Try.prog W 0 (fun _ => true) true k 23 [v1] = some y1 := g1
      have g2 : (DataW.trod enc Try.prog W 0 (fun _ => true) true k 23 (([v0, v1, v2, v3, v4].drop 2).take (Try.prog.cellsOf 23)) = some y2) := hfl 2 _ rfl
      rw [cen] at g2
      have g2 : DataW.trod enc Try.prog W 0 (fun _ => true) true k 23 [v2] = some y2 := g2
      have g3 : (DataW.trod enc Try.prog W 0 (fun _ => true) true k 24 (([v0, v1, v2, v3, v4].drop 3).take (Try.prog.cellsOf 24)) = some y3) := hfl 3 _ rfl
      rw [co] at g3
      have g3 : DataW.trod enc Try.prog W 0 (fun _ => true) true k 24 [v3] = some y3 := g3
      have g4 : (DataW.trod enc Try.prog W 0 (fun _ => true) true k 3 (([v0, v1, v2, v3, v4].drop 4).take (Try.prog.cellsOf 3)) = some y4) := hfl 4 _ rfl
      rw [c3] at g4
      have g4 : DataW.trod enc Try.prog W 0 (fun _ => true) true k 3 [v4] = some y4 := g4
      obtain ⟨a1, c1, ns, rfl, r1, n1, h1⟩ := nodes_open g0
      obtain ⟨a2, c2, es, rfl, r2, n2, h2⟩ := ents_open g1
      obtain ⟨a3, c3', ks, rfl, r3, n3, h3⟩ := ents_open g2
      obtain ⟨a4, c4, os, rfl, r4, n4, h4, h5⟩ := ops_open g3
      obtain ⟨qt, r5, _⟩ := DataW.trod_int Try.underlying3 g4
      obtain rfl : v4 = .int .i64 qt := by injection r5
      exact ⟨⟨ns, es, ks, os, qt⟩, ⟨a1, c1, a2, c2, a3, c3', a4, c4, rfl, r1, r2, r3, r4⟩, n1, n2, n3, n4, h1, h2, h3, h4, h5⟩
end
end Go.Proofs.Ytledlicandlekab
