import Derived.Test.YtpccongphchagaaGreatDoorPkg
import Derived.Test.YtpccongphchagaaGreatDoorPkf
import Derived.Test.YtpccongphchagaaGreatDoorPkb
namespace Go.Proofs.YtpccongphchagaaGreatDoor
open Go.RowKit
theorem ent_new (w : World) (x : ByteArray) (n : Int) : (w.alloc (.cells #[.string x, .int .i64 n] 37)).cell? ⟨w.heap.size, 0, none⟩ = some (.string x) ∧ (w.alloc (.cells #[.string x, .int .i64 n] 37)).cell? ⟨w.heap.size, 1, none⟩ = some (.int .i64 n) := by
  have l2 := Laid.new w #[.string x, .int .i64 n] 37
  exact ⟨l2.cell 0, l2.cell 1⟩
theorem ent_new1 (w : World) (o : Obj) (x : ByteArray) (n : Int) : ((w.alloc o).alloc (.cells #[.string x, .int .i64 n] 37)).cell? ⟨w.heap.size + 1, 0, none⟩ = some (.string x) ∧ ((w.alloc o).alloc (.cells #[.string x, .int .i64 n] 37)).cell? ⟨w.heap.size + 1, 1, none⟩ = some (.int .i64 n) := by
  have h := ent_new (w.alloc o) x n
  rw [show (w.alloc o).heap.size = w.heap.size + 1 from by simp] at h
  exact h
theorem ownE_alloc {w : World} {base : Nat} {v : Value} {es : List (ByteArray × Int)} (h : OwnE w base v es) (o : Obj) : OwnE (w.alloc o) base v es := h.below ((Below.refl _ _).alloc (Nat.le_refl _) o)
theorem below_grown2 {w w1 w3 : World} {base : Nat} {v : Value} {es : List (ByteArray × Int)} {o1 o2 : Obj} (hb : Below base w w1) (hs : base ≤ w1.heap.size) (ho : OwnE w1 base v es) (hg : ((w1.alloc o1).alloc o2).grownBy w3 v.ownBlock) : Below base w w3 :=
  ((hb.alloc hs o1).alloc (by simp; omega) o2).grown hg (by simp; omega) (fun j hj => (World.ownsRow.lt ho j hj).1)
theorem grown_ent {w w3 : World} {base : Nat} {v : Value} {es : List (ByteArray × Int)} {x : ByteArray} {n : Int} {o : Obj} (ho : OwnE w base v es) (hg : ((w.alloc (.cells #[.string x, .int .i64 n] 37)).alloc o).grownBy w3 v.ownBlock) : w3.cell? ⟨w.heap.size, 0, none⟩ = some (.string x) ∧ w3.cell? ⟨w.heap.size, 1, none⟩ = some (.int .i64 n) := by
  have l0 : Laid ((w.alloc (.cells #[.string x, .int .i64 n] 37)).alloc o) w.heap.size #[.string x, .int .i64 n] 37 := Laid.below (B := w.heap.size + 1) (Laid.new w _ _) ((Below.refl _ _).alloc (by simp) _) (by omega)
  have l1 : Laid w3 w.heap.size #[.string x, .int .i64 n] 37 := (hg.block w.heap.size (by simp; omega) (fun e => by have := (World.ownsRow.lt ho _ e.symm).2; omega)).trans l0
  exact ⟨l1.cell 0, l1.cell 1⟩
set_option maxRecDepth 20000 in
set_option maxHeartbeats 1000000 in
theorem l1With_any (a : Option Addr) (cap : Nat) (es : List (ByteArray × Int)) (nm : ByteArray) (nd : Int) (w : World) (hn : es.length ≤ 1048574) (hr : EntAt w a es) :
    Calls Tryz.prog 67 #[.slice a es.length cap, .string nm, .int .i64 nd] w fun e w' => ∃ v, e = .returned v ∧ OwnE w' w.heap.size v (insE (es.filter fun e => decide (e.1 ≠ nm)) nm nd) ∧ Below w.heap.size w w' := by
  go_enter Tryz.func67, Tryz.ntmps67
  go_wp2_with fail
  refine (l1Without_any a cap es nm w (by omega) hr).mono ?_
  rintro e w1 ⟨v1, rfl, ho1, hb1⟩
  obtain ⟨a1, c1, hv1⟩ := ho1.slice
  subst hv1
  have he1 := ho1.at
  have hfl : (es.filter fun e => decide (e.1 ≠ nm)).length ≤ 1048574 := Nat.le_trans (List.length_filter_le _ _) hn
  have HB1 := hide hb1
  have HE1 := hide he1
  clear ho1 hb1 hr he1
  generalize hle : (es.filter fun e => decide (e.1 ≠ nm)) = l at HE1 hfl
  have HLE := hide hle
  clear hle
  go_wp2
  go_loopw [7, 8, 15] (fun v d i wr => ∃ k : Nat, k ≤ l.length ∧ i = .int .i64 k ∧ d = .bool (decide (posE l nm < k)) ∧ OwnE wr w1.heap.size v (outK l nm nd k) ∧ Below w1.heap.size w1 wr) (fun _ _ i _ => l.length - (intOf i).toNat)
  case atStart => exact ⟨0, Nat.zero_le _, rfl, by simp, by rw [outK_zero]; exact World.ownsRow_nil w1 w1.heap.size 37 2, Below.refl _ _⟩
  case round =>
    obtain ⟨k, hk, rfl, rfl, hown, hnx⟩ := hrel
    have hlen := outK_len l nm nd k
    by_cases hlt : k < l.length
    · obtain ⟨b, off, rfl, hc⟩ := (HE1.out.below hnx) (by omega)
      obtain ⟨hc0, hc1⟩ := hc k hlt
      have HLO := hide (fun h => outK_lo (nm := nm) (nd := nd) hlt h)
      have HAT := hide (fun h => outK_at (nm := nm) (nd := nd) hlt h)
      have HHI := hide (fun h => outK_hi (nm := nm) (nd := nd) hlt h)
      have HGA := hide (fun h => gt_at (nm := nm) hlt h)
      have HGL := hide (fun h => gt_lo (nm := nm) hlt h)
      have HO := hide hown
      have HN := hide hnx
      have HS := hide hnx.size
      clear hc hown hnx
      generalize l[k].1 = x0 at hc0 HLO HAT HHI HGA HGL
      generalize l[k].2 = x1 at hc1 HLO HAT HHI
      have HC := hide (ent_new1 wr (.cells #[.string x0, .int .i64 x1] 37) x0 x1)
      rcases Nat.lt_trichotomy k (posE l nm) with hp | hp | hp
      · have hd : decide (posE l nm < k) = false := by simp; omega
        rw [hd]
        have hg := HGL.out hp
        have HOUT := hide (HLO.out hp)
        have HDD := hide (show Value.bool false = .bool (decide (posE l nm < k + 1)) from by rw [decide_eq_false (by omega)])
        unfold gtB at hg
        clear HLO HAT HHI HGA HGL hp hd
        generalize outK l nm nd k = ol at HO HOUT hlen
        go_wp2_with (first
          | (at_builtin; refine wpList_append_entry _ rfl (.tmp 33) (.tmp 35) rfl w1.heap.size u7 ol (x0, x1) (wr.heap.size + 1) 1 rfl rfl ?_ ?_ ?_ ?_ ?_ ?_; (exact ownE_alloc (ownE_alloc HO.out _) _); (exact HC.out.1); (exact HC.out.2); omega; (exact Nat.le_trans HS.out (by simp; omega)); intro v3 w3 ho3 hg3)
          | go_in)
        exact ⟨⟨k + 1, by omega, by go_num, HDD.out, by rw [HOUT.out]; exact ho3, below_grown2 HN.out HS.out HO.out hg3⟩, by simp [intOf]; omega⟩
      · have hd : decide (posE l nm < k) = false := by simp; omega
        rw [hd]
        have hg := HGA.out hp
        have HOUT := hide (HAT.out hp)
        have HDD := hide (show Value.bool true = .bool (decide (posE l nm < k + 1)) from by rw [decide_eq_true (by omega)])
        unfold gtB at hg
        clear HLO HAT HHI HGA HGL hp hd
        generalize outK l nm nd k = ol at HO HOUT hlen
        have HC2 := hide (ent_new1 wr (.cells #[.string x0, .int .i64 x1] 37) nm nd)
        go_wp2_with (first
          | (at_builtin; refine wpList_append_entry _ rfl (.tmp 27) (.tmp 31) rfl w1.heap.size u7 ol (nm, nd) (wr.heap.size + 1) 1 rfl rfl ?_ ?_ ?_ ?_ ?_ ?_; (exact ownE_alloc (ownE_alloc HO.out _) _); (exact HC2.out.1); (exact HC2.out.2); omega; (exact Nat.le_trans HS.out (by simp; omega)); intro v3 w3 ho3 hg3; obtain ⟨q3, q4⟩ := grown_ent HO.out hg3; have HS3 := hide (below_grown2 HN.out HS.out HO.out hg3).size; have HO3 := hide ho3; have HG3 := hide hg3; clear ho3 hg3)
          | (at_builtin; refine wpList_append_entry _ rfl (.tmp 33) (.tmp 35) rfl w1.heap.size v3 (ol ++ [(nm, nd)]) (x0, x1) w3.heap.size 1 rfl rfl ?_ ?_ ?_ ?_ ?_ ?_; (exact ownE_alloc HO3.out _); (exact (ent_new w3 x0 x1).1); (exact (ent_new w3 x0 x1).2); (simp; omega); (exact Nat.le_trans HS3.out (by simp)); intro v4 w4 ho4 hg4)
          | go_in)
        exact ⟨⟨k + 1, by omega, by go_num, HDD.out, by rw [HOUT.out]; exact ho4, ((below_grown2 HN.out HS.out HO.out HG3.out).alloc HS3.out _).grown hg4 (Nat.le_trans HS3.out (by simp)) (fun j hj => (World.ownsRow.lt HO3.out j hj).1)⟩, by simp [intOf]; omega⟩
      · have hd : decide (posE l nm < k) = true := by simp; omega
        rw [hd]
        have HOUT := hide (HHI.out hp)
        have HDD := hide (show Value.bool true = .bool (decide (posE l nm < k + 1)) from by rw [decide_eq_true (by omega)])
        clear HLO HAT HHI HGA HGL hp hd
        generalize outK l nm nd k = ol at HO HOUT hlen
        go_wp2_with (first
          | (at_builtin; refine wpList_append_entry _ rfl (.tmp 33) (.tmp 35) rfl w1.heap.size u7 ol (x0, x1) (wr.heap.size + 1) 1 rfl rfl ?_ ?_ ?_ ?_ ?_ ?_; (exact ownE_alloc (ownE_alloc HO.out _) _); (exact HC.out.1); (exact HC.out.2); omega; (exact Nat.le_trans HS.out (by simp; omega)); intro v3 w3 ho3 hg3)
          | go_in)
        exact ⟨⟨k + 1, by omega, by go_num, HDD.out, by rw [HOUT.out]; exact ho3, below_grown2 HN.out HS.out HO.out hg3⟩, by simp [intOf]; omega⟩
    · obtain rfl : k = l.length := by omega
      by_cases hp : posE l nm < l.length
      · have hd : decide (posE l nm < l.length) = true := by simp; omega
        rw [hd]
        rw [outK_end hp] at hown
        have HO := hide hown
        have HN := hide (HB1.out.trans (hnx.mono HB1.out.size))
        have HS := hide HB1.out.size
        clear hown hnx hd hp hlen
        go_wp2
        go_ret
        exact ⟨u7, rfl, by rw [HLE.out]; exact HO.out.mono HS.out, HN.out⟩
      · have hd : decide (posE l nm < l.length) = false := by simp; omega
        rw [hd]
        have HOUT := hide (outK_end' (nd := nd) hp)
        have HO := hide hown
        have HN := hide hnx
        have HS := hide hnx.size
        have HC := hide (ent_new wr nm nd)
        clear hown hnx hd hp
        generalize outK l nm nd l.length = ol at HO HOUT hlen
        go_wp2_with (first
          | (at_builtin; refine wpList_append_entry _ rfl (.tmp 40) (.tmp 44) rfl w1.heap.size u7 ol (nm, nd) wr.heap.size 1 rfl rfl ?_ ?_ ?_ ?_ ?_ ?_; (exact ownE_alloc HO.out _); (exact HC.out.1); (exact HC.out.2); omega; (exact Nat.le_trans HS.out (by simp)); intro v3 w3 ho3 hg3)
          | go_in)
        go_ret
        have hb3 : Below w1.heap.size w1 w3 := (HN.out.alloc HS.out _).grown hg3 (Nat.le_trans HS.out (by simp)) (fun j hj => (World.ownsRow.lt HO.out j hj).1)
        exact ⟨v3, rfl, by rw [HLE.out, ← HOUT.out]; exact ho3.mono HB1.out.size, HB1.out.trans (hb3.mono HB1.out.size)⟩
end Go.Proofs.YtpccongphchagaaGreatDoor
namespace Go.Proofs.YtpccongphchagaaGreatDoor
open Go.RowKit
set_option maxRecDepth 20000 in
theorem bytesOf_any (a : Option Addr) (cap : Nat) (ns : List (List Nat × Int)) (w : World) (hn : ns.length ≤ 9223372036854775807) (hsum : sumN ns ≤ 1048576) (hr : NodeAt w a ns) :
    Calls Tryz.prog 57 #[.slice a ns.length cap] w fun e w' => e = .returned (.int .i64 (sumN ns : Int)) ∧ Below w.heap.size w w' := by
  go_enter Tryz.func57, Tryz.ntmps57
  go_wp2
  go_loopw [3, 8] (fun t i wr => ∃ k : Nat, k ≤ ns.length ∧ i = .int .i64 k ∧ t = .int .i64 (sumN (ns.take k) : Int) ∧ Below w.heap.size w wr) (fun _ i _ => ns.length - (intOf i).toNat)
  case atStart => exact ⟨0, Nat.zero_le _, rfl, rfl, Below.refl _ _⟩
  case round =>
    obtain ⟨k, hk, rfl, rfl, hnx⟩ := hrel
    by_cases hlt : k < ns.length
    · obtain ⟨b, off, rfl, hc⟩ := (hr.below hnx) (by omega)
      obtain ⟨ai, ci, hc0, hc1, _⟩ := hc k hlt
      have HS := hide (sumN_take_succ ns k hlt)
      have hle := sumN_take_le ns (k + 1)
      rw [sumN_take_succ ns k hlt] at hle
      have HN := hide (hnx.alloc hnx.size (.cells #[.slice ai ns[k].1.length ci, .int .i64 ns[k].2] 49))
      clear hc hr hnx
      generalize sumN (ns.take k) = s0 at hle HS ⊢
      generalize ns[k].1.length = n0 at hc0 hle HS HN
      generalize ns[k].2 = sf at hc1 HN
      go_wp2
      go_roundw
      case rel => exact ⟨k + 1, by omega, by go_num, val_int (by rw [HS.out]; omega), HN.out⟩
      case measure => simp [intOf]; omega
    · have he : ns.take k = ns := List.take_of_length_le (by omega)
      rw [he]
      go_wp2
      go_ret
      exact ⟨rfl, hnx⟩
def okNode (e : List Nat × Int) : Bool := decide (e.1.length ≤ 40000 ∧ 0 ≤ e.2 ∧ e.2 ≤ e.1.length)
def okNodes (ns : List (List Nat × Int)) : Bool := decide (ns.length ≤ 600 ∧ (∀ i (h : i < ns.length), okNode ns[i] = true) ∧ sumN ns ≤ 200000)
theorem okNodes_no {ns : List (List Nat × Int)} {i : Nat} (h : i < ns.length) (hb : okNode ns[i] = false) : okNodes ns = false := by
  unfold okNodes
  refine decide_eq_false fun h' => ?_
  rw [h'.2.1 i h] at hb
  simp at hb
set_option maxRecDepth 20000 in
theorem nodesFit_any (a : Option Addr) (cap : Nat) (ns : List (List Nat × Int)) (w : World) (hn : ns.length ≤ 9223372036854775807) (hls : ∀ e ∈ ns, e.1.length ≤ 1048576) (hsum : sumN ns ≤ 1048576) (hr : NodeAt w a ns) :
    Calls Tryz.prog 25 #[.slice a ns.length cap] w fun e w' => e = .returned (.bool (okNodes ns)) ∧ Below w.heap.size w w' := by
  by_cases h6 : 600 < ns.length
  · have hf : okNodes ns = false := decide_eq_false fun h => by omega
    rw [hf]
    go_enter Tryz.func25, Tryz.ntmps25
    go_wp2
    go_ret
    exact ⟨rfl, Below.refl _ _⟩
  go_enter Tryz.func25, Tryz.ntmps25
  go_wp2
  go_loopw [10] (fun i wr => ∃ k : Nat, k ≤ ns.length ∧ i = .int .i64 k ∧ (∀ i (h : i < ns.length), i < k → okNode ns[i] = true) ∧ Below w.heap.size w wr) (fun i _ => ns.length - (intOf i).toNat)
  case atStart => exact ⟨0, Nat.zero_le _, rfl, fun i _ h => by omega, Below.refl _ _⟩
  case round =>
    obtain ⟨k, hk, rfl, hok, hnx⟩ := hrel
    have HK := hide hok
    have HR := hide hr
    clear hok
    by_cases hlt : k < ns.length
    · obtain ⟨b, off, rfl, hc⟩ := (hr.below hnx) (by omega)
      obtain ⟨ai, ci, hc0, hc1, _⟩ := hc k hlt
      have hkl := hls _ (List.getElem_mem hlt)
      have HN := hide (hnx.alloc hnx.size (.cells #[.slice ai ns[k].1.length ci, .int .i64 ns[k].2] 49))
      have HNO := hide (okNodes_no (ns := ns) hlt)
      have HOK := hide (show okNode ns[k] = decide (ns[k].1.length ≤ 40000 ∧ 0 ≤ ns[k].2 ∧ ns[k].2 ≤ ns[k].1.length) from rfl)
      have HST := hide (fun (e : okNode ns[k] = true) (i : Nat) (h : i < ns.length) (h' : i < k + 1) => (by
        by_cases e' : i = k
        · subst e'; exact e
        · exact HK.out i h (by omega) : okNode ns[i] = true))
      clear hc hr hnx hls HK
      generalize ns[k].1.length = n0 at hc0 HN HOK hkl
      generalize ns[k].2 = sf at hc1 HN HOK
      by_cases g1 : 40000 < n0
      · go_wp2
        go_ret
        exact ⟨ret_bool (HNO.out (by rw [HOK.out]; exact decide_eq_false fun h => by omega)).symm, HN.out⟩
      by_cases g2 : sf < 0
      · go_wp2
        go_ret
        exact ⟨ret_bool (HNO.out (by rw [HOK.out]; exact decide_eq_false fun h => by omega)).symm, HN.out⟩
      by_cases g3 : (n0 : Int) < sf
      · go_wp2
        go_ret
        exact ⟨ret_bool (HNO.out (by rw [HOK.out]; exact decide_eq_false fun h => by omega)).symm, HN.out⟩
      have HST2 := hide (HST.out (by rw [HOK.out]; exact decide_eq_true ⟨by omega, by omega, by omega⟩))
      go_wp2
      go_roundw
      case rel => exact ⟨k + 1, by omega, by go_num, HST2.out, HN.out⟩
      case measure => simp [intOf]; omega
    · go_wp2_with fail
      refine (bytesOf_any a cap ns wr hn hsum (HR.out.below hnx)).mono ?_
      rintro e w2 ⟨rfl, hb⟩
      have HN := hide (hnx.trans (hb.mono hnx.size))
      clear hb hnx hr hls
      have HF : Hid (okNodes ns = decide (sumN ns ≤ 200000)) := by
        unfold okNodes
        by_cases h2 : sumN ns ≤ 200000
        · rw [decide_eq_true h2]; exact decide_eq_true ⟨by omega, fun i h => HK.out i h (by omega), h2⟩
        · rw [decide_eq_false h2]; exact decide_eq_false fun h => h2 h.2.2
      go_wp2
      go_ret
      exact ⟨ret_bool (by rw [HF.out]; simp; omega), HN.out⟩
end Go.Proofs.YtpccongphchagaaGreatDoor
namespace Go.Proofs.YtpccongphchagaaGreatDoor
open Go.RowKit
theorem equalE_any (a a' : Option Addr) (cap cap' : Nat) (ls ms : List (ByteArray × Int)) (w : World) (hl : ls.length ≤ 9223372036854775807) (hr : EntAt w a ls) (hr' : EntAt w a' ms) :
    Calls Tryz.prog 59 #[.slice a ls.length cap, .slice a' ms.length cap'] w fun e w' => (∃ r : Bool, e = .returned (.bool r) ∧ (r = true ↔ ls = ms)) ∧ ∃ n, w' = w.drewN n := by
  by_cases hlen : ls.length = ms.length
  · have hne : ((ls.length : Int) != (ms.length : Int)) = false := by simp; omega
    have HL : Hid (ls.length = ms.length) := hlen
    clear hlen
    go_enter Tryz.func59, Tryz.ntmps59
    go_wp2
    go_loopw [5, 13] (fun _ i wr => ∃ k : Nat, k ≤ ls.length ∧ i = .int .i64 k ∧ ls.take k = ms.take k ∧ ∃ n, wr = w.drewN n) (fun _ i _ => ls.length - (intOf i).toNat)
    case atStart => exact ⟨0, Nat.zero_le _, rfl, rfl, 0, rfl⟩
    case round =>
      obtain ⟨k, hk, rfl, htk, hdr⟩ := hrel
      have HD : Hid (∃ n, wr = w.drewN n) := hdr
      have hrr : EntAt wr a ls := by obtain ⟨n, rfl⟩ := hdr; exact hr
      have hrr' : EntAt wr a' ms := by obtain ⟨n, rfl⟩ := hdr; exact hr'
      clear hdr hr hr'
      by_cases hlt : k < ls.length
      · have hlt' : k < ms.length := by have := HL.out; omega
        obtain ⟨b, off, rfl, hc⟩ := hrr (by omega)
        obtain ⟨b', off', rfl, hc'⟩ := hrr' (by omega)
        obtain ⟨c0, c1⟩ := hc k hlt
        obtain ⟨d0, d1⟩ := hc' k hlt'
        have HT : Hid (ls.take k = ms.take k) := htk
        have HLM := hide (fun (h : ls = ms) => (show ls[k].1 = ms[k].1 ∧ ls[k].2 = ms[k].2 from by subst h; exact ⟨rfl, rfl⟩))
        have HSU := hide (fun h1 h2 => ent_take_succ hlt hlt' htk h1 h2)
        clear hc hc' htk hrr hrr'
        generalize ls[k].1 = x1 at c0 HLM HSU
        generalize ls[k].2 = x2 at c1 HLM HSU
        generalize ms[k].1 = y1 at d0 HLM HSU
        generalize ms[k].2 = y2 at d1 HLM HSU
        by_cases g1 : x1 = y1
        · have hb1 := beq_of_eq g1
          by_cases g2 : x2 = y2
          · have hb2 : (x2 == y2) = true := by simp [g2]
            have HS2 := hide (HSU.out g1 g2)
            clear g1 g2 HLM HSU
            go_wp2
            go_quiet (fail)
            go_wp2
            go_roundw
            case rel => exact ⟨k + 1, by omega, by go_num, HS2.out, drew_more HD.out _⟩
            case measure => simp [intOf]; omega
          · have hb2 : (x2 == y2) = false := by simp [g2]
            have HN2 := hide (fun h => g2 (HLM.out h).2)
            clear g1 g2 HLM HSU
            go_wp2
            go_quiet (fail)
            go_wp2
            go_ret
            exact ⟨⟨false, rfl, ⟨fun h => by simp at h, fun h => absurd h HN2.out⟩⟩, drew_more HD.out _⟩
        · have hb1 := beq_of_ne g1
          have HN2 := hide (fun h => g1 (HLM.out h).1)
          clear g1 HLM HSU
          go_wp2
          go_quiet (fail)
          go_wp2
          go_ret
          exact ⟨⟨false, rfl, ⟨fun h => by simp at h, fun h => absurd h HN2.out⟩⟩, drew_more HD.out _⟩
      · have HEQ : Hid (ls = ms) := by
          have h1 : ls.take k = ls := List.take_of_length_le (by omega)
          have h2 : ms.take k = ms := List.take_of_length_le (by have := HL.out; omega)
          rw [← h1, ← h2, htk]; exact rfl
        go_wp2
        go_ret
        exact ⟨⟨true, rfl, ⟨fun _ => HEQ.out, fun _ => rfl⟩⟩, HD.out⟩
  · have hne : ((ls.length : Int) != (ms.length : Int)) = true := by simp; omega
    go_enter Tryz.func59, Tryz.ntmps59
    go_wp2
    go_ret
    exact ⟨⟨false, rfl, ⟨fun h => by simp at h, fun h => absurd (by rw [h]) hlen⟩⟩, 0, rfl⟩
end Go.Proofs.YtpccongphchagaaGreatDoor
namespace Go.Proofs.YtpccongphchagaaGreatDoor
open Go.RowKit
/-- A block of n cells of type t, whatever they hold. -/
def Raw (w : World) (g : Nat) (t : TypeId) (n : Nat) : Prop := ∃ cur : Array Value, w.heap[g]? = some (.cells cur t (0, 0)) ∧ cur.size = n
theorem Raw.cell {w : World} {g t n : Nat} (h : Raw w g t n) (j : Nat) (hj : j < n) : ∃ v, w.cell? ⟨g, j, none⟩ = some v := by
  obtain ⟨cur, hc, hs⟩ := h
  rw [cell_of_row w g j _ _ _ hc]
  exact ⟨_, Array.getElem?_eq_getElem (by omega)⟩
theorem Raw.frozen {w : World} {g t n : Nat} (h : Raw w g t n) (j : Nat) : w.frozen? ⟨g, j, none⟩ = false := by
  obtain ⟨cur, hc, _⟩ := h
  simp [World.frozen?, hc]
theorem Raw.lt {w : World} {g t n : Nat} (h : Raw w g t n) : g < w.heap.size := by
  obtain ⟨cur, hc, _⟩ := h
  exact lt_of_block hc
theorem Raw.set {w : World} {g t n : Nat} (h : Raw w g t n) (g' j : Nat) (u : Value) : Raw (w.setCell ⟨g', j, none⟩ u) g t n := by
  obtain ⟨cur, hc, hs⟩ := h
  by_cases e : g = g'
  · subst e
    refine ⟨cur.setIfInBounds j u, ?_, by simpa using hs⟩
    rw [setCell_eq_setRow w g j _ _ _ _ hc, setRow_heap w g _ _ _ _ hc]
  · exact ⟨cur, (heap_setCell_other w ⟨g', j, none⟩ g u (by simpa using e)).trans hc, hs⟩
theorem Raw.apart {w : World} {g g' t t' n n' : Nat} (h : Raw w g t n) (h' : Raw w g' t' n') (ht : t ≠ t') : g ≠ g' := by
  rintro rfl
  obtain ⟨c, hc, _⟩ := h
  obtain ⟨c', hc', _⟩ := h'
  rw [hc] at hc'
  simp only [Option.some.injEq, Obj.cells.injEq] at hc'
  exact ht hc'.2.1
theorem Raw.of_eq {w w' : World} {g t n : Nat} (h : Raw w g t n) (e : w'.heap[g]? = w.heap[g]?) : Raw w' g t n := by
  obtain ⟨cur, hc, hs⟩ := h
  exact ⟨cur, e.trans hc, hs⟩
theorem Out.set {lo hi g j : Nat} {a w : World} {u : Value} (h : Out lo hi a w) (h1 : lo ≤ g) (h2 : g < hi) : Out lo hi a (w.setCell ⟨g, j, none⟩ u) :=
  ⟨h.os, h.tape, h.output, by simpa using h.size, fun k hk ho => by
    rw [heap_setCell_other w ⟨g, j, none⟩ k u (by simp; omega)]
    exact h.block k hk ho⟩
theorem Out.andThen {lo hi B : Nat} {a b c : World} (h : Out lo hi a b) (k : Below B b c) (hB : a.heap.size ≤ B) : Out lo hi a c :=
  ⟨k.os.trans h.os, k.tape.trans h.tape, k.output.trans h.output, Nat.le_trans h.size k.size, fun i hi ho => (k.block i (by omega)).trans (h.block i hi ho)⟩
end Go.Proofs.YtpccongphchagaaGreatDoor
namespace Go.Proofs.YtpccongphchagaaGreatDoor
open Go.RowKit
/-- The nodes of a disk, whatever they hold, all in blocks of [lo, hi). -/
structure NodesRaw (w : World) (lo hi g n m : Nat) (vs : Nat → Value) : Prop where
  raw : Raw w g 49 m
  room : n * 2 ≤ m
  low : lo ≤ g
  high : g < hi
  sl : ∀ j, j < n → w.cell? ⟨g, j * 2, none⟩ = some (vs j)
  el : ∀ j, j < n → vs j = .slice none 0 0 ∨ ∃ gj nj cj mj, vs j = .slice (some ⟨gj, 0, none⟩) nj cj ∧ Raw w gj 5 mj ∧ nj ≤ mj ∧ lo ≤ gj ∧ gj < hi ∧ nj ≤ 1048576
theorem NodesRaw.turn {w w' : World} {lo hi g n m : Nat} {vs : Nat → Value} (h : NodesRaw w lo hi g n m vs) (hr : ∀ g' t n', Raw w g' t n' → Raw w' g' t n') (hc : ∀ j, j < n → w'.cell? ⟨g, j * 2, none⟩ = w.cell? ⟨g, j * 2, none⟩) : NodesRaw w' lo hi g n m vs :=
  ⟨hr _ _ _ h.raw, h.room, h.low, h.high, fun j hj => (hc j hj).trans (h.sl j hj), fun j hj => by
    rcases h.el j hj with e | ⟨gj, nj, cj, mj, e, r, rest⟩
    · exact .inl e
    · exact .inr ⟨gj, nj, cj, mj, e, hr _ _ _ r, rest⟩⟩
theorem cell_of_block {w w' : World} {g j : Nat} (h : w'.heap[g]? = w.heap[g]?) : w'.cell? ⟨g, j, none⟩ = w.cell? ⟨g, j, none⟩ := by
  unfold World.cell?
  simp only [h]
theorem Raw.ty {w : World} {g t t' n n' : Nat} (h : Raw w g t n) (h' : Raw w g t' n') : t = t' := by
  obtain ⟨c, hc, _⟩ := h
  obtain ⟨c', hc', _⟩ := h'
  rw [hc] at hc'
  simp only [Option.some.injEq, Obj.cells.injEq] at hc'
  exact hc'.2.1
def ElOk (w : World) (lo hi : Nat) (v : Value) : Prop := v = .slice none 0 0 ∨ ∃ gj nj cj mj, v = .slice (some ⟨gj, 0, none⟩) nj cj ∧ Raw w gj 5 mj ∧ nj ≤ mj ∧ lo ≤ gj ∧ gj < hi ∧ nj ≤ 1048576
end Go.Proofs.YtpccongphchagaaGreatDoor
