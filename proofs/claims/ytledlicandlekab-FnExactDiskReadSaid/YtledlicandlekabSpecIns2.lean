import Derived.Test.YtledlicandlekabSpecIns
namespace Go.Proofs.Ytledlicandlekab
open Go.RowKit
theorem ent_new (w : World) (x : ByteArray) (n : Int) : (w.alloc (.cells #[.string x, .int .i64 n] 58)).cell? ⟨w.heap.size, 0, none⟩ = some (.string x) ∧ (w.alloc (.cells #[.string x, .int .i64 n] 58)).cell? ⟨w.heap.size, 1, none⟩ = some (.int .i64 n) := by
  have l2 := Laid.new w #[.string x, .int .i64 n] 58
  exact ⟨l2.cell 0, l2.cell 1⟩
theorem ent_new1 (w : World) (o : Obj) (x : ByteArray) (n : Int) : ((w.alloc o).alloc (.cells #[.string x, .int .i64 n] 58)).cell? ⟨w.heap.size + 1, 0, none⟩ = some (.string x) ∧ ((w.alloc o).alloc (.cells #[.string x, .int .i64 n] 58)).cell? ⟨w.heap.size + 1, 1, none⟩ = some (.int .i64 n) := by
  have h := ent_new (w.alloc o) x n
  rw [show (w.alloc o).heap.size = w.heap.size + 1 from by simp] at h
  exact h
theorem ownE_alloc {w : World} {base : Nat} {v : Value} {es : List (ByteArray × Int)} (h : OwnE w base v es) (o : Obj) : OwnE (w.alloc o) base v es := h.below ((Below.refl _ _).alloc (Nat.le_refl _) o)
theorem below_grown2 {w w1 w3 : World} {base : Nat} {v : Value} {es : List (ByteArray × Int)} {o1 o2 : Obj} (hb : Below base w w1) (hs : base ≤ w1.heap.size) (ho : OwnE w1 base v es) (hg : ((w1.alloc o1).alloc o2).grownBy w3 v.ownBlock) : Below base w w3 :=
  ((hb.alloc hs o1).alloc (by simp; omega) o2).grown hg (by simp; omega) (fun j hj => (World.ownsRow.lt ho j hj).1)
theorem grown_ent {w w3 : World} {base : Nat} {v : Value} {es : List (ByteArray × Int)} {x : ByteArray} {n : Int} {o : Obj} (ho : OwnE w base v es) (hg : ((w.alloc (.cells #[.string x, .int .i64 n] 58)).alloc o).grownBy w3 v.ownBlock) : w3.cell? ⟨w.heap.size, 0, none⟩ = some (.string x) ∧ w3.cell? ⟨w.heap.size, 1, none⟩ = some (.int .i64 n) := by
  have l0 : Laid ((w.alloc (.cells #[.string x, .int .i64 n] 58)).alloc o) w.heap.size #[.string x, .int .i64 n] 58 := Laid.below (B := w.heap.size + 1) (Laid.new w _ _) ((Below.refl _ _).alloc (by simp) _) (by omega)
  have l1 : Laid w3 w.heap.size #[.string x, .int .i64 n] 58 := (hg.block w.heap.size (by simp; omega) (fun e => by have := (World.ownsRow.lt ho _ e.symm).2; omega)).trans l0
  exact ⟨l1.cell 0, l1.cell 1⟩
set_option maxRecDepth 20000 in
set_option maxHeartbeats 1000000 in
theorem l1With_any (a : Option Addr) (cap : Nat) (es : List (ByteArray × Int)) (nm : ByteArray) (nd : Int) (w : World) (hn : es.length ≤ 1048574) (hr : EntAt w a es) :
    Calls Try.prog 71 #[.slice a es.length cap, .string nm, .int .i64 nd] w fun e w' => ∃ v, e = .returned v ∧ OwnE w' w.heap.size v (insE (es.filter fun e => decide (e.1 ≠ nm)) nm nd) ∧ Below w.heap.size w w' := by
  go_enter Try.func71, Try.ntmps71
  go_wp2_with fail
  refine (l1Without_any a cap es nm w (by omega) hr).mono ?_
  rintro e w1 ⟨v1, rfl, ho1, hb1⟩
  obtain ⟨a1, c1, hv1⟩ := ho1.slice
  subst hv1
  have he1 := ho1.at
  have hfl : (es.filter fun e => decide (e.1 ≠ nm)).length ≤ 1048574 := Nat.le_trans (List.length_filter_le _ _) hn
  have HB1 := hide hb1
  have HE1 := hide he1
  clear ho1 hb1 hr he1
  generalize hle : (es.filter fun e => decide (e.1 ≠ nm)) = l at HE1 hfl
  have HLE := hide hle
  clear hle
  go_wp2
  go_loopw [7, 8, 15] (fun v d i wr => ∃ k : Nat, k ≤ l.length ∧ i = .int .i64 k ∧ d = .bool (decide (posE l nm < k)) ∧ OwnE wr w1.heap.size v (outK l nm nd k) ∧ Below w1.heap.size w1 wr) (fun _ _ i _ => l.length - (intOf i).toNat)
  case atStart => exact ⟨0, Nat.zero_le _, rfl, by simp, by rw [outK_zero]; exact World.ownsRow_nil w1 w1.heap.size 58 2, Below.refl _ _⟩
  case round =>
    obtain ⟨k, hk, rfl, rfl, hown, hnx⟩ := hrel
    have hlen := outK_len l nm nd k
    by_cases hlt : k < l.length
    · obtain ⟨b, off, rfl, hc⟩ := (HE1.out.below hnx) (by omega)
      obtain ⟨hc0, hc1⟩ := hc k hlt
      have HLO := hide (fun h => outK_lo (nm := nm) (nd := nd) hlt h)
      have HAT := hide (fun h => outK_at (nm := nm) (nd := nd) hlt h)
      have HHI := hide (fun h => outK_hi (nm := nm) (nd := nd) hlt h)
      have HGA := hide (fun h => gt_at (nm := nm) hlt h)
      have HGL := hide (fun h => gt_lo (nm := nm) hlt h)
      have HO := hide hown
      have HN := hide hnx
      have HS := hide hnx.size
      clear hc hown hnx
      generalize l[k].1 = x0 at hc0 HLO HAT HHI HGA HGL
      generalize l[k].2 = x1 at hc1 HLO HAT HHI
      have HC := hide (ent_new1 wr (.cells #[.string x0, .int .i64 x1] 58) x0 x1)
      rcases Nat.lt_trichotomy k (posE l nm) with hp | hp | hp
      · have hd : decide (posE l nm < k) = false := by simp; omega
        rw [hd]
        have hg := HGL.out hp
        have HOUT := hide (HLO.out hp)
        have HDD := hide (show Value.bool false = .bool (decide (posE l nm < k + 1)) from by rw [decide_eq_false (by omega)])
        unfold gtB at hg
        clear HLO HAT HHI HGA HGL hp hd
        generalize outK l nm nd k = ol at HO HOUT hlen
        go_wp2_with (first
          | (at_builtin; refine wpList_append_entry _ rfl (.tmp 33) (.tmp 35) rfl w1.heap.size u7 ol (x0, x1) (wr.heap.size + 1) 1 rfl rfl ?_ ?_ ?_ ?_ ?_ ?_; (exact ownE_alloc (ownE_alloc HO.out _) _); (exact HC.out.1); (exact HC.out.2); omega; (exact Nat.le_trans HS.out (by simp; omega)); intro v3 w3 ho3 hg3)
          | go_in)
        exact ⟨⟨k + 1, by omega, by go_num, HDD.out, by rw [HOUT.out]; exact ho3, below_grown2 HN.out HS.out HO.out hg3⟩, by simp [intOf]; omega⟩
      · have hd : decide (posE l nm < k) = false := by simp; omega
        rw [hd]
        have hg := HGA.out hp
        have HOUT := hide (HAT.out hp)
        have HDD := hide (show Value.bool true = .bool (decide (posE l nm < k + 1)) from by rw [decide_eq_true (by omega)])
        unfold gtB at hg
        clear HLO HAT HHI HGA HGL hp hd
        generalize outK l nm nd k = ol at HO HOUT hlen
        have HC2 := hide (ent_new1 wr (.cells #[.string x0, .int .i64 x1] 58) nm nd)
        go_wp2_with (first
          | (at_builtin; refine wpList_append_entry _ rfl (.tmp 27) (.tmp 31) rfl w1.heap.size u7 ol (nm, nd) (wr.heap.size + 1) 1 rfl rfl ?_ ?_ ?_ ?_ ?_ ?_; (exact ownE_alloc (ownE_alloc HO.out _) _); (exact HC2.out.1); (exact HC2.out.2); omega; (exact Nat.le_trans HS.out (by simp; omega)); intro v3 w3 ho3 hg3; obtain ⟨q3, q4⟩ := grown_ent HO.out hg3; have HS3 := hide (below_grown2 HN.out HS.out HO.out hg3).size; have HO3 := hide ho3; have HG3 := hide hg3; clear ho3 hg3)
          | (at_builtin; refine wpList_append_entry _ rfl (.tmp 33) (.tmp 35) rfl w1.heap.size v3 (ol ++ [(nm, nd)]) (x0, x1) w3.heap.size 1 rfl rfl ?_ ?_ ?_ ?_ ?_ ?_; (exact ownE_alloc HO3.out _); (exact (ent_new w3 x0 x1).1); (exact (ent_new w3 x0 x1).2); (simp; omega); (exact Nat.le_trans HS3.out (by simp)); intro v4 w4 ho4 hg4)
          | go_in)
        exact ⟨⟨k + 1, by omega, by go_num, HDD.out, by rw [HOUT.out]; exact ho4, ((below_grown2 HN.out HS.out HO.out HG3.out).alloc HS3.out _).grown hg4 (Nat.le_trans HS3.out (by simp)) (fun j hj => (World.ownsRow.lt HO3.out j hj).1)⟩, by simp [intOf]; omega⟩
      · have hd : decide (posE l nm < k) = true := by simp; omega
        rw [hd]
        have HOUT := hide (HHI.out hp)
        have HDD := hide (show Value.bool true = .bool (decide (posE l nm < k + 1)) from by rw [decide_eq_true (by omega)])
        clear HLO HAT HHI HGA HGL hp hd
        generalize outK l nm nd k = ol at HO HOUT hlen
        go_wp2_with (first
          | (at_builtin; refine wpList_append_entry _ rfl (.tmp 33) (.tmp 35) rfl w1.heap.size u7 ol (x0, x1) (wr.heap.size + 1) 1 rfl rfl ?_ ?_ ?_ ?_ ?_ ?_; (exact ownE_alloc (ownE_alloc HO.out _) _); (exact HC.out.1); (exact HC.out.2); omega; (exact Nat.le_trans HS.out (by simp; omega)); intro v3 w3 ho3 hg3)
          | go_in)
        exact ⟨⟨k + 1, by omega, by go_num, HDD.out, by rw [HOUT.out]; exact ho3, below_grown2 HN.out HS.out HO.out hg3⟩, by simp [intOf]; omega⟩
    · obtain rfl : k = l.length := by omega
      by_cases hp : posE l nm < l.length
      · have hd : decide (posE l nm < l.length) = true := by simp; omega
        rw [hd]
        rw [outK_end hp] at hown
        have HO := hide hown
        have HN := hide (HB1.out.trans (hnx.mono HB1.out.size))
        have HS := hide HB1.out.size
        clear hown hnx hd hp hlen
        go_wp2
        go_ret
        exact ⟨u7, rfl, by rw [HLE.out]; exact HO.out.mono HS.out, HN.out⟩
      · have hd : decide (posE l nm < l.length) = false := by simp; omega
        rw [hd]
        have HOUT := hide (outK_end' (nd := nd) hp)
        have HO := hide hown
        have HN := hide hnx
        have HS := hide hnx.size
        have HC := hide (ent_new wr nm nd)
        clear hown hnx hd hp
        generalize outK l nm nd l.length = ol at HO HOUT hlen
        go_wp2_with (first
          | (at_builtin; refine wpList_append_entry _ rfl (.tmp 40) (.tmp 44) rfl w1.heap.size u7 ol (nm, nd) wr.heap.size 1 rfl rfl ?_ ?_ ?_ ?_ ?_ ?_; (exact ownE_alloc HO.out _); (exact HC.out.1); (exact HC.out.2); omega; (exact Nat.le_trans HS.out (by simp)); intro v3 w3 ho3 hg3)
          | go_in)
        go_ret
        have hb3 : Below w1.heap.size w1 w3 := (HN.out.alloc HS.out _).grown hg3 (Nat.le_trans HS.out (by simp)) (fun j hj => (World.ownsRow.lt HO.out j hj).1)
        exact ⟨v3, rfl, by rw [HLE.out, ← HOUT.out]; exact ho3.mono HB1.out.size, HB1.out.trans (hb3.mono HB1.out.size)⟩
end Go.Proofs.Ytledlicandlekab
