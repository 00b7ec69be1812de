import Derived.Test.YtokcdpamcbpaiabSpecFrame
import Derived.Test.YtokcdpamcbpaiabCrcOver
namespace Go.Proofs.Ytokcdpamcbpaiab
open Go.RowKit
theorem frameGo_bad {acc : List Nat} {ls : List (List Nat)} {k : Nat} (h : k < ls.length) (hg : frameGo [] ls = frameGo acc (ls.drop k)) (hb : ls[k].length < 1 ∨ 2000 < ls[k].length ∨ 40000 < acc.length + 6 + ls[k].length) : frameOf ls = [] := by
  unfold frameOf
  rw [hg, List.drop_eq_getElem_cons h]
  simp only [frameGo, if_pos hb, Option.getD_none]
theorem frameGo_ok {acc : List Nat} {ls : List (List Nat)} {k : Nat} (h : k < ls.length) (hg : frameGo [] ls = frameGo acc (ls.drop k)) (hb : ¬ (ls[k].length < 1 ∨ 2000 < ls[k].length ∨ 40000 < acc.length + 6 + ls[k].length)) : frameGo [] ls = frameGo (acc ++ frameB ls[k]) (ls.drop (k + 1)) := by
  rw [hg, List.drop_eq_getElem_cons h]
  simp only [frameGo, if_neg hb]
theorem frameGo_end {acc : List Nat} {ls : List (List Nat)} {k : Nat} (h : ¬ k < ls.length) (hg : frameGo [] ls = frameGo acc (ls.drop k)) : frameOf ls = acc := by
  unfold frameOf
  rw [hg, List.drop_eq_nil_of_le (by omega)]
  rfl
theorem specFrame_any (a : Option Addr) (cap : Nat) (ls : List (List Nat)) (w : World) (hl : ls.length ≤ 1048576) (hls : ∀ l ∈ ls, l.length ≤ 1048576) (hr : RowsAt w a ls) (hb : ∀ l ∈ ls, ∀ x ∈ l, x < 256) :
    Calls Try.prog 21 #[.slice a ls.length cap] w fun e w' => ∃ v, e = .returned v ∧ OwnB w' w.heap.size v (frameOf ls) ∧ Below w.heap.size w w' := by
  go_enter Try.func21, Try.ntmps21
  go_wp2
  go_loopw [3, 8] (fun v i wr => ∃ k : Nat, ∃ acc : List Nat, k ≤ ls.length ∧ i = .int .i64 k ∧ acc.length ≤ 40000 ∧ frameGo [] ls = frameGo acc (ls.drop k) ∧ OwnB wr w.heap.size v acc ∧ Below w.heap.size w wr) (fun _ i _ => ls.length - (intOf i).toNat)
  case atStart => exact ⟨0, [], Nat.zero_le _, rfl, by simp, rfl, OwnB.nil _ _, Below.refl _ _⟩
  case round =>
    obtain ⟨k, acc, hk, rfl, hal, hgo, hov, hnx⟩ := hrel
    have HG : Hid (frameGo [] ls = frameGo acc (ls.drop k)) := hgo
    clear hgo
    obtain ⟨av, cv, rfl⟩ := hov.slice
    have hsz := hnx.size
    by_cases hlt : k < ls.length
    · obtain ⟨b, off, rfl, hc⟩ := (hr.below hnx) (by omega)
      obtain ⟨ai, ci, hck, hri⟩ := hc k hlt
      have hkl := hls _ (List.getElem_mem hlt)
      have hkb := hb _ (List.getElem_mem hlt)
      have HB := fun h => frameGo_bad hlt HG.out h
      have HK := fun h => frameGo_ok hlt HG.out h
      have HB' := hide HB
      have HK' := hide HK
      clear hc hr hls hb HB HK HG
      generalize ls[k] = rec at hck hri hkl hkb HB' HK'
      by_cases c1 : rec.length < 1
      · go_wp2
        go_ret
        exact ⟨_, rfl, by rw [unhide HB' (.inl c1)]; exact OwnB.nil _ _, hnx⟩
      by_cases c2 : 2000 < rec.length
      · go_wp2
        go_ret
        exact ⟨_, rfl, by rw [unhide HB' (.inr (.inl c2))]; exact OwnB.nil _ _, hnx⟩
      by_cases c3 : 40000 < acc.length + 6 + rec.length
      · go_wp2
        go_ret
        exact ⟨_, rfl, by rw [unhide HB' (.inr (.inr c3))]; exact OwnB.nil _ _, hnx⟩
      · go_wp2_with fail
        refine (l2Frame_any ai ci rec wr (by omega) (by omega) hri hkb).mono ?_
        rintro e w2 ⟨v2, rfl, ho2, hb2⟩
        obtain ⟨a2, c2', rfl⟩ := ho2.slice
        have hov2 := hov.below hb2 (Nat.le_refl _)
        have hnx2 := hnx.trans (hb2.mono hsz)
        have HF := hide (frameB_length rec)
        go_wp2_with (at_builtin; refine wpList_append_bytes _ rfl _ _ rfl w.heap.size (.slice av acc.length cv) acc (frameB rec) rfl hov2 _ _ rfl ho2.row (by have := unhide HF; omega) (by have := unhide HF; omega) hnx2.size ?_; intro v3 w3 ho3 hg3)
        go_roundw
        case rel => exact ⟨k + 1, acc ++ frameB rec, by omega, by go_num, by rw [List.length_append, unhide HF]; omega, unhide HK' (by omega), ho3, hnx2.grown hg3 hnx2.size (fun k h => (World.ownsRow.lt hov2 k h).1)⟩
        case measure => simp [intOf]; omega
    · go_wp2
      go_ret
      exact ⟨_, rfl, by rw [frameGo_end hlt HG.out]; exact hov, hnx⟩
theorem frameSum_any (a a' : Option Addr) (cap cap' : Nat) (l m : List Nat) (w : World) (hl : l.length ≤ 1048576) (hm : m.length ≤ 1048576) (hr : RowAt w a l) (hr' : RowAt w a' m) (hb : ∀ x ∈ l, x < 256) (hb' : ∀ x ∈ m, x < 256) :
    Calls Try.prog 39 #[.slice a l.length cap, .slice a' m.length cap'] w fun e w' => e = .returned (.int .u32 ((crcOf (l ++ m) : Nat) : Int)) ∧ w' = w := by
  have hc1 : crcFold 4294967295 l < 4294967296 := crcFold_lt _ hb _ (by decide)
  have hc2 : crcFold (crcFold 4294967295 l) m < 4294967296 := crcFold_lt _ hb' _ hc1
  go_enter Try.func39, Try.ntmps39
  go_wp2_with fail
  refine (crcOver_any 4294967295 a cap l w (by decide) hl hr hb).mono ?_
  rintro e w' ⟨rfl, rfl⟩
  go_wp2_with fail
  refine (crcOver_any (crcFold 4294967295 l) a' cap' m w' hc1 hm hr' hb').mono ?_
  rintro e w' ⟨rfl, rfl⟩
  go_wp2
  go_ret
  exact ⟨ret_int (by rw [out_eq _ hc2, crc_two]; rfl), rfl⟩
theorem row_alloc4 (w : World) (c : Nat) (hc : c < 4294967296) : RowAt (w.alloc (.cells #[.int .u8 ((c : Int) / 16777216), .int .u8 ((c : Int) / 65536 % 256), .int .u8 ((c : Int) / 256 % 256), .int .u8 ((c : Int) % 256)] 5)) (some ⟨w.heap.size, 0, none⟩) (be4 c) := by
  have e : #[Value.int .u8 ((c : Int) / 16777216), .int .u8 ((c : Int) / 65536 % 256), .int .u8 ((c : Int) / 256 % 256), .int .u8 ((c : Int) % 256)] = ((be4 c).map bv).toArray := by
    have e0 : ((c / 16777216 % 256 : Nat) : Int) = (c : Int) / 16777216 := by omega
    have e1 : ((c / 65536 % 256 : Nat) : Int) = (c : Int) / 65536 % 256 := by omega
    have e2 : ((c / 256 % 256 : Nat) : Int) = (c : Int) / 256 % 256 := by omega
    have e3 : ((c % 256 : Nat) : Int) = (c : Int) % 256 := by omega
    simp only [be4, List.map_cons, List.map_nil, bv, e0, e1, e2, e3]
  rw [e]
  exact (own_of_block (B := w.heap.size) (l := be4 c) (Nat.le_refl _) (by unfold maxLen; simp [be4]) (heap_alloc_new w _)).row
theorem appendFrame_any (B : Nat) (w0 : World) (v : Value) (acc : List Nat) (a : Option Addr) (cap : Nat) (r : List Nat) (w : World) (h1 : 1 ≤ r.length) (h2 : r.length ≤ 2000) (hB : B = w0.heap.size) (hbw : Below B w0 w) (hr : RowAt w0 a r) (hb : ∀ x ∈ r, x < 256) (hal : acc.length ≤ 40000) (hov : OwnB w B v acc) :
    Calls Try.prog 37 #[v, .slice a r.length cap] w fun e w' => ∃ v', e = .returned v' ∧ OwnB w' B v' (acc ++ frameB r) ∧ Below B w0 w' := by
  subst hB
  have hsz := hbw.size
  have hrow := hr.below hbw
  have hW : OwnB (w.alloc (.cells #[.int .u8 ((r.length : Int) / 256), .int .u8 ((r.length : Int) % 256)] 5)) w.heap.size (.slice (some ⟨w.heap.size, 0, none⟩) (hd2 r.length).length (hd2 r.length).length) (hd2 r.length) := by
    refine own_of_block (Nat.le_refl _) (by unfold maxLen; simp [hd2]) ?_
    have e : #[Value.int .u8 ((r.length : Int) / 256), .int .u8 ((r.length : Int) % 256)] = ((hd2 r.length).map bv).toArray := by
      have e1 : ((r.length / 256 % 256 : Nat) : Int) = (r.length : Int) / 256 := by omega
      have e2 : ((r.length % 256 : Nat) : Int) = (r.length : Int) % 256 := by omega
      simp only [hd2, List.map_cons, List.map_nil, bv, e1, e2]
    rw [e]
    exact heap_alloc_new w _
  have hb1 : Below w0.heap.size w0 (w.alloc (.cells #[.int .u8 ((r.length : Int) / 256), .int .u8 ((r.length : Int) % 256)] 5)) := hbw.alloc hsz _
  have hov1 := hov.alloc (.cells #[.int .u8 ((r.length : Int) / 256), .int .u8 ((r.length : Int) % 256)] 5)
  have hrow1 := hr.below hb1
  go_enter Try.func37, Try.ntmps37
  go_wp2_with fail
  have hcl := crcOf_lt (hd2 r.length ++ r) (app_lt (hd2_lt _) hb)
  have HF : Hid (frameB r = hd2 r.length ++ be4 (crcOf (hd2 r.length ++ r)) ++ r) := rfl
  generalize w.alloc (.cells #[.int .u8 ((r.length : Int) / 256), .int .u8 ((r.length : Int) % 256)] 5) = W1 at hW hb1 hov1 hrow1 ⊢
  refine (frameSum_any (some ⟨w.heap.size, 0, none⟩) a 2 cap (hd2 r.length) r W1 (by simp [hd2]) (by omega) hW.row hrow1 (hd2_lt _) hb).mono ?_
  rintro e w2 ⟨rfl, rfl⟩
  generalize crcOf (hd2 r.length ++ r) = c at hcl HF ⊢
  clear hov hrow hrow1 hbw
  have hsz2 := hb1.size
  go_wp2_with (first
    | (at_builtin; refine wpList_append_bytes _ rfl (.tmp 20) (.tmp 21) rfl w0.heap.size v acc (hd2 r.length) rfl hov1 (some ⟨w.heap.size, 0, none⟩) 2 rfl hW.row (by simp [hd2]) (by simp [hd2]; omega) hsz2 ?_; intro v3 w3 ho3 hg3; have hb3 := hb1.grown hg3 hsz2 (fun k h => (World.ownsRow.lt hov1 k h).1); have hr4 := row_alloc4 w3 c hcl; have ho4 := ho3.alloc (.cells #[.int .u8 ((c : Int) / 16777216), .int .u8 ((c : Int) / 65536 % 256), .int .u8 ((c : Int) / 256 % 256), .int .u8 ((c : Int) % 256)] 5))
    | (at_builtin; refine wpList_append_bytes _ rfl (.tmp 23) (.tmp 35) rfl w0.heap.size v3 (acc ++ hd2 r.length) (be4 c) rfl ho4 (some ⟨w3.heap.size, 0, none⟩) 4 rfl hr4 (by simp [be4]) (by simp [hd2, be4]; omega) (by have := hb3.size; simp; omega) ?_; intro v5 w5 ho5 hg5; have hb5 := (hb3.alloc hb3.size _).grown hg5 (by have := hb3.size; simp; omega) (fun k h => (World.ownsRow.lt ho4 k h).1))
    | (at_builtin; refine wpList_append_bytes _ rfl (.tmp 37) (.tmp 38) rfl w0.heap.size v5 (acc ++ hd2 r.length ++ be4 c) r rfl ho5 a cap rfl (hr.below hb5) (by omega) (by simp [hd2, be4]; omega) hb5.size ?_; intro v6 w6 ho6 hg6))
  go_ret
  refine ⟨_, rfl, ?_, hb5.grown hg6 hb5.size (fun k h => (World.ownsRow.lt ho5 k h).1)⟩
  rw [HF.out]
  simpa [List.append_assoc] using ho6
end Go.Proofs.Ytokcdpamcbpaiab
