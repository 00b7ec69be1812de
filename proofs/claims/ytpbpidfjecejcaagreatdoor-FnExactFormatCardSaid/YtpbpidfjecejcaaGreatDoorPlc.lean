import Derived.Test.YtpbpidfjecejcaaGreatDoorPka
import Derived.Test.YtpbpidfjecejcaaGreatDoorPki
import Derived.Test.YtpbpidfjecejcaaGreatDoorPlb
namespace Go.Proofs.YtpbpidfjecejcaaGreatDoor
def hd2 (n : Nat) : List Nat := [n / 256 % 256, n % 256]
def be4 (c : Nat) : List Nat := [c / 16777216 % 256, c / 65536 % 256, c / 256 % 256, c % 256]
/-- The frame of a record. -/
def frameB (r : List Nat) : List Nat := hd2 r.length ++ be4 (crcOf (hd2 r.length ++ r)) ++ r
theorem frameB_length (r : List Nat) : (frameB r).length = 6 + r.length := by simp [frameB, hd2, be4]; omega
theorem hd2_lt (n : Nat) : ∀ x ∈ hd2 n, x < 256 := by
  intro x hx; simp [hd2] at hx; omega
theorem be4_lt (n : Nat) : ∀ x ∈ be4 n, x < 256 := by
  intro x hx; simp [be4] at hx; omega
theorem app_lt {a b : List Nat} (ha : ∀ x ∈ a, x < 256) (hb : ∀ x ∈ b, x < 256) : ∀ x ∈ a ++ b, x < 256 := by
  intro x hx; rcases List.mem_append.1 hx with h | h
  · exact ha x h
  · exact hb x h
theorem frameB_lt (r : List Nat) (h : ∀ x ∈ r, x < 256) : ∀ x ∈ frameB r, x < 256 := app_lt (app_lt (hd2_lt _) (be4_lt _)) h
theorem crc_two (a b : List Nat) : crcFold (crcFold 4294967295 a) b = crcFold 4294967295 (a ++ b) := by simp [crcFold]
/-- The frames of the records, or none where a record or the whole is out of bounds. -/
def frameGo (acc : List Nat) : List (List Nat) → Option (List Nat)
  | [] => some acc
  | r :: rs => if r.length < 1 ∨ 2000 < r.length ∨ 40000 < acc.length + 6 + r.length then none else frameGo (acc ++ frameB r) rs
def frameOf (ls : List (List Nat)) : List Nat := (frameGo [] ls).getD []
theorem frameGo_len (acc : List Nat) (ls : List (List Nat)) (r : List Nat) (ha : acc.length ≤ 40000) (h : frameGo acc ls = some r) : r.length ≤ 40000 := by
  induction ls generalizing acc with
  | nil => simp [frameGo] at h; subst h; exact ha
  | cons x t ih =>
    simp only [frameGo] at h
    split at h
    · cases h
    · exact ih _ (by rw [List.length_append, frameB_length]; omega) h
theorem frameOf_len (ls : List (List Nat)) : (frameOf ls).length ≤ 40000 := by
  unfold frameOf
  cases h : frameGo [] ls with
  | none => simp
  | some r => exact frameGo_len [] ls r (by simp) h
theorem frameGo_lt (acc : List Nat) (ls : List (List Nat)) (r : List Nat) (ha : ∀ x ∈ acc, x < 256) (hl : ∀ l ∈ ls, ∀ x ∈ l, x < 256) (h : frameGo acc ls = some r) : ∀ x ∈ r, x < 256 := by
  induction ls generalizing acc with
  | nil => simp [frameGo] at h; subst h; exact ha
  | cons x t ih =>
    simp only [frameGo] at h
    split at h
    · cases h
    · exact ih _ (app_lt ha (frameB_lt x (hl x List.mem_cons_self))) (fun l h' => hl l (List.mem_cons_of_mem _ h')) h
theorem frameOf_lt (ls : List (List Nat)) (hl : ∀ l ∈ ls, ∀ x ∈ l, x < 256) : ∀ x ∈ frameOf ls, x < 256 := by
  unfold frameOf
  cases h : frameGo [] ls with
  | none => intro x hx; simp at hx
  | some r => exact frameGo_lt [] ls r (fun x hx => by cases hx) hl h
end Go.Proofs.YtpbpidfjecejcaaGreatDoor
namespace Go.Proofs.YtpbpidfjecejcaaGreatDoor
open Go.RowKit
theorem row_alloc1 (w : World) (y : Int) (x : Nat) (h : y = x) : RowAt (w.alloc (.cells #[.int .u8 y] 5)) (some ⟨w.heap.size, 0, none⟩) [x] := by
  subst h
  exact (own_of_block (B := w.heap.size) (l := [x]) (Nat.le_refl _) (by unfold maxLen; simp) (heap_alloc_new w _)).row
theorem l2Frame_any (a : Option Addr) (cap : Nat) (r : List Nat) (w : World) (h1 : 1 ≤ r.length) (h2 : r.length ≤ 2000) (hr : RowAt w a r) (hb : ∀ x ∈ r, x < 256) :
    Calls Tryz.prog 97 #[.slice a r.length cap] w fun e w' => ∃ v, e = .returned v ∧ OwnB w' w.heap.size v (frameB r) ∧ Below w.heap.size w w' := by
  have hW : OwnB (w.alloc (.cells #[.int .u8 ((r.length : Int) / 256), .int .u8 ((r.length : Int) % 256)] 5)) w.heap.size (.slice (some ⟨w.heap.size, 0, none⟩) (hd2 r.length).length (hd2 r.length).length) (hd2 r.length) := by
    refine own_of_block (Nat.le_refl _) (by unfold maxLen; simp [hd2]) ?_
    have e : #[Value.int .u8 ((r.length : Int) / 256), .int .u8 ((r.length : Int) % 256)] = ((hd2 r.length).map bv).toArray := by
      have e1 : ((r.length / 256 % 256 : Nat) : Int) = (r.length : Int) / 256 := by omega
      have e2 : ((r.length % 256 : Nat) : Int) = (r.length : Int) % 256 := by omega
      simp only [hd2, List.map_cons, List.map_nil, bv, e1, e2]
    rw [e]
    exact heap_alloc_new w _
  have hb1 : Below w.heap.size w (w.alloc (.cells #[.int .u8 ((r.length : Int) / 256), .int .u8 ((r.length : Int) % 256)] 5)) := (Below.refl _ _).alloc (Nat.le_refl _) _
  go_enter Tryz.func97, Tryz.ntmps97
  go_wp2_with fail
  refine (l1Bytes_any _ _ (hd2 r.length) _ (by simp [hd2]) hW.row).mono ?_
  rintro e w2 ⟨rfl, ho2, hb2⟩
  have hz1 : (w.alloc (.cells #[.int .u8 ((r.length : Int) / 256), .int .u8 ((r.length : Int) % 256)] 5)).heap.size = w.heap.size + 1 := by simp
  have hb20 : Below w.heap.size w w2 := hb1.trans (hb2.mono (by omega))
  have hW2 := hW.below hb2 (Nat.le_refl _)
  rw [hz1] at ho2
  have hsz2 : w.heap.size + 1 < w2.heap.size := by
    have := (World.ownsRow.lt ho2 _ rfl).2
    exact this
  clear hW hb1
  go_wp2_with (at_builtin; refine wpList_append_bytes _ rfl _ _ rfl (w.heap.size + 1) (.slice (some ⟨w.heap.size + 1, 0, none⟩) (hd2 r.length).length (hd2 r.length).length) (hd2 r.length) r rfl ho2 _ _ rfl (hr.below hb20) (by omega) (by simp [hd2]; omega) (by omega) ?_; intro v3 w3 ho3 hg3; obtain ⟨a3, c3, rfl⟩ := ho3.slice)
  have hb30 : Below w.heap.size w w3 := hb20.grown hg3 (by omega) (fun k h => by simp [Value.ownBlock] at h; omega)
  have hW3 : OwnB w3 w.heap.size (.slice (some ⟨w.heap.size, 0, none⟩) (hd2 r.length).length (hd2 r.length).length) (hd2 r.length) := World.ownsRow.kept hW2 hg3 (.inr (by simp [Value.ownBlock]))
  have hcl := crcOf_lt (hd2 r.length ++ r) (app_lt (hd2_lt _) hb)
  rw [← List.length_append]
  refine (specCrc_any a3 c3 (hd2 r.length ++ r) w3 (by simp [hd2]; omega) ho3.row (app_lt (hd2_lt _) hb)).mono ?_
  rintro e w4 ⟨rfl, rfl⟩
  have HF : Hid (frameB r = hd2 r.length ++ be4 (crcOf (hd2 r.length ++ r)) ++ r) := rfl
  clear ho3 hg3 hW2 ho2 hb20 hsz2 hz1 hb2
  generalize crcOf (hd2 r.length ++ r) = c at hcl HF ⊢
  go_wp2
  go_loopw [3, 5] (fun v i wr => ∃ j : Nat, j ≤ 4 ∧ i = .int .i64 (3 - (j : Int)) ∧ OwnB wr w.heap.size v (hd2 r.length ++ (be4 c).take j) ∧ Below w.heap.size w wr) (fun _ i _ => (intOf i + 1).toNat)
  case atStart => exact ⟨0, by omega, rfl, by rw [List.take_zero, List.append_nil]; exact hW3, hb30⟩
  case round =>
    obtain ⟨j, hj, rfl, hov, hnx⟩ := hrel
    clear hW3 hb30
    have hsz := hnx.size
    rcases (show j = 0 ∨ j = 1 ∨ j = 2 ∨ j = 3 ∨ j = 4 from by omega) with rfl | rfl | rfl | rfl | rfl
    · have hrow := row_alloc1 wr ((c : Int) / 16777216) ((be4 c)[0]'(by simp [be4])) (by first | (simp [be4]; done) | (simp [be4]; omega))
      have hov1 := hov.alloc (.cells #[.int .u8 ((c : Int) / 16777216)] 5)
      have HT : Hid (hd2 r.length ++ (be4 c).take (0 + 1) = (hd2 r.length ++ (be4 c).take 0) ++ [(be4 c)[0]'(by simp [be4])]) := by
        show _ = _
        rw [List.take_succ_eq_append_getElem (by simp [be4]), List.append_assoc]
      generalize (be4 c)[0]'(by simp [be4]) = x at hrow HT
      go_wp2_with (at_builtin; refine wpList_append_bytes _ rfl _ _ rfl w.heap.size u3 (hd2 r.length ++ (be4 c).take 0) [x] rfl hov1 _ _ rfl hrow (by simp) (by simp [hd2, be4]) (by simp; omega) ?_; intro v5 w5 ho5 hg5)
      rw [← HT.out] at ho5
      have hb5 : Below w.heap.size w w5 := (hnx.alloc hsz _).grown hg5 (by simp; omega) (fun k h => (World.ownsRow.lt hov k h).1)
      go_roundw
      case rel => exact ⟨0 + 1, by omega, rfl, ho5, hb5⟩
      case measure => simp [intOf]
    · have hrow := row_alloc1 wr (((c : Int) / 65536) % 256) ((be4 c)[1]'(by simp [be4])) (by first | (simp [be4]; done) | (simp [be4]; omega))
      have hov1 := hov.alloc (.cells #[.int .u8 (((c : Int) / 65536) % 256)] 5)
      have HT : Hid (hd2 r.length ++ (be4 c).take (1 + 1) = (hd2 r.length ++ (be4 c).take 1) ++ [(be4 c)[1]'(by simp [be4])]) := by
        show _ = _
        rw [List.take_succ_eq_append_getElem (by simp [be4]), List.append_assoc]
      generalize (be4 c)[1]'(by simp [be4]) = x at hrow HT
      go_wp2_with (at_builtin; refine wpList_append_bytes _ rfl _ _ rfl w.heap.size u3 (hd2 r.length ++ (be4 c).take 1) [x] rfl hov1 _ _ rfl hrow (by simp) (by simp [hd2, be4]) (by simp; omega) ?_; intro v5 w5 ho5 hg5)
      rw [← HT.out] at ho5
      have hb5 : Below w.heap.size w w5 := (hnx.alloc hsz _).grown hg5 (by simp; omega) (fun k h => (World.ownsRow.lt hov k h).1)
      go_roundw
      case rel => exact ⟨1 + 1, by omega, rfl, ho5, hb5⟩
      case measure => simp [intOf]
    · have hrow := row_alloc1 wr (((c : Int) / 256) % 256) ((be4 c)[2]'(by simp [be4])) (by first | (simp [be4]; done) | (simp [be4]; omega))
      have hov1 := hov.alloc (.cells #[.int .u8 (((c : Int) / 256) % 256)] 5)
      have HT : Hid (hd2 r.length ++ (be4 c).take (2 + 1) = (hd2 r.length ++ (be4 c).take 2) ++ [(be4 c)[2]'(by simp [be4])]) := by
        show _ = _
        rw [List.take_succ_eq_append_getElem (by simp [be4]), List.append_assoc]
      generalize (be4 c)[2]'(by simp [be4]) = x at hrow HT
      go_wp2_with (at_builtin; refine wpList_append_bytes _ rfl _ _ rfl w.heap.size u3 (hd2 r.length ++ (be4 c).take 2) [x] rfl hov1 _ _ rfl hrow (by simp) (by simp [hd2, be4]) (by simp; omega) ?_; intro v5 w5 ho5 hg5)
      rw [← HT.out] at ho5
      have hb5 : Below w.heap.size w w5 := (hnx.alloc hsz _).grown hg5 (by simp; omega) (fun k h => (World.ownsRow.lt hov k h).1)
      go_roundw
      case rel => exact ⟨2 + 1, by omega, rfl, ho5, hb5⟩
      case measure => simp [intOf]
    · have hrow := row_alloc1 wr ((c : Int) % 256) ((be4 c)[3]'(by simp [be4])) (by first | (simp [be4]; done) | (simp [be4]; omega))
      have hov1 := hov.alloc (.cells #[.int .u8 ((c : Int) % 256)] 5)
      have HT : Hid (hd2 r.length ++ (be4 c).take (3 + 1) = (hd2 r.length ++ (be4 c).take 3) ++ [(be4 c)[3]'(by simp [be4])]) := by
        show _ = _
        rw [List.take_succ_eq_append_getElem (by simp [be4]), List.append_assoc]
      generalize (be4 c)[3]'(by simp [be4]) = x at hrow HT
      go_wp2_with (at_builtin; refine wpList_append_bytes _ rfl _ _ rfl w.heap.size u3 (hd2 r.length ++ (be4 c).take 3) [x] rfl hov1 _ _ rfl hrow (by simp) (by simp [hd2, be4]) (by simp; omega) ?_; intro v5 w5 ho5 hg5)
      rw [← HT.out] at ho5
      have hb5 : Below w.heap.size w w5 := (hnx.alloc hsz _).grown hg5 (by simp; omega) (fun k h => (World.ownsRow.lt hov k h).1)
      go_roundw
      case rel => exact ⟨3 + 1, by omega, rfl, ho5, hb5⟩
      case measure => simp [intOf]
    · have e4 : (be4 c).take 4 = be4 c := rfl
      rw [e4] at hov
      clear e4
      go_wp2_with (at_builtin; refine wpList_append_bytes _ rfl _ _ rfl w.heap.size u3 (hd2 r.length ++ be4 c) r rfl hov _ _ rfl (hr.below hnx) (by omega) (by simp [hd2, be4]; omega) hsz ?_; intro v5 w5 ho5 hg5)
      go_ret
      exact ⟨_, rfl, by rw [HF.out]; exact ho5, hnx.grown hg5 hsz (fun k h => (World.ownsRow.lt hov k h).1)⟩
end Go.Proofs.YtpbpidfjecejcaaGreatDoor
namespace Go.Proofs.YtpbpidfjecejcaaGreatDoor
open Go.RowKit
/-- impl.crcOver goes on with the sum over the bytes and leaves the world as it was. -/
theorem crcOver_any (c : Nat) (a : Option Addr) (cap : Nat) (l : List Nat) (w : World) (hcc : c < 4294967296) (hl : l.length ≤ 1048576) (hr : RowAt w a l) (hb : ∀ x ∈ l, x < 256) :
    Calls Tryz.prog 127 #[.int .u32 (c : Int), .slice a l.length cap] w fun e w' => e = .returned (.int .u32 ((crcFold c l : Nat) : Int)) ∧ w' = w := by
  go_enter Tryz.func127, Tryz.ntmps127
  go_wp2
  go_loop [0, 10] (fun s i => ∃ k : Nat, k ≤ l.length ∧ i = .int .i64 k ∧ s = .int .u32 ((crcFold c (l.take k) : Nat) : Int)) (fun _ i => l.length - (intOf i).toNat)
  case atStart => exact ⟨0, Nat.zero_le _, rfl, rfl⟩
  case round =>
    obtain ⟨k, hk, rfl, rfl⟩ := hrel
    by_cases hlt : k < l.length
    · obtain ⟨b, off, rfl, hc⟩ := hr (by omega)
      have hck := hc k hlt
      clear hc hr
      have hxb : l[k] < 256 := hb _ (List.getElem_mem hlt)
      have hcl : crcFold c (l.take k) < 4294967296 := crcFold_lt _ (fun x hx => hb x (List.mem_of_mem_take hx)) _ hcc
      have HN : Hid (crcFold c (l.take (k + 1)) = crcByte (crcFold c (l.take k)) l[k]) := by
        show _ = _
        rw [List.take_succ_eq_append_getElem hlt, crcFold_snoc]
      generalize crcFold c (l.take k) = c0 at hcl HN ⊢
      have hxl : c0 ^^^ l[k] < 4294967296 := Nat.xor_lt_two_pow (n := 32) (by omega) (by omega)
      have hxe := xor_byte c0 l[k] hcl hxb
      have HB : Hid (crcByte c0 l[k] = crcSteps 8 (c0 ^^^ l[k])) := rfl
      generalize c0 ^^^ l[k] = c2 at hxl hxe HB
      go_wp2
      go_loop [0, 18] (fun s j => ∃ m : Nat, m ≤ 8 ∧ j = .int .i64 m ∧ s = .int .u32 ((crcSteps m c2 : Nat) : Int)) (fun _ j => 8 - (intOf j).toNat)
      case atStart => exact ⟨0, Nat.zero_le _, rfl, rfl⟩
      case round =>
        obtain ⟨m, hm, rfl, rfl⟩ := hrel
        by_cases hm8 : m < 8
        · have hsl := crcSteps_lt m c2 hxl
          have HS : Hid (crcSteps (m + 1) c2 = crcStep (crcSteps m c2)) := rfl
          generalize crcSteps m c2 = c1 at hsl HS ⊢
          go_wp2
          all_goals
            go_round
            case rel => exact ⟨m + 1, by omega, by go_num, val_int (by rw [HS.out]; first | exact step_hit hsl ‹_› | exact step_miss hsl ‹_›)⟩
            case measure => simp [intOf]; omega
        · go_wp2
          go_round
          case rel => exact ⟨k + 1, by omega, by go_num, val_int (by rw [HN.out, HB.out, show m = 8 from by omega])⟩
          case measure => simp [intOf]; omega
    · go_wp2
      go_ret
      exact ⟨ret_int (by rw [List.take_of_length_le (by omega)]), rfl⟩
end Go.Proofs.YtpbpidfjecejcaaGreatDoor
namespace Go.Proofs.YtpbpidfjecejcaaGreatDoor
open Go.RowKit
theorem frameGo_bad {acc : List Nat} {ls : List (List Nat)} {k : Nat} (h : k < ls.length) (hg : frameGo [] ls = frameGo acc (ls.drop k)) (hb : ls[k].length < 1 ∨ 2000 < ls[k].length ∨ 40000 < acc.length + 6 + ls[k].length) : frameOf ls = [] := by
  unfold frameOf
  rw [hg, List.drop_eq_getElem_cons h]
  simp only [frameGo, if_pos hb, Option.getD_none]
theorem frameGo_ok {acc : List Nat} {ls : List (List Nat)} {k : Nat} (h : k < ls.length) (hg : frameGo [] ls = frameGo acc (ls.drop k)) (hb : ¬ (ls[k].length < 1 ∨ 2000 < ls[k].length ∨ 40000 < acc.length + 6 + ls[k].length)) : frameGo [] ls = frameGo (acc ++ frameB ls[k]) (ls.drop (k + 1)) := by
  rw [hg, List.drop_eq_getElem_cons h]
  simp only [frameGo, if_neg hb]
theorem frameGo_end {acc : List Nat} {ls : List (List Nat)} {k : Nat} (h : ¬ k < ls.length) (hg : frameGo [] ls = frameGo acc (ls.drop k)) : frameOf ls = acc := by
  unfold frameOf
  rw [hg, List.drop_eq_nil_of_le (by omega)]
  rfl
theorem specFrame_any (a : Option Addr) (cap : Nat) (ls : List (List Nat)) (w : World) (hl : ls.length ≤ 1048576) (hls : ∀ l ∈ ls, l.length ≤ 1048576) (hr : RowsAt w a ls) (hb : ∀ l ∈ ls, ∀ x ∈ l, x < 256) :
    Calls Tryz.prog 58 #[.slice a ls.length cap] w fun e w' => ∃ v, e = .returned v ∧ OwnB w' w.heap.size v (frameOf ls) ∧ Below w.heap.size w w' := by
  go_enter Tryz.func58, Tryz.ntmps58
  go_wp2
  go_loopw [3, 8] (fun v i wr => ∃ k : Nat, ∃ acc : List Nat, k ≤ ls.length ∧ i = .int .i64 k ∧ acc.length ≤ 40000 ∧ frameGo [] ls = frameGo acc (ls.drop k) ∧ OwnB wr w.heap.size v acc ∧ Below w.heap.size w wr) (fun _ i _ => ls.length - (intOf i).toNat)
  case atStart => exact ⟨0, [], Nat.zero_le _, rfl, by simp, rfl, OwnB.nil _ _, Below.refl _ _⟩
  case round =>
    obtain ⟨k, acc, hk, rfl, hal, hgo, hov, hnx⟩ := hrel
    have HG : Hid (frameGo [] ls = frameGo acc (ls.drop k)) := hgo
    clear hgo
    obtain ⟨av, cv, rfl⟩ := hov.slice
    have hsz := hnx.size
    by_cases hlt : k < ls.length
    · obtain ⟨b, off, rfl, hc⟩ := (hr.below hnx) (by omega)
      obtain ⟨ai, ci, hck, hri⟩ := hc k hlt
      have hkl := hls _ (List.getElem_mem hlt)
      have hkb := hb _ (List.getElem_mem hlt)
      have HB := fun h => frameGo_bad hlt HG.out h
      have HK := fun h => frameGo_ok hlt HG.out h
      have HB' := hide HB
      have HK' := hide HK
      clear hc hr hls hb HB HK HG
      generalize ls[k] = rec at hck hri hkl hkb HB' HK'
      by_cases c1 : rec.length < 1
      · go_wp2
        go_ret
        exact ⟨_, rfl, by rw [unhide HB' (.inl c1)]; exact OwnB.nil _ _, hnx⟩
      by_cases c2 : 2000 < rec.length
      · go_wp2
        go_ret
        exact ⟨_, rfl, by rw [unhide HB' (.inr (.inl c2))]; exact OwnB.nil _ _, hnx⟩
      by_cases c3 : 40000 < acc.length + 6 + rec.length
      · go_wp2
        go_ret
        exact ⟨_, rfl, by rw [unhide HB' (.inr (.inr c3))]; exact OwnB.nil _ _, hnx⟩
      · go_wp2_with fail
        refine (l2Frame_any ai ci rec wr (by omega) (by omega) hri hkb).mono ?_
        rintro e w2 ⟨v2, rfl, ho2, hb2⟩
        obtain ⟨a2, c2', rfl⟩ := ho2.slice
        have hov2 := hov.below hb2 (Nat.le_refl _)
        have hnx2 := hnx.trans (hb2.mono hsz)
        have HF := hide (frameB_length rec)
        go_wp2_with (at_builtin; refine wpList_append_bytes _ rfl _ _ rfl w.heap.size (.slice av acc.length cv) acc (frameB rec) rfl hov2 _ _ rfl ho2.row (by have := unhide HF; omega) (by have := unhide HF; omega) hnx2.size ?_; intro v3 w3 ho3 hg3)
        go_roundw
        case rel => exact ⟨k + 1, acc ++ frameB rec, by omega, by go_num, by rw [List.length_append, unhide HF]; omega, unhide HK' (by omega), ho3, hnx2.grown hg3 hnx2.size (fun k h => (World.ownsRow.lt hov2 k h).1)⟩
        case measure => simp [intOf]; omega
    · go_wp2
      go_ret
      exact ⟨_, rfl, by rw [frameGo_end hlt HG.out]; exact hov, hnx⟩
theorem frameSum_any (a a' : Option Addr) (cap cap' : Nat) (l m : List Nat) (w : World) (hl : l.length ≤ 1048576) (hm : m.length ≤ 1048576) (hr : RowAt w a l) (hr' : RowAt w a' m) (hb : ∀ x ∈ l, x < 256) (hb' : ∀ x ∈ m, x < 256) :
    Calls Tryz.prog 99 #[.slice a l.length cap, .slice a' m.length cap'] w fun e w' => e = .returned (.int .u32 ((crcOf (l ++ m) : Nat) : Int)) ∧ w' = w := by
  have hc1 : crcFold 4294967295 l < 4294967296 := crcFold_lt _ hb _ (by decide)
  have hc2 : crcFold (crcFold 4294967295 l) m < 4294967296 := crcFold_lt _ hb' _ hc1
  go_enter Tryz.func99, Tryz.ntmps99
  go_wp2_with fail
  refine (crcOver_any 4294967295 a cap l w (by decide) hl hr hb).mono ?_
  rintro e w' ⟨rfl, rfl⟩
  go_wp2_with fail
  refine (crcOver_any (crcFold 4294967295 l) a' cap' m w' hc1 hm hr' hb').mono ?_
  rintro e w' ⟨rfl, rfl⟩
  go_wp2
  go_ret
  exact ⟨ret_int (by rw [out_eq _ hc2, crc_two]; rfl), rfl⟩
theorem row_alloc4 (w : World) (c : Nat) (hc : c < 4294967296) : RowAt (w.alloc (.cells #[.int .u8 ((c : Int) / 16777216), .int .u8 ((c : Int) / 65536 % 256), .int .u8 ((c : Int) / 256 % 256), .int .u8 ((c : Int) % 256)] 5)) (some ⟨w.heap.size, 0, none⟩) (be4 c) := by
  have e : #[Value.int .u8 ((c : Int) / 16777216), .int .u8 ((c : Int) / 65536 % 256), .int .u8 ((c : Int) / 256 % 256), .int .u8 ((c : Int) % 256)] = ((be4 c).map bv).toArray := by
    have e0 : ((c / 16777216 % 256 : Nat) : Int) = (c : Int) / 16777216 := by omega
    have e1 : ((c / 65536 % 256 : Nat) : Int) = (c : Int) / 65536 % 256 := by omega
    have e2 : ((c / 256 % 256 : Nat) : Int) = (c : Int) / 256 % 256 := by omega
    have e3 : ((c % 256 : Nat) : Int) = (c : Int) % 256 := by omega
    simp only [be4, List.map_cons, List.map_nil, bv, e0, e1, e2, e3]
  rw [e]
  exact (own_of_block (B := w.heap.size) (l := be4 c) (Nat.le_refl _) (by unfold maxLen; simp [be4]) (heap_alloc_new w _)).row
theorem appendFrame_any (B : Nat) (w0 : World) (v : Value) (acc : List Nat) (a : Option Addr) (cap : Nat) (r : List Nat) (w : World) (h1 : 1 ≤ r.length) (h2 : r.length ≤ 2000) (hB : B = w0.heap.size) (hbw : Below B w0 w) (hr : RowAt w0 a r) (hb : ∀ x ∈ r, x < 256) (hal : acc.length ≤ 40000) (hov : OwnB w B v acc) :
    Calls Tryz.prog 61 #[v, .slice a r.length cap] w fun e w' => ∃ v', e = .returned v' ∧ OwnB w' B v' (acc ++ frameB r) ∧ Below B w0 w' := by
  subst hB
  have hsz := hbw.size
  have hrow := hr.below hbw
  have hW : OwnB (w.alloc (.cells #[.int .u8 ((r.length : Int) / 256), .int .u8 ((r.length : Int) % 256)] 5)) w.heap.size (.slice (some ⟨w.heap.size, 0, none⟩) (hd2 r.length).length (hd2 r.length).length) (hd2 r.length) := by
    refine own_of_block (Nat.le_refl _) (by unfold maxLen; simp [hd2]) ?_
    have e : #[Value.int .u8 ((r.length : Int) / 256), .int .u8 ((r.length : Int) % 256)] = ((hd2 r.length).map bv).toArray := by
      have e1 : ((r.length / 256 % 256 : Nat) : Int) = (r.length : Int) / 256 := by omega
      have e2 : ((r.length % 256 : Nat) : Int) = (r.length : Int) % 256 := by omega
      simp only [hd2, List.map_cons, List.map_nil, bv, e1, e2]
    rw [e]
    exact heap_alloc_new w _
  have hb1 : Below w0.heap.size w0 (w.alloc (.cells #[.int .u8 ((r.length : Int) / 256), .int .u8 ((r.length : Int) % 256)] 5)) := hbw.alloc hsz _
  have hov1 := hov.alloc (.cells #[.int .u8 ((r.length : Int) / 256), .int .u8 ((r.length : Int) % 256)] 5)
  have hrow1 := hr.below hb1
  go_enter Tryz.func61, Tryz.ntmps61
  go_wp2_with fail
  have hcl := crcOf_lt (hd2 r.length ++ r) (app_lt (hd2_lt _) hb)
  have HF : Hid (frameB r = hd2 r.length ++ be4 (crcOf (hd2 r.length ++ r)) ++ r) := rfl
  generalize w.alloc (.cells #[.int .u8 ((r.length : Int) / 256), .int .u8 ((r.length : Int) % 256)] 5) = W1 at hW hb1 hov1 hrow1 ⊢
  refine (frameSum_any (some ⟨w.heap.size, 0, none⟩) a 2 cap (hd2 r.length) r W1 (by simp [hd2]) (by omega) hW.row hrow1 (hd2_lt _) hb).mono ?_
  rintro e w2 ⟨rfl, rfl⟩
  generalize crcOf (hd2 r.length ++ r) = c at hcl HF ⊢
  clear hov hrow hrow1 hbw
  have hsz2 := hb1.size
  go_wp2_with (first
    | (at_builtin; refine wpList_append_bytes _ rfl (.tmp 20) (.tmp 21) rfl w0.heap.size v acc (hd2 r.length) rfl hov1 (some ⟨w.heap.size, 0, none⟩) 2 rfl hW.row (by simp [hd2]) (by simp [hd2]; omega) hsz2 ?_; intro v3 w3 ho3 hg3; have hb3 := hb1.grown hg3 hsz2 (fun k h => (World.ownsRow.lt hov1 k h).1); have hr4 := row_alloc4 w3 c hcl; have ho4 := ho3.alloc (.cells #[.int .u8 ((c : Int) / 16777216), .int .u8 ((c : Int) / 65536 % 256), .int .u8 ((c : Int) / 256 % 256), .int .u8 ((c : Int) % 256)] 5))
    | (at_builtin; refine wpList_append_bytes _ rfl (.tmp 23) (.tmp 35) rfl w0.heap.size v3 (acc ++ hd2 r.length) (be4 c) rfl ho4 (some ⟨w3.heap.size, 0, none⟩) 4 rfl hr4 (by simp [be4]) (by simp [hd2, be4]; omega) (by have := hb3.size; simp; omega) ?_; intro v5 w5 ho5 hg5; have hb5 := (hb3.alloc hb3.size _).grown hg5 (by have := hb3.size; simp; omega) (fun k h => (World.ownsRow.lt ho4 k h).1))
    | (at_builtin; refine wpList_append_bytes _ rfl (.tmp 37) (.tmp 38) rfl w0.heap.size v5 (acc ++ hd2 r.length ++ be4 c) r rfl ho5 a cap rfl (hr.below hb5) (by omega) (by simp [hd2, be4]; omega) hb5.size ?_; intro v6 w6 ho6 hg6))
  go_ret
  refine ⟨_, rfl, ?_, hb5.grown hg6 hb5.size (fun k h => (World.ownsRow.lt ho5 k h).1)⟩
  rw [HF.out]
  simpa [List.append_assoc] using ho6
end Go.Proofs.YtpbpidfjecejcaaGreatDoor
namespace Go.Proofs.YtpbpidfjecejcaaGreatDoor
open Go.RowKit
theorem implFrame_any (a : Option Addr) (cap : Nat) (ls : List (List Nat)) (w : World) (hl : ls.length ≤ 1048576) (hls : ∀ l ∈ ls, l.length ≤ 1048576) (hr : RowsAt w a ls) (hb : ∀ l ∈ ls, ∀ x ∈ l, x < 256) :
    Calls Tryz.prog 26 #[.slice a ls.length cap] w fun e w' => ∃ v, e = .returned v ∧ OwnB w' w.heap.size v (frameOf ls) ∧ Below w.heap.size w w' := by
  go_enter Tryz.func26, Tryz.ntmps26
  go_wp2
  go_loopw [3, 8] (fun v i wr => ∃ k : Nat, ∃ acc : List Nat, k ≤ ls.length ∧ i = .int .i64 k ∧ acc.length ≤ 40000 ∧ frameGo [] ls = frameGo acc (ls.drop k) ∧ OwnB wr w.heap.size v acc ∧ Below w.heap.size w wr) (fun _ i _ => ls.length - (intOf i).toNat)
  case atStart => exact ⟨0, [], Nat.zero_le _, rfl, by simp, rfl, OwnB.nil _ _, Below.refl _ _⟩
  case round =>
    obtain ⟨k, acc, hk, rfl, hal, hgo, hov, hnx⟩ := hrel
    have HG : Hid (frameGo [] ls = frameGo acc (ls.drop k)) := hgo
    clear hgo
    obtain ⟨av, cv, rfl⟩ := hov.slice
    have hsz := hnx.size
    by_cases hlt : k < ls.length
    · obtain ⟨b, off, rfl, hc⟩ := hr (by omega)
      obtain ⟨ai, ci, hck, hri⟩ := hc k hlt
      have hck' : wr.cell? ⟨b, off + k, none⟩ = some (.slice ai ls[k].length ci) := by rw [hnx.cell (p := ⟨b, off + k, none⟩) (lt_of_cell0 hck)]; exact hck
      have hkl := hls _ (List.getElem_mem hlt)
      have hkb := hb _ (List.getElem_mem hlt)
      have HB := fun h => frameGo_bad hlt HG.out h
      have HK := fun h => frameGo_ok hlt HG.out h
      have HB' := hide HB
      have HK' := hide HK
      clear hc hr hls hb HB HK HG hck
      generalize ls[k] = rec at hck' hri hkl hkb HB' HK'
      by_cases c1 : rec.length < 1
      · go_wp2
        go_ret
        exact ⟨_, rfl, by rw [unhide HB' (.inl c1)]; exact OwnB.nil _ _, hnx⟩
      by_cases c2 : 2000 < rec.length
      · go_wp2
        go_ret
        exact ⟨_, rfl, by rw [unhide HB' (.inr (.inl c2))]; exact OwnB.nil _ _, hnx⟩
      by_cases c3 : 40000 < acc.length + 6 + rec.length
      · go_wp2
        go_ret
        exact ⟨_, rfl, by rw [unhide HB' (.inr (.inr c3))]; exact OwnB.nil _ _, hnx⟩
      · go_wp2_with fail
        refine (appendFrame_any w.heap.size w (.slice av acc.length cv) acc ai ci rec wr (by omega) (by omega) rfl hnx hri hkb hal hov).mono ?_
        rintro e w2 ⟨v2, rfl, ho2, hb2⟩
        have HF := hide (frameB_length rec)
        go_wp2
        go_roundw
        case rel => exact ⟨k + 1, acc ++ frameB rec, by omega, by go_num, by rw [List.length_append, unhide HF]; omega, unhide HK' (by omega), ho2, hb2⟩
        case measure => simp [intOf]; omega
    · go_wp2
      go_ret
      exact ⟨_, rfl, by rw [frameGo_end hlt HG.out]; exact hov, hnx⟩
end Go.Proofs.YtpbpidfjecejcaaGreatDoor
