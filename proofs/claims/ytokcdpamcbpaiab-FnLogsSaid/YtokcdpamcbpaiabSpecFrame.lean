import Derived.Test.YtokcdpamcbpaiabLists
import Derived.Test.YtokcdpamcbpaiabSpecCrc
import Derived.Test.YtokcdpamcbpaiabFrameMath
import Derived.Laws.CopyOwn
namespace Go.Proofs.Ytokcdpamcbpaiab
open Go.RowKit
theorem own_of_block {w : World} {B g : Nat} {l : List Nat} (hB : B ≤ g) (hl : l.length ≤ maxLen) (h : w.heap[g]? = some (.cells (l.map bv).toArray 5 (0, 0))) : OwnB w B (.slice (some ⟨g, 0, none⟩) l.length l.length) l :=
  ⟨by simp, .inr ⟨g, l.length, (l.map bv).toArray, rfl, hB, h, Nat.le_refl _, hl, by simp, by rw [List.take_of_length_le (by simp)]⟩⟩
theorem block_of_own {w : World} {B g : Nat} {l : List Nat} (h : OwnB w B (.slice (some ⟨g, 0, none⟩) l.length l.length) l) : w.heap[g]? = some (.cells (l.map bv).toArray 5 (0, 0)) := by
  rcases h.2 with ⟨h', _⟩ | ⟨g', cap', cur, h', _, hg, _, _, hs, htake⟩
  · simp at h'
  · simp only [Value.slice.injEq, Option.some.injEq, Addr.mk.injEq, and_true, true_and] at h'
    obtain ⟨rfl, rfl⟩ := h'
    have : cur = (l.map bv).toArray := by
      apply Array.toList_inj.1
      rw [← htake, List.take_of_length_le (by simp [hs])]
    rw [← this]; exact hg
theorem Try.size5 : (Try.prog.info? 5).map (·.size) = some 1 := by kernel_rfl
/-- copy onto a whole row of the call's own. -/
theorem wpList_copy_bytes {ops : Array Oper} {rest : List Oper} {o : Oper} {act : Act} {Q : Exit → Act → World → Prop} (w : World) (hgd : o.guard = none) (d s : Operand)
    (ho : o.op = .call { callee := .builtin .copy, args := #[d, s], argTypes := #[22, 22] }) (B g : Nat) (w0 : World) (l0 l : List Nat) (a : Option Addr) (cap : Nat)
    (hd : act.eval d = .slice (some ⟨g, 0, none⟩) l.length l.length) (hs : act.eval s = .slice a l.length cap) (hb : Below B w0 w) (hBg : B ≤ g) (hlen : l0.length = l.length) (hl : l.length ≤ 1099511627776)
    (hown : OwnB w B (.slice (some ⟨g, 0, none⟩) l0.length l0.length) l0) (hr : RowAt w a l)
    (h : ∀ w', OwnB w' B (.slice (some ⟨g, 0, none⟩) l.length l.length) l → Below B w0 w' → wpList Try.prog ops Q rest (act.put o.dst (goInt l.length)) w') : wpList Try.prog ops Q (o :: rest) act w := by
  refine wpList_copy_splice hgd d s 22 22 ho 5 Try.underlying22 Try.size5 (some ⟨g, 0, none⟩) a l.length l.length l.length cap hd hs g 0 (l0.map bv) 5 ?_ (l.map bv) (by simp) ?_ (by simp; omega) ?_ B w0 hb hBg ?_
  · exact block_of_own hown
  · intro h0
    refine ⟨rfl, ?_⟩
    obtain ⟨b, off, rfl, hc⟩ := hr (by simpa using h0)
    refine ⟨_, rfl, fun j v hj => ?_⟩
    have hjl : j < l.length := by
      rcases Nat.lt_or_ge j l.length with h' | h'
      · exact h'
      · simp [List.getElem?_eq_none h'] at hj
    rw [addr_add, hc j hjl]
    simp [hjl, bv] at hj
    rw [hj]
  · intro u hu
    simp only [List.mem_map] at hu
    obtain ⟨y, _, rfl⟩ := hu
    rfl
  · intro w' hw' hb'
    rw [List.length_map]
    refine h w' (own_of_block hBg (by unfold maxLen; omega) ?_) hb'
    have h := hw'.out
    rw [show splice (l0.map bv) 0 (l.map bv) = l.map bv from by simp [splice, hlen]] at h
    exact h
theorem l1Bytes_any (a : Option Addr) (cap : Nat) (l : List Nat) (w : World) (hl : l.length ≤ 1048576) (hr : RowAt w a l) :
    Calls Try.prog 48 #[.slice a l.length cap] w fun e w' => e = .returned (.slice (some ⟨w.heap.size, 0, none⟩) l.length l.length) ∧ OwnB w' w.heap.size (.slice (some ⟨w.heap.size, 0, none⟩) l.length l.length) l ∧ Below w.heap.size w w' := by
  go_enter Try.func48, Try.ntmps48
  go_wp2_with (first | (at_make; refine wpList_make_bytes _ rfl _ _ rfl l.length rfl rfl (by omega) ?_; intro w1 hown hbel) | (have _t := hbel; refine wpList_copy_bytes w1 rfl (.tmp 7) (.tmp 8) rfl w.heap.size w.heap.size w (List.replicate l.length 0) l a cap rfl rfl hbel (Nat.le_refl _) (by simp) (by omega) (by simpa using hown) (hr.below hbel) ?_; intro w2 hw2 hb2))
  go_wp2
  go_ret
  exact ⟨rfl, hw2, hb2⟩
theorem OwnB.alloc {w : World} {B : Nat} {v : Value} {l : List Nat} (h : OwnB w B v l) (o : Obj) : OwnB (w.alloc o) B v l := World.ownsRow.alloc h o
theorem row_alloc1 (w : World) (y : Int) (x : Nat) (h : y = x) : RowAt (w.alloc (.cells #[.int .u8 y] 5)) (some ⟨w.heap.size, 0, none⟩) [x] := by
  subst h
  exact (own_of_block (B := w.heap.size) (l := [x]) (Nat.le_refl _) (by unfold maxLen; simp) (heap_alloc_new w _)).row
theorem l2Frame_any (a : Option Addr) (cap : Nat) (r : List Nat) (w : World) (h1 : 1 ≤ r.length) (h2 : r.length ≤ 2000) (hr : RowAt w a r) (hb : ∀ x ∈ r, x < 256) :
    Calls Try.prog 38 #[.slice a r.length cap] w fun e w' => ∃ v, e = .returned v ∧ OwnB w' w.heap.size v (frameB r) ∧ Below w.heap.size w w' := by
  have hW : OwnB (w.alloc (.cells #[.int .u8 ((r.length : Int) / 256), .int .u8 ((r.length : Int) % 256)] 5)) w.heap.size (.slice (some ⟨w.heap.size, 0, none⟩) (hd2 r.length).length (hd2 r.length).length) (hd2 r.length) := by
    refine own_of_block (Nat.le_refl _) (by unfold maxLen; simp [hd2]) ?_
    have e : #[Value.int .u8 ((r.length : Int) / 256), .int .u8 ((r.length : Int) % 256)] = ((hd2 r.length).map bv).toArray := by
      have e1 : ((r.length / 256 % 256 : Nat) : Int) = (r.length : Int) / 256 := by omega
      have e2 : ((r.length % 256 : Nat) : Int) = (r.length : Int) % 256 := by omega
      simp only [hd2, List.map_cons, List.map_nil, bv, e1, e2]
    rw [e]
    exact heap_alloc_new w _
  have hb1 : Below w.heap.size w (w.alloc (.cells #[.int .u8 ((r.length : Int) / 256), .int .u8 ((r.length : Int) % 256)] 5)) := (Below.refl _ _).alloc (Nat.le_refl _) _
  go_enter Try.func38, Try.ntmps38
  go_wp2_with fail
  refine (l1Bytes_any _ _ (hd2 r.length) _ (by simp [hd2]) hW.row).mono ?_
  rintro e w2 ⟨rfl, ho2, hb2⟩
  have hz1 : (w.alloc (.cells #[.int .u8 ((r.length : Int) / 256), .int .u8 ((r.length : Int) % 256)] 5)).heap.size = w.heap.size + 1 := by simp
  have hb20 : Below w.heap.size w w2 := hb1.trans (hb2.mono (by omega))
  have hW2 := hW.below hb2 (Nat.le_refl _)
  rw [hz1] at ho2
  have hsz2 : w.heap.size + 1 < w2.heap.size := by
    have := (World.ownsRow.lt ho2 _ rfl).2
    exact this
  clear hW hb1
  go_wp2_with (at_builtin; refine wpList_append_bytes _ rfl _ _ rfl (w.heap.size + 1) (.slice (some ⟨w.heap.size + 1, 0, none⟩) (hd2 r.length).length (hd2 r.length).length) (hd2 r.length) r rfl ho2 _ _ rfl (hr.below hb20) (by omega) (by simp [hd2]; omega) (by omega) ?_; intro v3 w3 ho3 hg3; obtain ⟨a3, c3, rfl⟩ := ho3.slice)
  have hb30 : Below w.heap.size w w3 := hb20.grown hg3 (by omega) (fun k h => by simp [Value.ownBlock] at h; omega)
  have hW3 : OwnB w3 w.heap.size (.slice (some ⟨w.heap.size, 0, none⟩) (hd2 r.length).length (hd2 r.length).length) (hd2 r.length) := World.ownsRow.kept hW2 hg3 (.inr (by simp [Value.ownBlock]))
  have hcl := crcOf_lt (hd2 r.length ++ r) (app_lt (hd2_lt _) hb)
  rw [← List.length_append]
  refine (specCrc_any a3 c3 (hd2 r.length ++ r) w3 (by simp [hd2]; omega) ho3.row (app_lt (hd2_lt _) hb)).mono ?_
  rintro e w4 ⟨rfl, rfl⟩
  have HF : Hid (frameB r = hd2 r.length ++ be4 (crcOf (hd2 r.length ++ r)) ++ r) := rfl
  clear ho3 hg3 hW2 ho2 hb20 hsz2 hz1 hb2
  generalize crcOf (hd2 r.length ++ r) = c at hcl HF ⊢
  go_wp2
  go_loopw [3, 5] (fun v i wr => ∃ j : Nat, j ≤ 4 ∧ i = .int .i64 (3 - (j : Int)) ∧ OwnB wr w.heap.size v (hd2 r.length ++ (be4 c).take j) ∧ Below w.heap.size w wr) (fun _ i _ => (intOf i + 1).toNat)
  case atStart => exact ⟨0, by omega, rfl, by rw [List.take_zero, List.append_nil]; exact hW3, hb30⟩
  case round =>
    obtain ⟨j, hj, rfl, hov, hnx⟩ := hrel
    clear hW3 hb30
    have hsz := hnx.size
    rcases (show j = 0 ∨ j = 1 ∨ j = 2 ∨ j = 3 ∨ j = 4 from by omega) with rfl | rfl | rfl | rfl | rfl
    · have hrow := row_alloc1 wr ((c : Int) / 16777216) ((be4 c)[0]'(by simp [be4])) (by first | (simp [be4]; done) | (simp [be4]; omega))
      have hov1 := hov.alloc (.cells #[.int .u8 ((c : Int) / 16777216)] 5)
      have HT : Hid (hd2 r.length ++ (be4 c).take (0 + 1) = (hd2 r.length ++ (be4 c).take 0) ++ [(be4 c)[0]'(by simp [be4])]) := by
        show _ = _
        rw [List.take_succ_eq_append_getElem (by simp [be4]), List.append_assoc]
      generalize (be4 c)[0]'(by simp [be4]) = x at hrow HT
      go_wp2_with (at_builtin; refine wpList_append_bytes _ rfl _ _ rfl w.heap.size u3 (hd2 r.length ++ (be4 c).take 0) [x] rfl hov1 _ _ rfl hrow (by simp) (by simp [hd2, be4]) (by simp; omega) ?_; intro v5 w5 ho5 hg5)
      rw [← HT.out] at ho5
      have hb5 : Below w.heap.size w w5 := (hnx.alloc hsz _).grown hg5 (by simp; omega) (fun k h => (World.ownsRow.lt hov k h).1)
      go_roundw
      case rel => exact ⟨0 + 1, by omega, rfl, ho5, hb5⟩
      case measure => simp [intOf]
    · have hrow := row_alloc1 wr (((c : Int) / 65536) % 256) ((be4 c)[1]'(by simp [be4])) (by first | (simp [be4]; done) | (simp [be4]; omega))
      have hov1 := hov.alloc (.cells #[.int .u8 (((c : Int) / 65536) % 256)] 5)
      have HT : Hid (hd2 r.length ++ (be4 c).take (1 + 1) = (hd2 r.length ++ (be4 c).take 1) ++ [(be4 c)[1]'(by simp [be4])]) := by
        show _ = _
        rw [List.take_succ_eq_append_getElem (by simp [be4]), List.append_assoc]
      generalize (be4 c)[1]'(by simp [be4]) = x at hrow HT
      go_wp2_with (at_builtin; refine wpList_append_bytes _ rfl _ _ rfl w.heap.size u3 (hd2 r.length ++ (be4 c).take 1) [x] rfl hov1 _ _ rfl hrow (by simp) (by simp [hd2, be4]) (by simp; omega) ?_; intro v5 w5 ho5 hg5)
      rw [← HT.out] at ho5
      have hb5 : Below w.heap.size w w5 := (hnx.alloc hsz _).grown hg5 (by simp; omega) (fun k h => (World.ownsRow.lt hov k h).1)
      go_roundw
      case rel => exact ⟨1 + 1, by omega, rfl, ho5, hb5⟩
      case measure => simp [intOf]
    · have hrow := row_alloc1 wr (((c : Int) / 256) % 256) ((be4 c)[2]'(by simp [be4])) (by first | (simp [be4]; done) | (simp [be4]; omega))
      have hov1 := hov.alloc (.cells #[.int .u8 (((c : Int) / 256) % 256)] 5)
      have HT : Hid (hd2 r.length ++ (be4 c).take (2 + 1) = (hd2 r.length ++ (be4 c).take 2) ++ [(be4 c)[2]'(by simp [be4])]) := by
        show _ = _
        rw [List.take_succ_eq_append_getElem (by simp [be4]), List.append_assoc]
      generalize (be4 c)[2]'(by simp [be4]) = x at hrow HT
      go_wp2_with (at_builtin; refine wpList_append_bytes _ rfl _ _ rfl w.heap.size u3 (hd2 r.length ++ (be4 c).take 2) [x] rfl hov1 _ _ rfl hrow (by simp) (by simp [hd2, be4]) (by simp; omega) ?_; intro v5 w5 ho5 hg5)
      rw [← HT.out] at ho5
      have hb5 : Below w.heap.size w w5 := (hnx.alloc hsz _).grown hg5 (by simp; omega) (fun k h => (World.ownsRow.lt hov k h).1)
      go_roundw
      case rel => exact ⟨2 + 1, by omega, rfl, ho5, hb5⟩
      case measure => simp [intOf]
    · have hrow := row_alloc1 wr ((c : Int) % 256) ((be4 c)[3]'(by simp [be4])) (by first | (simp [be4]; done) | (simp [be4]; omega))
      have hov1 := hov.alloc (.cells #[.int .u8 ((c : Int) % 256)] 5)
      have HT : Hid (hd2 r.length ++ (be4 c).take (3 + 1) = (hd2 r.length ++ (be4 c).take 3) ++ [(be4 c)[3]'(by simp [be4])]) := by
        show _ = _
        rw [List.take_succ_eq_append_getElem (by simp [be4]), List.append_assoc]
      generalize (be4 c)[3]'(by simp [be4]) = x at hrow HT
      go_wp2_with (at_builtin; refine wpList_append_bytes _ rfl _ _ rfl w.heap.size u3 (hd2 r.length ++ (be4 c).take 3) [x] rfl hov1 _ _ rfl hrow (by simp) (by simp [hd2, be4]) (by simp; omega) ?_; intro v5 w5 ho5 hg5)
      rw [← HT.out] at ho5
      have hb5 : Below w.heap.size w w5 := (hnx.alloc hsz _).grown hg5 (by simp; omega) (fun k h => (World.ownsRow.lt hov k h).1)
      go_roundw
      case rel => exact ⟨3 + 1, by omega, rfl, ho5, hb5⟩
      case measure => simp [intOf]
    · have e4 : (be4 c).take 4 = be4 c := rfl
      rw [e4] at hov
      clear e4
      go_wp2_with (at_builtin; refine wpList_append_bytes _ rfl _ _ rfl w.heap.size u3 (hd2 r.length ++ be4 c) r rfl hov _ _ rfl (hr.below hnx) (by omega) (by simp [hd2, be4]; omega) hsz ?_; intro v5 w5 ho5 hg5)
      go_ret
      exact ⟨_, rfl, by rw [HF.out]; exact ho5, hnx.grown hg5 hsz (fun k h => (World.ownsRow.lt hov k h).1)⟩
end Go.Proofs.Ytokcdpamcbpaiab
