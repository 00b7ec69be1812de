import Derived.Test.YtpedmebigcchnaaGreatDoorPka
import Derived.Laws.CopyOwn
namespace Go.Proofs.YtpedmebigcchnaaGreatDoor
open Go.RowKit
/-- The rows 'ls' lie at 'a'. -/
def RowsAt (w : World) (a : Option Addr) (ls : List (List Nat)) : Prop :=
  0 < ls.length → ∃ b off, a = some ⟨b, off, none⟩ ∧ ∀ i (h : i < ls.length), ∃ ai ci, w.cell? ⟨b, off + i, none⟩ = some (.slice ai ls[i].length ci) ∧ RowAt w ai ls[i]
theorem RowsAt.below {w w' : World} {a : Option Addr} {ls : List (List Nat)} (h : RowsAt w a ls) (hb : Below w.heap.size w w') : RowsAt w' a ls := fun hp => by
  obtain ⟨b, off, rfl, hc⟩ := h hp
  refine ⟨b, off, rfl, fun i hi => ?_⟩
  obtain ⟨ai, ci, hc1, hr⟩ := hc i hi
  exact ⟨ai, ci, by rw [hb.cell (p := ⟨b, off + i, none⟩) (lt_of_cell0 hc1)]; exact hc1, hr.below hb⟩
def sumL : List (List Nat) → Nat
  | [] => 0
  | r :: rs => r.length + sumL rs
theorem sumL_append (a b : List (List Nat)) : sumL (a ++ b) = sumL a + sumL b := by
  induction a with
  | nil => simp [sumL]
  | cons x r ih => simp [sumL, ih]; omega
theorem sumL_take_succ (ls : List (List Nat)) (k : Nat) (h : k < ls.length) : sumL (ls.take (k + 1)) = sumL (ls.take k) + ls[k].length := by
  rw [List.take_succ_eq_append_getElem h, sumL_append]; simp [sumL]
theorem sumL_take_le (ls : List (List Nat)) (k : Nat) : sumL (ls.take k) ≤ sumL ls := by
  have h := sumL_append (ls.take k) (ls.drop k)
  rw [List.take_append_drop] at h; omega
theorem len_le_sum (ls : List (List Nat)) (r : List Nat) (h : r ∈ ls) : r.length ≤ sumL ls := by
  induction ls with
  | nil => cases h
  | cons x t ih =>
    simp only [sumL]
    rcases List.mem_cons.1 h with rfl | h'
    · omega
    · have := ih h'; omega
theorem Tryz.info22 : (Tryz.prog.info? 22).map (fun i => (i.zero, i.size, i.bytes)) = some (some (.slice none 0 0), 1, 24) := by kernel_rfl
/-- v is a slice of the call's own whose elements, vs, are slices of the call's own, each with a row for itself. -/
def OwnBV (w : World) (lo : Nat) (v : Value) (vs : List Value) (ls : List (List Nat)) : Prop :=
  w.ownsRow lo 22 1 v ls.length vs ∧ (∀ i (h : i < ls.length), ∃ x, vs[i]? = some x ∧ OwnB w lo x ls[i]) ∧ vs.Pairwise fun x y => x.ownBlock = none ∨ x.ownBlock ≠ y.ownBlock
def OwnBB (w : World) (lo : Nat) (v : Value) (ls : List (List Nat)) : Prop := ∃ vs : List Value, OwnBV w lo v vs ls
theorem OwnBV.lt {w : World} {lo : Nat} {v : Value} {vs : List Value} {ls : List (List Nat)} (h : OwnBV w lo v vs ls) : ∀ x ∈ vs, ∀ g, x.ownBlock = some g → g < w.heap.size := by
  intro x hx g hg
  obtain ⟨h1, h2, _⟩ := h
  obtain ⟨i, hi, rfl⟩ := List.getElem_of_mem hx
  have hl : vs.length = ls.length := by have := h1.1; omega
  obtain ⟨y, hy, ho⟩ := h2 i (by omega)
  rw [List.getElem?_eq_getElem hi] at hy
  simp only [Option.some.injEq] at hy
  subst hy
  exact (World.ownsRow.lt ho g hg).2
theorem OwnBB.slice {w : World} {base : Nat} {v : Value} {ls : List (List Nat)} (h : OwnBB w base v ls) : ∃ a cap, v = .slice a ls.length cap := by
  obtain ⟨vs, h, _⟩ := h
  rcases h.2 with ⟨rfl, hn⟩ | ⟨g, cap, cur, rfl, _⟩
  · exact ⟨none, 0, by rw [hn]⟩
  · exact ⟨_, cap, rfl⟩
theorem outer_cell {w : World} {base e : Nat} {a : Option Addr} {n cap : Nat} {vs : List Value} (h : w.ownsRow base e 1 (.slice a n cap) n vs) (hp : 0 < n) : ∃ g, a = some ⟨g, 0, none⟩ ∧ ∀ i x, vs[i]? = some x → w.cell? ⟨g, i, none⟩ = some x := by
  rcases h.2 with ⟨_, hn⟩ | ⟨g, cap', cur, h', _⟩
  · omega
  · simp only [Value.slice.injEq, true_and] at h'
    obtain ⟨rfl, rfl⟩ := h'
    refine ⟨g, rfl, fun i x hx => ?_⟩
    have := World.ownsRow.cells h (g := g) rfl i x hx
    rwa [addr_add, Nat.zero_add] at this
theorem OwnBB.rows {w : World} {base : Nat} {a : Option Addr} {n cap : Nat} {ls : List (List Nat)} (h : OwnBB w base (.slice a n cap) ls) : RowsAt w a ls := fun hp => by
  obtain ⟨a', c', e⟩ := h.slice
  simp only [Value.slice.injEq] at e
  obtain ⟨rfl, rfl, rfl⟩ := e
  obtain ⟨vs, h1, h2, _⟩ := h
  obtain ⟨g, rfl, hc⟩ := outer_cell h1 hp
  refine ⟨g, 0, rfl, fun i hi => ?_⟩
  obtain ⟨x, hx, ho⟩ := h2 i hi
  obtain ⟨ai, ci, rfl⟩ := ho.slice
  exact ⟨ai, ci, by rw [Nat.zero_add]; exact hc i _ hx, ho.row⟩
theorem own_keep {w w' : World} {base e n : Nat} {v : Value} {xs : List Value} (h : w.ownsRow base e 1 v n xs) (hk : ∀ g, base ≤ g → g < w.heap.size → w'.heap[g]? = w.heap[g]?) : w'.ownsRow base e 1 v n xs := by
  refine ⟨h.1, ?_⟩
  rcases h.2 with hn | ⟨g, cap, cur, rfl, hbase, hg, rest⟩
  · exact .inl hn
  · exact .inr ⟨g, cap, cur, rfl, hbase, (hk g hbase (lt_of_block hg)).trans hg, rest⟩
theorem OwnBB.keep {w w' : World} {base : Nat} {v : Value} {ls : List (List Nat)} (h : OwnBB w base v ls) (hk : ∀ g, base ≤ g → g < w.heap.size → w'.heap[g]? = w.heap[g]?) : OwnBB w' base v ls := by
  obtain ⟨vs, h1, h2, h3⟩ := h
  refine ⟨vs, own_keep h1 hk, fun i hi => ?_, h3⟩
  obtain ⟨x, hx, ho⟩ := h2 i hi
  exact ⟨x, hx, own_keep ho hk⟩
theorem OwnBB.below {B base : Nat} {w w' : World} {v : Value} {ls : List (List Nat)} (h : OwnBB w base v ls) (hb : Below B w w') (hB : w.heap.size ≤ B) : OwnBB w' base v ls := h.keep fun g _ hg => hb.block g (by omega)
theorem OwnBB.out {lo hi base : Nat} {w w' : World} {v : Value} {ls : List (List Nat)} (h : OwnBB w base v ls) (ho : Out lo hi w w') (hb : hi ≤ base) : OwnBB w' base v ls := h.keep fun g hg hs => ho.block g hs (.inr (by omega))
/-- A row's block is not its list's. -/
theorem inner_ne_outer {w : World} {b1 b2 e1 e2 n1 n2 : Nat} {v x : Value} {xs ys : List Value} (h1 : w.ownsRow b1 e1 1 v n1 xs) (h2 : w.ownsRow b2 e2 1 x n2 ys) (he : e1 ≠ e2) : v.ownBlock = none ∨ v.ownBlock ≠ x.ownBlock := by
  rcases h1.2 with ⟨rfl, _⟩ | ⟨g, cap, cur, rfl, _, hg, _⟩
  · exact .inl rfl
  · refine .inr fun e => ?_
    rcases h2.2 with ⟨rfl, _⟩ | ⟨g', cap', cur', rfl, _, hg', _⟩
    · simp [Value.ownBlock] at e
    · simp only [Value.ownBlock, Option.some.injEq] at e
      subst e
      rw [hg] at hg'
      simp only [Option.some.injEq, Obj.cells.injEq] at hg'
      exact he hg'.2.1
/-- Behind a change of one row. -/
theorem OwnBV.set_row {w w' : World} {base i : Nat} {v x : Value} {ls : List (List Nat)} {l : List Nat} {vs : List Value} (h1 : w.ownsRow base 22 1 v ls.length vs) (h2 : ∀ i (h : i < ls.length), ∃ x, vs[i]? = some x ∧ OwnB w base x ls[i])
    (h3 : vs.Pairwise fun x y => x.ownBlock = none ∨ x.ownBlock ≠ y.ownBlock) (hi : i < ls.length) (hx : vs[i]? = some x) (hox : OwnB w base x ls[i]) (ho : OwnB w' base x l) (hg : w.grownBy w' x.ownBlock) : OwnBV w' base v vs (ls.set i l) := by
  refine ⟨?_, fun j hj => ?_, h3⟩
  · rw [List.length_set]
    exact World.ownsRow.kept h1 hg (inner_ne_outer h1 hox (by decide))
  · by_cases e : i = j
    · subst e
      exact ⟨x, hx, by simpa using ho⟩
    · have hj' : j < ls.length := by simpa using hj
      obtain ⟨y, hy, hoy⟩ := h2 j hj'
      refine ⟨y, hy, ?_⟩
      have e2 : (ls.set i l)[j] = ls[j] := by simp [e]
      rw [e2]
      refine World.ownsRow.kept hoy hg ?_
      have hp := List.pairwise_iff_getElem.1 h3
      have hl : vs.length = ls.length := by have := h1.1; omega
      have ei : vs[i]'(by omega) = x := by rw [List.getElem?_eq_getElem (by omega)] at hx; simpa using hx
      have ej : vs[j]'(by omega) = y := by rw [List.getElem?_eq_getElem (by omega)] at hy; simpa using hy
      rcases Nat.lt_or_gt_of_ne e with h | h
      · have := hp i j (by omega) (by omega) h
        rw [ei, ej] at this
        rcases this with h' | h'
        · rw [h']; cases hb : y.ownBlock
          · exact .inl rfl
          · exact .inr (by simp)
        · exact .inr (fun e => h' e.symm)
      · have := hp j i (by omega) (by omega) h
        rw [ei, ej] at this
        exact this
theorem OwnBV.below {B base : Nat} {w w' : World} {v : Value} {vs : List Value} {ls : List (List Nat)} (h : OwnBV w base v vs ls) (hb : Below B w w') (hB : w.heap.size ≤ B) : OwnBV w' base v vs ls := by
  obtain ⟨h1, h2, h3⟩ := h
  have hk : ∀ g, base ≤ g → g < w.heap.size → w'.heap[g]? = w.heap[g]? := fun g _ hg => hb.block g (by omega)
  refine ⟨own_keep h1 hk, fun i hi => ?_, h3⟩
  obtain ⟨x, hx, ho⟩ := h2 i hi
  exact ⟨x, hx, own_keep ho hk⟩
theorem drew_more {w wr : World} (h : ∃ n, wr = w.drewN n) (m : Nat) : ∃ n, wr.drewN m = w.drewN n := by obtain ⟨n, rfl⟩ := h; exact ⟨n + m, World.drewN_drewN _ _ _⟩
theorem RowAt.drew {w : World} {a : Option Addr} {l : List Nat} (h : RowAt w a l) (n : Nat) : RowAt (w.drewN n) a l := h
theorem RowsAt.drew {w : World} {a : Option Addr} {ls : List (List Nat)} (h : RowsAt w a ls) (n : Nat) : RowsAt (w.drewN n) a ls := h
theorem take_eq_succ {l m : List Nat} {k : Nat} (h1 : k < l.length) (h2 : k < m.length) (h : l.take k = m.take k) (he : l[k] = m[k]) : l.take (k + 1) = m.take (k + 1) := by
  rw [List.take_succ_eq_append_getElem h1, List.take_succ_eq_append_getElem h2, h, he]
theorem ne_of_at {l m : List Nat} {k : Nat} (h1 : k < l.length) (h2 : k < m.length) (he : ¬ l[k] = m[k]) : ¬ l = m := fun h => he (by subst h; rfl)
end Go.Proofs.YtpedmebigcchnaaGreatDoor
namespace Go.Proofs.YtpedmebigcchnaaGreatDoor
open Go.RowKit
theorem own_of_block {w : World} {B g : Nat} {l : List Nat} (hB : B ≤ g) (hl : l.length ≤ maxLen) (h : w.heap[g]? = some (.cells (l.map bv).toArray 5 (0, 0))) : OwnB w B (.slice (some ⟨g, 0, none⟩) l.length l.length) l :=
  ⟨by simp, .inr ⟨g, l.length, (l.map bv).toArray, rfl, hB, h, Nat.le_refl _, hl, by simp, by rw [List.take_of_length_le (by simp)]⟩⟩
theorem block_of_own {w : World} {B g : Nat} {l : List Nat} (h : OwnB w B (.slice (some ⟨g, 0, none⟩) l.length l.length) l) : w.heap[g]? = some (.cells (l.map bv).toArray 5 (0, 0)) := by
  rcases h.2 with ⟨h', _⟩ | ⟨g', cap', cur, h', _, hg, _, _, hs, htake⟩
  · simp at h'
  · simp only [Value.slice.injEq, Option.some.injEq, Addr.mk.injEq, and_true, true_and] at h'
    obtain ⟨rfl, rfl⟩ := h'
    have : cur = (l.map bv).toArray := by
      apply Array.toList_inj.1
      rw [← htake, List.take_of_length_le (by simp [hs])]
    rw [← this]; exact hg
theorem Tryz.size5 : (Tryz.prog.info? 5).map (·.size) = some 1 := by kernel_rfl
/-- copy onto a whole row of the call's own. -/
theorem wpList_copy_bytes {ops : Array Oper} {rest : List Oper} {o : Oper} {act : Act} {Q : Exit → Act → World → Prop} (w : World) (hgd : o.guard = none) (d s : Operand)
    (ho : o.op = .call { callee := .builtin .copy, args := #[d, s], argTypes := #[22, 22] }) (B g : Nat) (w0 : World) (l0 l : List Nat) (a : Option Addr) (cap : Nat)
    (hd : act.eval d = .slice (some ⟨g, 0, none⟩) l.length l.length) (hs : act.eval s = .slice a l.length cap) (hb : Below B w0 w) (hBg : B ≤ g) (hlen : l0.length = l.length) (hl : l.length ≤ 1099511627776)
    (hown : OwnB w B (.slice (some ⟨g, 0, none⟩) l0.length l0.length) l0) (hr : RowAt w a l)
    (h : ∀ w', OwnB w' B (.slice (some ⟨g, 0, none⟩) l.length l.length) l → Below B w0 w' → wpList Tryz.prog ops Q rest (act.put o.dst (goInt l.length)) w') : wpList Tryz.prog ops Q (o :: rest) act w := by
  refine wpList_copy_splice hgd d s 22 22 ho 5 Tryz.underlying22 Tryz.size5 (some ⟨g, 0, none⟩) a l.length l.length l.length cap hd hs g 0 (l0.map bv) 5 ?_ (l.map bv) (by simp) ?_ (by simp; omega) ?_ B w0 hb hBg ?_
  · exact block_of_own hown
  · intro h0
    refine ⟨rfl, ?_⟩
    obtain ⟨b, off, rfl, hc⟩ := hr (by simpa using h0)
    refine ⟨_, rfl, fun j v hj => ?_⟩
    have hjl : j < l.length := by
      rcases Nat.lt_or_ge j l.length with h' | h'
      · exact h'
      · simp [List.getElem?_eq_none h'] at hj
    rw [addr_add, hc j hjl]
    simp [hjl, bv] at hj
    rw [hj]
  · intro u hu
    simp only [List.mem_map] at hu
    obtain ⟨y, _, rfl⟩ := hu
    rfl
  · intro w' hw' hb'
    rw [List.length_map]
    refine h w' (own_of_block hBg (by unfold maxLen; omega) ?_) hb'
    have h := hw'.out
    rw [show splice (l0.map bv) 0 (l.map bv) = l.map bv from by simp [splice, hlen]] at h
    exact h
theorem l1Bytes_any (a : Option Addr) (cap : Nat) (l : List Nat) (w : World) (hl : l.length ≤ 1048576) (hr : RowAt w a l) :
    Calls Tryz.prog 17 #[.slice a l.length cap] w fun e w' => e = .returned (.slice (some ⟨w.heap.size, 0, none⟩) l.length l.length) ∧ OwnB w' w.heap.size (.slice (some ⟨w.heap.size, 0, none⟩) l.length l.length) l ∧ Below w.heap.size w w' := by
  go_enter Tryz.func17, Tryz.ntmps17
  go_wp2_with (first | (at_make; refine wpList_make_bytes _ rfl _ _ rfl l.length rfl rfl (by omega) ?_; intro w1 hown hbel) | (have _t := hbel; refine wpList_copy_bytes w1 rfl (.tmp 7) (.tmp 8) rfl w.heap.size w.heap.size w (List.replicate l.length 0) l a cap rfl rfl hbel (Nat.le_refl _) (by simp) (by omega) (by simpa using hown) (hr.below hbel) ?_; intro w2 hw2 hb2))
  go_wp2
  go_ret
  exact ⟨rfl, hw2, hb2⟩
theorem OwnB.alloc {w : World} {B : Nat} {v : Value} {l : List Nat} (h : OwnB w B v l) (o : Obj) : OwnB (w.alloc o) B v l := World.ownsRow.alloc h o
end Go.Proofs.YtpedmebigcchnaaGreatDoor
namespace Go.Proofs.YtpedmebigcchnaaGreatDoor
open Go.RowKit
/-- What a copy has written behind k rounds. -/
def half (l : List Nat) (k : Nat) : List Nat := l.take k ++ List.replicate (l.length - k) 0
theorem half_zero (l : List Nat) : half l 0 = List.replicate l.length 0 := by simp [half]
theorem half_len (l : List Nat) : half l l.length = l := by simp [half]
theorem half_length (l : List Nat) (k : Nat) (h : k ≤ l.length) : (half l k).length = l.length := by simp [half]; omega
theorem half_set (l : List Nat) (k : Nat) (h : k < l.length) : (half l k).set k l[k] = half l (k + 1) := by
  unfold half
  rw [List.set_append_right _ _ (by simp; omega)]
  have e : k - (l.take k).length = 0 := by simp; omega
  rw [e, show l.length - k = (l.length - (k + 1)) + 1 from by omega, List.replicate_succ, List.set_cons_zero, List.take_succ_eq_append_getElem h]
  simp only [List.append_assoc, List.cons_append, List.nil_append]
theorem toByteS_any (a : Option Addr) (cap : Nat) (l : List Nat) (w : World) (hl : l.length ≤ 1048576) (hr : RowAt w a l) :
    Calls Tryz.prog 20 #[.slice a l.length cap] w fun e w' => e = .returned (.slice (some ⟨w.heap.size, 0, none⟩) l.length l.length) ∧ OwnB w' w.heap.size (.slice (some ⟨w.heap.size, 0, none⟩) l.length l.length) l ∧ Below w.heap.size w w' := by
  go_enter Tryz.func20, Tryz.ntmps20
  go_wp2_with (at_make; refine wpList_make_bytes _ rfl _ _ rfl l.length rfl rfl (by omega) ?_; intro w1 hown hbel)
  have hown' : OwnB w1 w.heap.size (.slice (some ⟨w.heap.size, 0, none⟩) l.length l.length) (half l 0) := by rw [half_zero]; exact hown
  clear hown
  go_loopw [4] (fun i wr => ∃ k : Nat, k ≤ l.length ∧ i = .int .i64 k ∧ OwnB wr w.heap.size (.slice (some ⟨w.heap.size, 0, none⟩) l.length l.length) (half l k) ∧ Below w.heap.size w wr) (fun i _ => l.length - (intOf i).toNat)
  case atStart => exact ⟨0, Nat.zero_le _, rfl, hown', hbel⟩
  case round =>
    obtain ⟨k, hk, rfl, hown, hnx⟩ := hrel
    clear hown' hbel
    by_cases hlt : k < l.length
    · obtain ⟨b, off, rfl, hc⟩ := (hr.below hnx) (by omega)
      have hck := hc k hlt
      have hcell := hown.cellAt k (by rw [half_length l k hk]; exact hlt)
      have hfz := hown.frozenAt k
      have hst := (hown.store k l[k]).1
      rw [half_set l k hlt] at hst
      have HX : Hid (OwnB (wr.setCell ⟨w.heap.size, k, none⟩ (bv l[k])) w.heap.size (.slice (some ⟨w.heap.size, 0, none⟩) l.length l.length) (half l (k + 1)) ∧ Below w.heap.size w (wr.setCell ⟨w.heap.size, k, none⟩ (bv l[k]))) := ⟨hst, hnx.setCell (Nat.le_refl _) _⟩
      generalize (half l k)[k]'(by rw [half_length l k hk]; exact hlt) = y at hcell
      clear hst hown hnx hc hr
      go_wp2
      go_roundw
      case rel => exact ⟨k + 1, by omega, by go_num, HX.out.1, HX.out.2⟩
      case measure => simp [intOf]; omega
    · obtain rfl : k = l.length := by omega
      rw [half_len] at hown
      go_wp2
      go_ret
      exact ⟨rfl, hown, hnx⟩
theorem eqByteS_any (a a' : Option Addr) (cap cap' : Nat) (l m : List Nat) (w : World) (hl : l.length ≤ 9223372036854775807) (hr : RowAt w a l) (hr' : RowAt w a' m) :
    Calls Tryz.prog 27 #[.slice a l.length cap, .slice a' m.length cap'] w fun e w' => e = .returned (.bool (decide (l = m))) ∧ ∃ n, w' = w.drewN n := by
  by_cases hlen : l.length = m.length
  · have hne : ((l.length : Int) != (m.length : Int)) = false := by simp; omega
    have HL : Hid (l.length = m.length) := hlen
    clear hlen
    go_enter Tryz.func27, Tryz.ntmps27
    go_wp2
    go_loopw [5] (fun i wr => ∃ k : Nat, k ≤ l.length ∧ i = .int .i64 k ∧ l.take k = m.take k ∧ ∃ n, wr = w.drewN n) (fun i _ => l.length - (intOf i).toNat)
    case atStart => exact ⟨0, Nat.zero_le _, rfl, rfl, 0, rfl⟩
    case round =>
      obtain ⟨k, hk, rfl, htk, n, rfl⟩ := hrel
      by_cases hlt : k < l.length
      · obtain ⟨b, off, rfl, hc⟩ := hr (by omega)
        obtain ⟨b', off', rfl, hc'⟩ := hr' (by have := HL.out; omega)
        have hlt' : k < m.length := by have := HL.out; omega
        have hck := hc k hlt
        have hck' := hc' k hlt'
        have HT : Hid (l.take k = m.take k) := htk
        clear hc hc' htk hr hr'
        by_cases hx : l[k] = m[k]
        · have hxe : (((l[k] : Nat) : Int) != ((m[k] : Nat) : Int)) = false := by simp [hx]
          have HX : Hid (l[k] = m[k]) := hx
          clear hx
          go_wp2
          go_quiet (fail)
          go_wp2
          go_roundw
          case rel => exact ⟨k + 1, by omega, by go_num, take_eq_succ hlt hlt' HT.out HX.out, _, rfl⟩
          case measure => simp [intOf]; omega
        · have hxe : (((l[k] : Nat) : Int) != ((m[k] : Nat) : Int)) = true := by simp; omega
          have HX : Hid (¬ l[k] = m[k]) := hx
          clear hx
          go_wp2
          go_quiet (fail)
          go_wp2
          go_ret
          exact ⟨ret_bool (decide_eq_false (ne_of_at hlt hlt' HX.out)).symm, _, World.drewN_drewN _ _ _⟩
      · go_wp2
        go_ret
        have he : l = m := by
          have h1 : l.take k = l := List.take_of_length_le (by omega)
          have h2 : m.take k = m := List.take_of_length_le (by have := HL.out; omega)
          rw [← h1, ← h2, htk]
        exact ⟨ret_bool (decide_eq_true he).symm, n, rfl⟩
  · have hne : ((l.length : Int) != (m.length : Int)) = true := by simp; omega
    go_enter Tryz.func27, Tryz.ntmps27
    go_wp2
    go_ret
    exact ⟨ret_bool (decide_eq_false (fun h => hlen (by rw [h]))).symm, 0, rfl⟩
end Go.Proofs.YtpedmebigcchnaaGreatDoor
