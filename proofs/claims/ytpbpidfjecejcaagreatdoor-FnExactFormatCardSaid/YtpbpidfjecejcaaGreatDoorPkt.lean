import Derived.Test.YtpbpidfjecejcaaGreatDoorPks
import Derived.Test.YtpbpidfjecejcaaGreatDoorPko
namespace Go.Proofs.YtpbpidfjecejcaaGreatDoor
open Go.RowKit
/-- Operations that lie in memory. -/
def OpsAt (w : World) (a : Option Addr) (os : List OpV) : Prop :=
  0 < os.length → ∃ b off, a = some ⟨b, off, none⟩ ∧ ∀ i (h : i < os.length), ∃ ai ci, w.cell? ⟨b, off + i * 4, none⟩ = some (.int .i64 os[i].1) ∧ w.cell? ⟨b, off + i * 4 + 1, none⟩ = some (.string os[i].2.1) ∧ w.cell? ⟨b, off + i * 4 + 2, none⟩ = some (.string os[i].2.2.1) ∧ w.cell? ⟨b, off + i * 4 + 3, none⟩ = some (.slice ai os[i].2.2.2.length ci) ∧ RowAt w ai os[i].2.2.2
theorem OpsAt.low {w w' : World} {a : Option Addr} {os : List OpV} {B : Nat} (h : OpsAt w a os) (hb : Below B w w') (hB : w.heap.size ≤ B) : OpsAt w' a os := fun hp => by
  obtain ⟨b, off, rfl, hc⟩ := h hp
  refine ⟨b, off, rfl, fun i hi => ?_⟩
  obtain ⟨ai, ci, h0, h1, h2, h3, h4⟩ := hc i hi
  have hk : ∀ (p : Addr) {v : Value}, w.cell? p = some v → w'.cell? p = some v := fun p v hv => by
    have hlt : p.block < w.heap.size := by
      rcases Nat.lt_or_ge p.block w.heap.size with h | h
      · exact h
      · simp [World.cell?, Array.getElem?_eq_none h] at hv
    rw [hb.cell (p := p) (by omega)]; exact hv
  refine ⟨ai, ci, hk _ h0, hk _ h1, hk _ h2, hk _ h3, fun hp2 => ?_⟩
  obtain ⟨b2, off2, e2, hc2⟩ := h4 hp2
  exact ⟨b2, off2, e2, fun j hj => hk _ (hc2 j hj)⟩
theorem OpsAt.below {w w' : World} {a : Option Addr} {os : List OpV} (h : OpsAt w a os) (hb : Below w.heap.size w w') : OpsAt w' a os := h.low hb (Nat.le_refl _)
/-- How far the operations have come. -/
def RunAt (D : MDisk) (ops : List OpV) (k : Nat) (C : MDisk) : Prop := doRun D ops = ((doRun C (ops.drop k)).1, k + (doRun C (ops.drop k)).2.1, (doRun C (ops.drop k)).2.2)
theorem run_start (D : MDisk) (ops : List OpV) : RunAt D ops 0 D := by unfold RunAt; simp
theorem run_next {D C : MDisk} {ops : List OpV} {k : Nat} (h : RunAt D ops k C) (hk : k < ops.length) (h0 : (doOne C ops[k]).2 = 0) : RunAt D ops (k + 1) (doOne C ops[k]).1 := by
  unfold RunAt at *
  rw [h, List.drop_eq_getElem_cons hk, doRun, if_pos h0]
  simp only [Prod.mk.injEq, true_and, and_true]
  omega
theorem run_stop {D C : MDisk} {ops : List OpV} {k : Nat} (h : RunAt D ops k C) (hk : k < ops.length) (h0 : (doOne C ops[k]).2 ≠ 0) : doRun D ops = (C, k, (doOne C ops[k]).2) := by
  unfold RunAt at h
  rw [h, List.drop_eq_getElem_cons hk, doRun, if_neg h0]
  simp
theorem run_all {D C : MDisk} {ops : List OpV} (h : RunAt D ops ops.length C) : doRun D ops = (C, ops.length, 0) := by
  unfold RunAt at h
  rw [h, List.drop_length, doRun]
  simp
theorem one_bad {C : MDisk} {o : OpV} (h : (doOne C o).2 ≠ 0) : (doOne C o).1 = C := by
  revert h
  unfold doOne
  split
  · intro _; rfl
  split
  · intro h; exact absurd rfl h
  split
  · intro _; rfl
  split
  · split
    · intro _; rfl
    · intro h; exact absurd rfl h
  split
  · intro _; rfl
  split
  · split
    · intro _; rfl
    split
    · intro _; rfl
    · intro h; exact absurd rfl h
  split
  · intro h; exact absurd rfl h
  split
  · intro _; rfl
  split
  · intro _; rfl
  · intro h; exact absurd rfl h
theorem one_quota (C : MDisk) (o : OpV) : (doOne C o).1.quota = C.quota := by
  unfold doOne
  split
  · rfl
  split
  · rfl
  split
  · rfl
  split
  · split <;> rfl
  split
  · rfl
  split
  · split
    · rfl
    split <;> rfl
  split
  · rfl
  split
  · rfl
  split <;> rfl
open Classical in
/-- What DiskDo answers: the disk, how many were done, the code. -/
noncomputable def doOf (D : MDisk) (ops : List OpV) : MDisk × Nat × Int := if ops.length ≤ 2000 ∧ ValidD D then doRun D ops else (noDisk, 0, 1)
theorem doOf_no {D : MDisk} {ops : List OpV} (h : ¬ (ops.length ≤ 2000 ∧ ValidD D)) : doOf D ops = (noDisk, 0, 1) := by unfold doOf; rw [if_neg h]
theorem doOf_yes {D : MDisk} {ops : List OpV} (h : ops.length ≤ 2000 ∧ ValidD D) : doOf D ops = doRun D ops := by unfold doOf; rw [if_pos h]
end Go.Proofs.YtpbpidfjecejcaaGreatDoor
namespace Go.Proofs.YtpbpidfjecejcaaGreatDoor
open Go.RowKit
set_option linter.unusedVariables false
theorem szOp_any (k : Int) (s t : ByteArray) (a : Option Addr) (n cap : Nat) (left : Int) (w : World) (hs : s.size ≤ 9223372036854775807) (ht : t.size ≤ 9223372036854775807) (hn : n ≤ 9223372036854775807) (h0 : 0 ≤ left) (h1 : left ≤ 1048576) :
    Calls Tryz.prog 40 #[.agg #[.int .i64 k, .string s, .string t, .slice a n cap], .int .i64 left] w fun e w' => e = .returned (.int .i64 (if left < s.size + t.size + n then -1 else left - (s.size + t.size + n))) ∧ Below w.heap.size w w' := by
  have hA := (Below.refl w.heap.size w).alloc (Nat.le_refl _) (.cells #[.int .i64 k, .string s, .string t, .slice a n cap] 72)
  by_cases h : left < s.size
  · rw [if_pos (by omega)]
    go_enter Tryz.func40, Tryz.ntmps40
    go_wp2
    go_ret
    exact ⟨rfl, hA⟩
  · by_cases h' : left < s.size + t.size
    · rw [if_pos (by omega)]
      go_enter Tryz.func40, Tryz.ntmps40
      go_wp2
      go_ret
      exact ⟨rfl, hA⟩
    · have SB := hide (fun W => szByteS_any a n cap (left - s.size - t.size) W (by omega) (by omega) hn)
      have HA := hide hA
      clear hA
      by_cases h'' : left < s.size + t.size + n
      · rw [if_pos h'']
        go_enter Tryz.func40, Tryz.ntmps40
        go_wp2_with fail
        refine (SB.out _).mono ?_
        rintro e w' ⟨rfl, rfl⟩
        rw [if_pos (by omega)]
        go_wp2
        go_ret
        exact ⟨rfl, HA.out⟩
      · rw [if_neg h'']
        have hp : ¬ left - s.size - t.size - n < 0 := by omega
        go_enter Tryz.func40, Tryz.ntmps40
        go_wp2_with fail
        refine (SB.out _).mono ?_
        rintro e w' ⟨rfl, rfl⟩
        rw [if_neg (by omega)]
        go_wp2
        go_ret
        exact ⟨congrArg Ending.returned (val_int (by omega)), HA.out⟩
def sumV : List OpV → Nat
  | [] => 0
  | e :: es => e.2.1.size + e.2.2.1.size + e.2.2.2.length + sumV es
theorem sumV_append (a b : List OpV) : sumV (a ++ b) = sumV a + sumV b := by
  induction a with
  | nil => simp [sumV]
  | cons x r ih => simp [sumV, ih]; omega
theorem sumV_take_succ (es : List OpV) (k : Nat) (h : k < es.length) : sumV (es.take (k + 1)) = sumV (es.take k) + (es[k].2.1.size + es[k].2.2.1.size + es[k].2.2.2.length) := by
  rw [List.take_succ_eq_append_getElem h, sumV_append]; simp [sumV]
theorem sumV_take_le (es : List OpV) (k : Nat) : sumV (es.take k) ≤ sumV es := by
  have h := sumV_append (es.take k) (es.drop k)
  rw [List.take_append_drop] at h; omega
theorem szOpS_any (a : Option Addr) (cap : Nat) (es : List OpV) (left : Nat) (w : World) (hl : left ≤ 1048576) (hn : es.length ≤ 9223372036854775807) (hes : ∀ e ∈ es, e.2.1.size ≤ 9223372036854775807 ∧ e.2.2.1.size ≤ 9223372036854775807 ∧ e.2.2.2.length ≤ 9223372036854775807) (hr : OpsAt w a es) :
    Calls Tryz.prog 11 #[.slice a es.length cap, .int .i64 (left : Int)] w fun e w' => e = .returned (.int .i64 (szRest left (es.length + sumV es))) ∧ Below w.heap.size w w' := by
  by_cases hbig : left < es.length
  · rw [szRest_neg (by omega)]
    go_enter Tryz.func11, Tryz.ntmps11
    go_wp2
    go_ret
    exact ⟨rfl, Below.refl _ _⟩
  · go_enter Tryz.func11, Tryz.ntmps11
    go_wp2
    go_loopw [1, 5] (fun s i wr => ∃ k : Nat, k ≤ es.length ∧ i = .int .i64 k ∧ es.length + sumV (es.take k) ≤ left ∧ s = .int .i64 ((left : Int) - (es.length : Int) - (sumV (es.take k) : Int)) ∧ Below w.heap.size w wr) (fun _ i _ => es.length - (intOf i).toNat)
    case atStart => exact ⟨0, Nat.zero_le _, rfl, by simp [sumV]; omega, val_int (by simp [sumV]), Below.refl _ _⟩
    case round =>
      obtain ⟨k, hk, rfl, hs, rfl, hnx⟩ := hrel
      by_cases hlt : k < es.length
      · obtain ⟨b, off, rfl, hc⟩ := (hr.below hnx) (by omega)
        obtain ⟨ai, ci, hc0, hc1, hc2, hc3, _⟩ := hc k hlt
        have hkl := hes _ (List.getElem_mem hlt)
        have HS := hide (sumV_take_succ es k hlt)
        have HT := hide (sumV_take_le es (k + 1))
        generalize sumV (es.take k) = s0 at hs HS ⊢
        clear hc hr hes
        generalize es[k] = e0 at hc0 hc1 hc2 hc3 hkl HS
        obtain ⟨kd, nm, tn, dt⟩ := e0
        simp only at hc0 hc1 hc2 hc3 hkl HS
        obtain ⟨hkl, hkt, hkd⟩ := hkl
        generalize dt.length = n0 at hc3 hkd HS
        by_cases hfit : es.length + s0 + (nm.size + tn.size + n0) ≤ left
        · go_wp2_with fail
          refine (szOp_any kd nm tn ai n0 ci _ wr hkl hkt hkd (by omega) (by omega)).mono ?_
          rintro e w' ⟨rfl, hb⟩
          rw [if_neg (by omega)]
          have hnx' := hnx.trans (hb.mono hnx.size)
          clear hc0 hc1 hc2 hc3
          go_wp2
          go_round
          case rel => exact ⟨k + 1, by omega, by go_num, by rw [HS.out]; omega, val_int (by rw [HS.out]; omega), hnx'⟩
          case measure => simp [intOf]; omega
        · go_wp2_with fail
          refine (szOp_any kd nm tn ai n0 ci _ wr hkl hkt hkd (by omega) (by omega)).mono ?_
          rintro e w' ⟨rfl, hb⟩
          rw [if_pos (by omega)]
          have hnx' := hnx.trans (hb.mono hnx.size)
          clear hc0 hc1 hc2 hc3
          go_wp2
          go_ret
          exact ⟨by rw [szRest_neg (by have := HS.out; have := HT.out; omega)]; rfl, hnx'⟩
      · have he : es.take k = es := List.take_of_length_le (by omega)
        rw [he] at hs ⊢
        clear he
        go_wp2
        go_ret
        exact ⟨by rw [szRest_pos hs]; exact congrArg Ending.returned (val_int (by omega)), hnx⟩
end Go.Proofs.YtpbpidfjecejcaaGreatDoor
namespace Go.Proofs.YtpbpidfjecejcaaGreatDoor
open Go.RowKit
set_option linter.unusedVariables false
theorem ret_op {fn : Func} {tmps : Array Value} {p : Tmp} (B : Nat) (W : World) (x1 x2 x3 x4 : Value) (hf : fn.results = #[.cell p 56]) (hp : tmps.getD p undef = .pointer (some ⟨B, 0, none⟩)) (hb : Laid W B #[x1, x2, x3, x4] 56) :
    (results fn tmps).run Tryz.prog W = .ok (.agg #[x1, x2, x3, x4]) W :=
  results_cell_row (P := Tryz.prog) hf _ _ B _ _ _ _ hp hb Tryz.underlying56 rfl (by kernel_rfl)
set_option maxRecDepth 20000 in
theorem toOp_any (k : Int) (s t : ByteArray) (a : Option Addr) (cap : Nat) (l : List Nat) (w : World) (hl : l.length ≤ 1048576) (hr : RowAt w a l) :
    Calls Tryz.prog 47 #[.agg #[.int .i64 k, .string s, .string t, .slice a l.length cap]] w fun e w' => ∃ x, e = .returned (.agg #[.int .i64 k, .string s, .string t, x]) ∧ OwnB w' w.heap.size x l ∧ Below w.heap.size w w' := by
  obtain ⟨L1, L2, L3, hA, hz⟩ := boxes3 w #[.int .i64 k, .string s, .string t, .slice a l.length cap] #[.int .i64 0, .string ⟨#[]⟩, .string ⟨#[]⟩, .slice none 0 0] #[.int .i64 k, .string s, .string t, .slice none 0 0] 72 56 56
  have TB := hide (fun W (hb : Below w.heap.size w W) => toByteS_any a cap l W hl (hr.below hb))
  go_enter Tryz.func47, Tryz.ntmps47
  go_wp2_with fail
  generalize ((w.alloc (.cells #[.int .i64 k, .string s, .string t, .slice a l.length cap] 72)).alloc (.cells #[.int .i64 0, .string ⟨#[]⟩, .string ⟨#[]⟩, .slice none 0 0] 56)).alloc (.cells #[.int .i64 k, .string s, .string t, .slice none 0 0] 56) = W at L1 L2 L3 hA hz ⊢
  refine (TB.out W hA).mono ?_
  rintro e w2 ⟨rfl, ho, hb⟩
  have M2 := L2.below hb L2.lt
  have M3 := L3.below hb L3.lt
  have HO := hide ho
  have HB := hide (hA.trans (hb.mono hA.size))
  have HZ := hide hz
  have c0 : w2.cell? ⟨w.heap.size + 1 + 1, 0, none⟩ = some (.int .i64 k) := M3.cell 0
  have c1 : w2.cell? ⟨w.heap.size + 1 + 1, 1, none⟩ = some (.string s) := M3.cell 1
  have c2 : w2.cell? ⟨w.heap.size + 1 + 1, 2, none⟩ = some (.string t) := M3.cell 2
  have c3 : w2.cell? ⟨w.heap.size + 1 + 1, 3, none⟩ = some (.slice none 0 0) := M3.cell 3
  have g3 := frozen_of_row w2 (w.heap.size + 1 + 1) 3 _ _ M3
  have d0 : w2.cell? ⟨w.heap.size + 1, 0, none⟩ = some (.int .i64 0) := M2.cell 0
  have d1 : w2.cell? ⟨w.heap.size + 1, 1, none⟩ = some (.string ⟨#[]⟩) := M2.cell 1
  have d2 : w2.cell? ⟨w.heap.size + 1, 2, none⟩ = some (.string ⟨#[]⟩) := M2.cell 2
  have d3 : w2.cell? ⟨w.heap.size + 1, 3, none⟩ = some (.slice none 0 0) := M2.cell 3
  have f0 := frozen_of_row w2 (w.heap.size + 1) 0 _ _ M2
  have f1 := frozen_of_row w2 (w.heap.size + 1) 1 _ _ M2
  have f2 := frozen_of_row w2 (w.heap.size + 1) 2 _ _ M2
  have f3 := frozen_of_row w2 (w.heap.size + 1) 3 _ _ M2
  have HM2 := hide M2
  clear L1 L2 L3 hA hz ho hb M2 M3 TB hr
  generalize W.heap.size = G at HO HZ ⊢
  go_wp2
  have N2 := HM2.out.other (p := ⟨w.heap.size + 1 + 1, 3, none⟩) (by simp) (.slice (some ⟨G, 0, none⟩) l.length l.length)
  have R2 := (((N2.set 0 (.int .i64 k)).set 1 (.string s)).set 2 (.string t)).set 3 (.slice (some ⟨G, 0, none⟩) l.length l.length)
  have hG := HZ.out
  refine bodyPost_ret (ret_op (w.heap.size + 1) _ _ _ _ _ rfl rfl R2) rfl ⟨_, rfl, ?_, ?_⟩
  · exact (((((HO.out.set_low (by simp; omega) _).set_low (by simp; omega) _).set_low (by simp; omega) _).set_low (by simp; omega) _).set_low (by simp; omega) _).mono (by omega)
  · exact ((((HB.out.setCell (by simp; omega) _).setCell (by simp) _).setCell (by simp) _).setCell (by simp) _).setCell (by simp) _
end Go.Proofs.YtpbpidfjecejcaaGreatDoor
namespace Go.Proofs.YtpbpidfjecejcaaGreatDoor
open Go.RowKit
set_option linter.unusedVariables false
theorem Tryz.infoOp : (Tryz.prog.info? 56).map (fun i => (i.zero, i.size, i.bytes)) = some (some (.agg #[.int .i64 0, .string ByteArray.empty, .string ByteArray.empty, .slice none 0 0]), 4, 64) := by kernel_rfl
/-- Operations of a call's own. -/
structure OwnV (w : World) (base : Nat) (v : Value) (vs : List V4) (ops : List OpV) : Prop where
  len : vs.length = ops.length
  row : Own4 w base 56 v vs
  body : ∀ i (h : i < ops.length), ∃ x, vs[i]? = some (.int .i64 ops[i].1, .string ops[i].2.1, .string ops[i].2.2.1, x) ∧ OwnB w base x ops[i].2.2.2
theorem OwnV.at {w : World} {base : Nat} {a : Option Addr} {n cap : Nat} {vs : List V4} {ops : List OpV} (h : OwnV w base (.slice a n cap) vs ops) : OpsAt w a ops := fun hp => by
  have hl := h.len
  rcases h.row.2 with ⟨_, hn⟩ | ⟨g, cap', cur, h', _⟩
  · omega
  · simp only [Value.slice.injEq] at h'
    obtain ⟨rfl, rfl, rfl⟩ := h'
    refine ⟨g, 0, rfl, fun i hlt => ?_⟩
    obtain ⟨c0, c1, c2, c3⟩ := Own4.cells h.row i (by omega)
    obtain ⟨x, hx, ho⟩ := h.body i hlt
    rw [List.getElem?_eq_getElem (by omega)] at hx
    simp only [Option.some.injEq] at hx
    rw [hx] at c0 c1 c2 c3
    obtain ⟨ai, ci, rfl⟩ := ho.slice
    rw [Nat.zero_add]
    exact ⟨ai, ci, c0, c1, c2, c3, ho.row⟩
def z4 : V4 := (.int .i64 0, .string ByteArray.empty, .string ByteArray.empty, .slice none 0 0)
/-- k of the operations are written. -/
def VFill (w : World) (g k : Nat) (os : List OpV) : Prop := g + 1 ≤ w.heap.size ∧ ∃ vs : List V4, vs.length = k ∧ Own4 w g 56 (.slice (some ⟨g, 0, none⟩) os.length os.length) (vs ++ List.replicate (os.length - k) z4) ∧ ∀ i (h : i < os.length), i < k → ∃ x, vs[i]? = some (.int .i64 os[i].1, .string os[i].2.1, .string os[i].2.2.1, x) ∧ OwnB w (g + 1) x os[i].2.2.2
theorem VFill.done {w : World} {g : Nat} {os : List OpV} (h : VFill w g os.length os) : ∃ vs, OwnV w g (.slice (some ⟨g, 0, none⟩) os.length os.length) vs os := by
  obtain ⟨_, vs, hl, h2, hi⟩ := h
  rw [Nat.sub_self, List.replicate_zero, List.append_nil] at h2
  refine ⟨vs, hl, h2, fun i h => ?_⟩
  obtain ⟨x, hx, ho⟩ := hi i h h
  exact ⟨x, hx, ho.mono (by omega)⟩
theorem VFill.below {w w2 : World} {g k : Nat} {os : List OpV} (h : VFill w g k os) (hb : Below w.heap.size w w2) : VFill w2 g k os := by
  obtain ⟨hs, vs, hl, h2, hi⟩ := h
  refine ⟨Nat.le_trans hs hb.size, vs, hl, h2.below hb (Nat.le_refl _), fun i h h' => ?_⟩
  obtain ⟨x, hx, ho⟩ := hi i h h'
  exact ⟨x, hx, ho.below hb (Nat.le_refl _)⟩
theorem VFill.next {w : World} {g k : Nat} {os : List OpV} (h : VFill w g k os) (hk : k < os.length) {x : Value} (hx : OwnB w (g + 1) x os[k].2.2.2) :
    VFill ((((w.setCell ⟨g, k * 4, none⟩ (.int .i64 os[k].1)).setCell ⟨g, k * 4 + 1, none⟩ (.string os[k].2.1)).setCell ⟨g, k * 4 + 2, none⟩ (.string os[k].2.2.1)).setCell ⟨g, k * 4 + 3, none⟩ x) g (k + 1) os := by
  obtain ⟨hs, vs, hl, h2, hi⟩ := h
  refine ⟨by simpa using hs, vs ++ [(.int .i64 os[k].1, .string os[k].2.1, .string os[k].2.2.1, x)], by simp [hl], ?_, fun i h h' => ?_⟩
  · have := Own4.store h2 k (.int .i64 os[k].1) (.string os[k].2.1) (.string os[k].2.2.1) x
    rw [fill_set vs _ k _ _ hl hk] at this
    exact this
  · by_cases e : i = k
    · subst e
      refine ⟨x, by rw [List.getElem?_append_right (by omega), hl, Nat.sub_self]; rfl, ?_⟩
      exact (((hx.set_low (by simp) _).set_low (by simp) _).set_low (by simp) _).set_low (by simp) _
    · obtain ⟨y, hy, ho⟩ := hi i h (by omega)
      exact ⟨y, by rw [List.getElem?_append_left (by omega)]; exact hy, (((ho.set_low (by simp) _).set_low (by simp) _).set_low (by simp) _).set_low (by simp) _⟩
theorem VFill.cells {w : World} {g k : Nat} {os : List OpV} (h : VFill w g k os) (hk : k < os.length) : w.cell? ⟨g, k * 4, none⟩ = some (.int .i64 0) ∧ w.cell? ⟨g, k * 4 + 1, none⟩ = some (.string ByteArray.empty) ∧ w.cell? ⟨g, k * 4 + 2, none⟩ = some (.string ByteArray.empty) ∧ w.cell? ⟨g, k * 4 + 3, none⟩ = some (.slice none 0 0) ∧ ∀ j, w.frozen? ⟨g, j, none⟩ = false := by
  obtain ⟨hs, vs, hl, h2, hi⟩ := h
  have hlt : k < (vs ++ List.replicate (os.length - k) z4).length := by simp; omega
  obtain ⟨c0, c1, c2, c3⟩ := Own4.cells h2 k hlt
  have e : (vs ++ List.replicate (os.length - k) z4)[k] = z4 := by
    rw [List.getElem_append_right (by omega)]; simp
  rw [e] at c0 c1 c2 c3
  exact ⟨c0, c1, c2, c3, fun j => Own4.frozen h2 j⟩
theorem wpList_make_ops {ops : Array Oper} {rest : List Oper} {o : Oper} {act : Act} {Q : Exit → Act → World → Prop} (w : World) (hgd : o.guard = none) (s x : Operand)
    (ho : o.op = Op.makeSlice 44 s x) (os : List OpV) (hs : act.eval s = .int .i64 (os.length : Int)) (hx : act.eval x = .int .i64 (os.length : Int)) (hlen : os.length ≤ 1048576)
    (h : ∀ w', VFill w' w.heap.size 0 os → Below w.heap.size w w' → wpList Tryz.prog ops Q rest (act.put o.dst (.slice (some ⟨w.heap.size, 0, none⟩) os.length os.length)) w') : wpList Tryz.prog ops Q (o :: rest) act w := by
  obtain ⟨i0, hi, hz0, hz1, hz2⟩ := info_parts Tryz.infoOp
  refine wpList_make_full w hgd s x 44 ho w.heap.size 56 i0 (.agg #[.int .i64 0, .string ByteArray.empty, .string ByteArray.empty, .slice none 0 0]) 4 Tryz.underlying44 hi hz0 hz1 .i64 .i64 _ _ os.length hs hx rfl rfl (by rw [hz2]; omega) (by unfold maxLen; omega) (Nat.le_refl _) ?_
  intro w1 hown hgrow
  refine h w1 ⟨?_, [], rfl, ?_, fun i _ h => by omega⟩ ((Below.refl _ _).grown hgrow (Nat.le_refl _) (fun k h => by cases h))
  · rcases hown.2 with ⟨h', _⟩ | ⟨g, cap, cur, h', _, hg, _⟩
    · simp at h'
    · simp only [Value.slice.injEq, Option.some.injEq, Addr.mk.injEq, and_true] at h'
      obtain ⟨rfl, _⟩ := h'
      exact lt_of_block hg
  · unfold Own4
    rw [List.nil_append, List.length_replicate, Nat.sub_zero]
    have e : (madeCells (Value.agg #[.int .i64 0, .string ByteArray.empty, .string ByteArray.empty, .slice none 0 0]).cells (os.length * 4)).toList = four (List.replicate os.length z4) := four_made _ _ _ _ _
    rw [e] at hown; exact hown
theorem toOpS_any (a : Option Addr) (cap : Nat) (os : List OpV) (w : World) (hl : os.length ≤ 1048576) (hls : ∀ e ∈ os, e.2.2.2.length ≤ 1048576) (hr : OpsAt w a os) :
    Calls Tryz.prog 14 #[.slice a os.length cap] w fun e w' => ∃ vs, e = .returned (.slice (some ⟨w.heap.size, 0, none⟩) os.length os.length) ∧ OwnV w' w.heap.size (.slice (some ⟨w.heap.size, 0, none⟩) os.length os.length) vs os ∧ Below w.heap.size w w' := by
  go_enter Tryz.func14, Tryz.ntmps14
  go_wp2_with (at_make; refine wpList_make_ops _ rfl _ _ rfl os rfl rfl (by omega) ?_; intro w1 hfill hbel)
  go_loopw [4] (fun i wr => ∃ k : Nat, k ≤ os.length ∧ i = .int .i64 k ∧ VFill wr w.heap.size k os ∧ Below w.heap.size w wr) (fun i _ => os.length - (intOf i).toNat)
  case atStart => exact ⟨0, Nat.zero_le _, rfl, hfill, hbel⟩
  case round =>
    obtain ⟨k, hk, rfl, hf, hnx⟩ := hrel
    clear hfill hbel
    by_cases hlt : k < os.length
    · obtain ⟨b, off, rfl, hc⟩ := (hr.below hnx) (by omega)
      obtain ⟨ai, ci, hc0, hc1, hc2, hc3, hri⟩ := hc k hlt
      have hkl := hls _ (List.getElem_mem hlt)
      have HF := hide hf
      have HN := hide hnx
      have TO := hide (toOp_any os[k].1 os[k].2.1 os[k].2.2.1 ai ci os[k].2.2.2 wr hkl hri)
      clear hc hr hls hf hnx hkl hri
      go_wp2_with fail
      refine TO.out.mono ?_
      rintro e w2 ⟨x, rfl, ho, hb⟩
      have hf2 := HF.out.below hb
      have hx : OwnB w2 (w.heap.size + 1) x os[k].2.2.2 := ho.mono HF.out.1
      obtain ⟨hd0, hd1, hd2, hd3, hfz⟩ := hf2.cells hlt
      have hf0 := hfz (k * 4)
      have hf1 := hfz (k * 4 + 1)
      have hff2 := hfz (k * 4 + 2)
      have hf3 := hfz (k * 4 + 3)
      have HX := hide (And.intro (hf2.next hlt hx) (((((HN.out.trans (hb.mono HN.out.size)).setCell (p := ⟨w.heap.size, k * 4, none⟩) (Nat.le_refl _) (.int .i64 os[k].1)).setCell (p := ⟨w.heap.size, k * 4 + 1, none⟩) (Nat.le_refl _) (.string os[k].2.1)).setCell (p := ⟨w.heap.size, k * 4 + 2, none⟩) (Nat.le_refl _) (.string os[k].2.2.1)).setCell (p := ⟨w.heap.size, k * 4 + 3, none⟩) (Nat.le_refl _) x))
      obtain ⟨ax, cx, hxe⟩ := hx.slice
      clear hf2 hx ho hb HF HN hc0 hc1 hc2 hc3 hfz TO
      generalize os[k].1 = sf at HX ⊢
      generalize os[k].2.1 = s1 at HX ⊢
      generalize os[k].2.2.1 = s2 at HX ⊢
      subst hxe
      generalize os[k].2.2.2.length = n0 at HX ⊢
      go_wp2
      go_roundw
      case rel => exact ⟨k + 1, by omega, by go_num, HX.out.1, HX.out.2⟩
      case measure => simp [intOf]; omega
    · obtain rfl : k = os.length := by omega
      obtain ⟨vs, hv⟩ := hf.done
      have HV := hide hv
      clear hv hf
      go_wp2
      go_ret
      exact ⟨vs, rfl, HV.out, hnx⟩
end Go.Proofs.YtpbpidfjecejcaaGreatDoor
namespace Go.Proofs.YtpbpidfjecejcaaGreatDoor
open Go.RowKit
set_option linter.unusedVariables false
/-- Operations, whatever they hold, all in blocks of [lo, hi). -/
structure OpsRaw (w : World) (lo hi g n m : Nat) (vs : Nat → Value) : Prop where
  raw : Raw w g 56 m
  room : n * 4 ≤ m
  low : lo ≤ g
  high : g < hi
  sl : ∀ j, j < n → w.cell? ⟨g, j * 4 + 3, none⟩ = some (vs j)
  el : ∀ j, j < n → ElOk w lo hi (vs j)
theorem ElOk.turn {w w' : World} {lo hi : Nat} {v : Value} (h : ElOk w lo hi v) (hr : ∀ g' t n', Raw w g' t n' → Raw w' g' t n') : ElOk w' lo hi v := by
  rcases h with e | ⟨gj, nj, cj, mj, e, r, rest⟩
  · exact .inl e
  · exact .inr ⟨gj, nj, cj, mj, e, hr _ _ _ r, rest⟩
theorem OpsRaw.turn {w w' : World} {lo hi g n m : Nat} {vs : Nat → Value} (h : OpsRaw w lo hi g n m vs) (hr : ∀ g' t n', Raw w g' t n' → Raw w' g' t n') (hc : ∀ j, j < n → w'.cell? ⟨g, j * 4 + 3, none⟩ = w.cell? ⟨g, j * 4 + 3, none⟩) : OpsRaw w' lo hi g n m vs :=
  ⟨hr _ _ _ h.raw, h.room, h.low, h.high, fun j hj => (hc j hj).trans (h.sl j hj), fun j hj => (h.el j hj).turn hr⟩
theorem OpsRaw.below {w w' : World} {lo hi g n m : Nat} {vs : Nat → Value} (h : OpsRaw w lo hi g n m vs) (hb : Below w.heap.size w w') : OpsRaw w' lo hi g n m vs :=
  h.turn (fun _ _ _ h => h.of_eq (hb.block _ h.lt)) (fun j _ => cell_of_block (hb.block _ h.raw.lt))
theorem OpsRaw.set {w : World} {lo hi g n m : Nat} {vs : Nat → Value} (h : OpsRaw w lo hi g n m vs) (i : Nat) (u : Value) (hne : ∀ j, i ≠ j * 4 + 3) : OpsRaw (w.setCell ⟨g, i, none⟩ u) lo hi g n m vs :=
  h.turn (fun _ _ _ h => h.set _ _ _) (fun j _ => World.cell?_setCell_other _ _ _ _ (by intro e; simp only [Addr.mk.injEq] at e; exact hne j (by omega)))
/-- What a round has kept of the world w. -/
structure MkAt (w W : World) (lo hi g n m : Nat) (vs : Nat → Value) : Prop where
  ops : OpsRaw W lo hi g n m vs
  kp : ∀ g' t n', Raw w g' t n' → Raw W g' t n'
  out : Out lo hi w W
theorem MkAt.set {w W : World} {lo hi g n m : Nat} {vs : Nat → Value} (h : MkAt w W lo hi g n m vs) (i : Nat) (u : Value) (hne : ∀ j, i ≠ j * 4 + 3) : MkAt w (W.setCell ⟨g, i, none⟩ u) lo hi g n m vs :=
  ⟨h.ops.set i u hne, fun _ _ _ k => (h.kp _ _ _ k).set _ _ _, h.out.set h.ops.low h.ops.high⟩
theorem MkAt.below {w W W' : World} {lo hi g n m : Nat} {vs : Nat → Value} (h : MkAt w W lo hi g n m vs) (hb : Below W.heap.size W W') : MkAt w W' lo hi g n m vs :=
  ⟨h.ops.below hb, fun _ _ _ k => (h.kp _ _ _ k).of_eq (hb.block _ (h.kp _ _ _ k).lt), h.out.andThen hb h.out.size⟩
theorem MkAt.cell {w W : World} {lo hi g n m : Nat} {vs : Nat → Value} (h : MkAt w W lo hi g n m vs) (j i : Nat) (hj : j < n) (hi4 : i < 4) : (∃ z, W.cell? ⟨g, j * 4 + i, none⟩ = some z) ∧ W.frozen? ⟨g, j * 4 + i, none⟩ = false :=
  ⟨h.ops.raw.cell (j * 4 + i) (by have := h.ops.room; omega), h.ops.raw.frozen _⟩
set_option maxRecDepth 20000 in
set_option maxHeartbeats 1000000 in
theorem markV_raw (lo hi g n cap m k : Nat) (vs : Nat → Value) (w : World) (hn : n ≤ 1048576) (hk : k ≤ 1125899906842624) (hr : OpsRaw w lo hi g n m vs) :
    Calls Tryz.prog 18 #[.slice (some ⟨g, 0, none⟩) n cap, .int .i64 (k : Int)] w fun e w' => (∃ k' : Nat, e = .returned (.int .i64 (k' : Int)) ∧ k' ≤ k + n * 1048579) ∧ Out lo hi w w' := by
  go_enter Tryz.func18, Tryz.ntmps18
  go_wp2
  go_loopw [1, 5] (fun s i wr => ∃ j s' : Nat, j ≤ n ∧ i = .int .i64 j ∧ s = .int .i64 (s' : Int) ∧ s' ≤ k + j * 1048579 ∧ MkAt w wr lo hi g n m vs) (fun _ i _ => n - (intOf i).toNat)
  case atStart => exact ⟨0, k, Nat.zero_le _, rfl, rfl, by omega, hr, fun _ _ _ h => h, Out.refl _ _ _⟩
  case round =>
    obtain ⟨j, s', hj, rfl, rfl, hs', hN⟩ := hrel
    by_cases hlt : j < n
    · have hsb : s' ≤ 1127000000000000 := by omega
      have HS := hide hs'
      obtain ⟨⟨z0, hz0⟩, hf0⟩ := hN.cell j 0 hlt (by omega)
      have HN := hide (hN.set (j * 4 + 0) (.int .i64 (s' : Int)) (by omega))
      have hsl : ∃ sa sn sc, vs j = .slice sa sn sc := by
        rcases hN.ops.el j hlt with e | ⟨gj, nj, cj, mj, e, _⟩
        · exact ⟨_, _, _, e⟩
        · exact ⟨_, _, _, e⟩
      obtain ⟨sa, sn, sc, esl⟩ := hsl
      have HEL := hide esl
      clear hr hN hs' esl
      simp only [Nat.add_zero] at hz0 hf0 HN
      go_wp2_with fail
      generalize wr.setCell ⟨g, j * 4, none⟩ (.int .i64 (s' : Int)) = w1 at HN ⊢
      have e1 : ((s' : Int) + 1) = ((s' + 1 : Nat) : Int) := by omega
      rw [e1]
      clear e1
      obtain ⟨s1, hs1⟩ : ∃ s1, s1 = s' + 1 := ⟨_, rfl⟩
      rw [← hs1]
      have hb1 : s1 ≤ 1127000000000001 := by omega
      have HJ1 := hide hs1
      clear hs1 hz0 hf0
      refine (markText_any s1 w1 (by omega)).mono ?_
      rintro e w2 ⟨⟨t, rfl⟩, hb2⟩
      replace HN := hide (HN.out.below hb2)
      obtain ⟨⟨z1, hz1⟩, hf1⟩ := HN.out.cell j 1 hlt (by omega)
      replace HN := hide (HN.out.set (j * 4 + 1) (.string t) (by omega))
      clear hb2
      go_wp2_with fail
      generalize w2.setCell ⟨g, j * 4 + 1, none⟩ (.string t) = w3 at HN ⊢
      have e2 : ((s1 : Int) + 1) = ((s1 + 1 : Nat) : Int) := by omega
      rw [e2]
      clear e2
      obtain ⟨s2, hs2⟩ : ∃ s2, s2 = s1 + 1 := ⟨_, rfl⟩
      rw [← hs2]
      have hb3 : s2 ≤ 1127000000000002 := by omega
      have HJ2 := hide hs2
      clear hs2 hz1 hf1
      refine (markText_any s2 w3 (by omega)).mono ?_
      rintro e w4 ⟨⟨t4, rfl⟩, hb4⟩
      replace HN := hide (HN.out.below hb4)
      obtain ⟨⟨z2, hz2⟩, hf2⟩ := HN.out.cell j 2 hlt (by omega)
      replace HN := hide (HN.out.set (j * 4 + 2) (.string t4) (by omega))
      have hz3 := HN.out.ops.sl j hlt
      rw [HEL.out] at hz3
      clear hb4
      go_wp2_with fail
      generalize w4.setCell ⟨g, j * 4 + 2, none⟩ (.string t4) = w5 at HN hz3 ⊢
      have e3 : ((s2 : Int) + 1) = ((s2 + 1 : Nat) : Int) := by omega
      rw [e3]
      clear e3
      obtain ⟨s3, hs3⟩ : ∃ s3, s3 = s2 + 1 := ⟨_, rfl⟩
      rw [← hs3]
      have hb5 : s3 ≤ 1127000000000003 := by omega
      have HJ3 := hide hs3
      clear hs3 hz2 hf2 hz3
      refine (markB_el lo hi s3 _ w5 (by omega) (by rw [← HEL.out]; exact HN.out.ops.el j hlt)).mono ?_
      rintro e w6 ⟨⟨nn, hnn, rfl⟩, hk1, hk2, ho2⟩
      have HN6 := hide (show MkAt w w6 lo hi g n m vs from ⟨HN.out.ops.turn hk1 (fun i _ => cell_of_block (hk2 g _ _ (by decide) HN.out.ops.raw)), fun _ _ _ h => hk1 _ _ _ (HN.out.kp _ _ _ h), HN.out.out.trans ho2⟩)
      clear hk1 hk2 ho2 HN
      go_wp2
      go_roundw
      case rel => exact ⟨j + 1, s3 + nn, by omega, by go_num, by go_num, by have := HS.out; have := HJ1.out; have := HJ2.out; have := HJ3.out; omega, HN6.out⟩
      case measure => simp [intOf]; omega
    · obtain rfl : j = n := by omega
      have HF := hide hs'
      clear hs'
      go_wp2
      go_ret
      exact ⟨⟨s', rfl, HF.out⟩, hN.out⟩
theorem markV_nil (k : Nat) (w : World) : Calls Tryz.prog 18 #[.slice none 0 0, .int .i64 (k : Int)] w fun e w' => e = .returned (.int .i64 (k : Int)) ∧ w' = w := by
  go_enter Tryz.func18, Tryz.ntmps18
  go_wp2
  go_loopw [1, 5] (fun s i wr => i = .int .i64 0 ∧ s = .int .i64 (k : Int) ∧ wr = w) (fun _ _ _ => 0)
  case atStart => exact ⟨rfl, rfl, rfl⟩
  case round =>
    obtain ⟨rfl, rfl, rfl⟩ := hrel
    go_wp2
    go_ret
    exact ⟨rfl, rfl⟩
def OpRaw (w : World) (lo hi : Nat) (v : Value) : Prop := v = .slice none 0 0 ∨ ∃ g n cap m vs, v = .slice (some ⟨g, 0, none⟩) n cap ∧ OpsRaw w lo hi g n m vs ∧ n ≤ 1048576
theorem OpRaw.below {w w' : World} {lo hi : Nat} {v : Value} (h : OpRaw w lo hi v) (hb : Below w.heap.size w w') : OpRaw w' lo hi v := by
  rcases h with rfl | ⟨g, n, cap, m, vs, e, r, rest⟩
  · exact .inl rfl
  · exact .inr ⟨g, n, cap, m, vs, e, r.below hb, rest⟩
theorem markV_el (lo hi k : Nat) (v : Value) (w : World) (hk : k ≤ 1125899906842624) (h : OpRaw w lo hi v) :
    Calls Tryz.prog 18 #[v, .int .i64 (k : Int)] w fun e w' => (∃ k' : Nat, e = .returned (.int .i64 (k' : Int))) ∧ Out lo hi w w' := by
  rcases h with rfl | ⟨g, n, cap, m, vs, rfl, r, hn⟩
  · refine (markV_nil k w).mono ?_
    rintro e w' ⟨rfl, rfl⟩
    exact ⟨⟨k, rfl⟩, Out.refl _ _ _⟩
  · refine (markV_raw lo hi g n cap m k vs w hn hk r).mono ?_
    rintro e w' ⟨⟨k', rfl, hk'⟩, h2⟩
    exact ⟨⟨k', rfl⟩, h2⟩
theorem ownV_raw {w : World} {base : Nat} {v : Value} {vs : List V4} {os : List OpV} (h : OwnV w base v vs os) (hl : os.length ≤ 1048576) (hls : ∀ e ∈ os, e.2.2.2.length ≤ 1048576) : OpRaw w base w.heap.size v := by
  obtain ⟨hlen, h2, hi⟩ := h
  have h2' := h2
  rcases h2.2 with ⟨hv, hn⟩ | ⟨g, cap, cur, hv, hb, hg, hnc, hcm, hcs, hx⟩
  · exact .inl hv
  · refine .inr ⟨g, os.length, cap, cur.size, fun j => (vs.getD j z4).2.2.2, by rw [hv, hlen], ⟨⟨cur, hg, rfl⟩, by rw [hcs]; exact Nat.mul_le_mul_right _ (by omega), hb, lt_of_block hg, fun j hj => ?_, fun j hj => ?_⟩, hl⟩
    · rw [hv] at h2'
      have := (Own4.cells h2' j (by omega)).2.2.2
      rw [this]
      simp [List.getD, show j < vs.length by omega]
    · obtain ⟨x, hx1, hx2⟩ := hi j hj
      have e : (vs.getD j z4).2.2.2 = x := by simp [List.getD, hx1]
      show ElOk w base w.heap.size (vs.getD j z4).2.2.2
      rw [e]
      exact ownB_el hx2 (hls _ (List.getElem_mem hj))
theorem OwnV.below {w w' : World} {base : Nat} {v : Value} {vs : List V4} {os : List OpV} (h : OwnV w base v vs os) (hb : Below w.heap.size w w') : OwnV w' base v vs os :=
  ⟨h.len, h.row.below hb (Nat.le_refl _), fun i hi => by
    obtain ⟨x, h1, h2⟩ := h.body i hi
    exact ⟨x, h1, h2.below hb (Nat.le_refl _)⟩⟩
end Go.Proofs.YtpbpidfjecejcaaGreatDoor
