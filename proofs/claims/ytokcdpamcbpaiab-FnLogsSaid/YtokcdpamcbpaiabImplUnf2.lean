import Derived.Test.YtokcdpamcbpaiabImplUnf1
import Derived.Deep.RegionLaw
namespace Go.Proofs.Ytokcdpamcbpaiab
open Go.RowKit
theorem six_of {d : List Nat} (h : 6 ≤ d.length) : ∃ x0 x1 x2 x3 x4 x5 t, d = x0 :: x1 :: x2 :: x3 :: x4 :: x5 :: t := by
  match d, h with
  | x0 :: x1 :: x2 :: x3 :: x4 :: x5 :: t, _ => exact ⟨x0, x1, x2, x3, x4, x5, t, rfl⟩
theorem frame_iff {x0 x1 x2 x3 x4 x5 : Nat} {t : List Nat} (h0 : x0 < 256) (h1 : x1 < 256) (h2 : x2 < 256) (h3 : x3 < 256) (h4 : x4 < 256) (h5 : x5 < 256) (ht : ∀ x ∈ t, x < 256) (hn : x0 * 256 + x1 ≤ t.length) :
    crcOf ([x0, x1] ++ t.take (x0 * 256 + x1)) = x2 * 16777216 + x3 * 65536 + x4 * 256 + x5 ↔ frameB (t.take (x0 * 256 + x1)) = x0 :: x1 :: x2 :: x3 :: x4 :: x5 :: t.take (x0 * 256 + x1) := by
  have hl : (t.take (x0 * 256 + x1)).length = x0 * 256 + x1 := by simp; omega
  have hh : hd2 (x0 * 256 + x1) = [x0, x1] := by
    unfold hd2
    have e1 : (x0 * 256 + x1) / 256 % 256 = x0 := by omega
    have e2 : (x0 * 256 + x1) % 256 = x1 := by omega
    rw [e1, e2]
  have hc := crcOf_lt ([x0, x1] ++ t.take (x0 * 256 + x1)) (by
    intro x hx
    rcases List.mem_append.1 hx with h | h
    · simp at h; omega
    · exact ht x (List.mem_of_mem_take h))
  unfold frameB
  rw [hl, hh]
  generalize crcOf ([x0, x1] ++ t.take (x0 * 256 + x1)) = c at hc ⊢
  simp only [be4, List.cons_append, List.nil_append, List.cons.injEq, true_and, and_true]
  omega
theorem frameSum_n (k n : Nat) (a a' : Option Addr) (cap cap' : Nat) (l m : List Nat) (w : World) (hk : k = l.length) (hn : n = m.length) (hl : l.length ≤ 1048576) (hm : m.length ≤ 1048576) (hr : RowAt w a l) (hr' : RowAt w a' m) (hb : ∀ x ∈ l, x < 256) (hb' : ∀ x ∈ m, x < 256) :
    Calls Try.prog 39 #[.slice a k cap, .slice a' n cap'] w fun e w' => e = .returned (.int .u32 ((crcOf (l ++ m) : Nat) : Int)) ∧ w' = w := by
  subst hk; subst hn; exact frameSum_any a a' cap cap' l m w hl hm hr hr' hb hb'
theorem quiet_same {P : Program} {f : FuncId} {args : Array Value} {w : World} {a x : Nat} {v : Value} (h : Calls P f args (w.drewN (a + x)) fun e w' => e = .returned v ∧ w' = w.drewN (a + x)) : Calls P f args (w.drewN (a + x)) fun e w'' => e = .returned v ∧ ∃ n, w'' = w.drewN (a + n) :=
  h.mono fun _ _ ⟨he, hm⟩ => ⟨he, x, hm⟩
theorem quiet_drew {P : Program} {f : FuncId} {args : Array Value} {w : World} {a x : Nat} {v : Value} (h : Calls P f args (w.drewN (a + x)) fun e w' => e = .returned v ∧ ∃ m, w' = (w.drewN (a + x)).drewN m) : Calls P f args (w.drewN (a + x)) fun e w'' => e = .returned v ∧ ∃ n, w'' = w.drewN (a + n) :=
  h.mono fun _ _ ⟨he, m, hm⟩ => ⟨he, x + m, by rw [hm, World.drewN_drewN, Nat.add_assoc]⟩
theorem at_world {F : World → Prop} {wr : World} {k : Nat} (h : ∀ W, W = wr.drewN k → F W) : F (wr.drewN k) := h _ rfl
theorem run_clone (v : Value) (w : World) : (callFunc 41 #[v]).run Try.prog w = .ok (.enter 41 #[v]) w := by
  kernel_rfl
theorem step_call_fn {ops : Array Oper} {o : Oper} {act : Act} {w : World} {K : Act → World → Prop} {Q : Exit → Act → World → Prop} {E : Prop} (x : Operand) (ts : Array TypeId) (hgd : o.guard = none)
    (ho : o.op = .call { callee := .value (.func 41), args := #[x], argTypes := ts }) (v : Value) (hx : act.eval x = v) (h : Calls Try.prog 41 #[v] w fun e w' => ∃ u, e = .returned u ∧ K (act.put o.dst u) w') :
    if Region.wanted o (yielded ops act.tmps) = true then Oper.wp Try.prog o act w K Q else E := by
  have hw : Region.wanted o (yielded ops act.tmps) = true := by simp [Region.wanted, hgd]
  rw [if_pos hw]
  obtain ⟨dst, op, ty, pos, after, guard⟩ := o
  simp only at ho hgd
  subst ho
  unfold Oper.wp
  rw [execOp_call_go]
  simp only [List.map_toArray, List.map_cons, List.map_nil, hx, List.append_toArray, List.nil_append, List.append_nil, run_clone, Oper.upon_enter]
  refine h.mono ?_
  rintro e w' ⟨u, rfl, hk⟩
  exact hk
theorem clone_n (n : Nat) (a : Option Addr) (cap : Nat) (l : List Nat) (hn : n = l.length) (w : World) (hl : l.length ≤ 1048576) (h0 : 0 < l.length) (hr : RowAt w a l) :
    Calls Try.prog 41 #[.slice a n cap] w fun e w' => ∃ v, e = .returned v ∧ OwnB w' w.heap.size v l ∧ Below w.heap.size w w' := by
  subst hn; exact clone_any a cap l w hl h0 hr
theorem unf_iff {d : List Nat} {f g x0 x1 x2 x3 x4 x5 : Nat} {t : List Nat} {rs : List (List Nat)} (hx : d.drop g = x0 :: x1 :: x2 :: x3 :: x4 :: x5 :: t) (hdl : (x0 :: x1 :: x2 :: x3 :: x4 :: x5 :: t).length = d.length - g) (hg : unfGo d f rs g = unfOf d)
    (h0 : x0 < 256) (h1 : x1 < 256) (h2 : x2 < 256) (h3 : x3 < 256) (h4 : x4 < 256) (h5 : x5 < 256) (ht : ∀ x ∈ t, x < 256) :
    1 ≤ x0 * 256 + x1 → x0 * 256 + x1 ≤ 2000 → 6 + (x0 * 256 + x1) ≤ d.length - g → (crcOf ([x0, x1] ++ t.take (x0 * 256 + x1)) = x2 * 16777216 + x3 * 65536 + x4 * 256 + x5 → firstOf (d.drop g) = some (t.take (x0 * 256 + x1))) ∧ (¬ crcOf ([x0, x1] ++ t.take (x0 * 256 + x1)) = x2 * 16777216 + x3 * 65536 + x4 * 256 + x5 → unfOf d = (rs, g)) := by
  intro n1 n2 n3
  have e : len2 (x0 :: x1 :: x2 :: x3 :: x4 :: x5 :: t) = x0 * 256 + x1 := rfl
  have hi := frame_iff (x2 := x2) (x3 := x3) (x4 := x4) (x5 := x5) h0 h1 h2 h3 h4 h5 ht (by simp at hdl; omega)
  have e6 : (x0 :: x1 :: x2 :: x3 :: x4 :: x5 :: t).drop 6 = t := rfl
  have et : (x0 :: x1 :: x2 :: x3 :: x4 :: x5 :: t).take (6 + (x0 * 256 + x1)) = x0 :: x1 :: x2 :: x3 :: x4 :: x5 :: t.take (x0 * 256 + x1) := by
    rw [Nat.add_comm 6]; rfl
  have a1 : ¬ (x0 :: x1 :: x2 :: x3 :: x4 :: x5 :: t).length < 6 := by simp
  have a2 : ¬ (len2 (x0 :: x1 :: x2 :: x3 :: x4 :: x5 :: t) < 1 ∨ 2000 < len2 (x0 :: x1 :: x2 :: x3 :: x4 :: x5 :: t) ∨ (x0 :: x1 :: x2 :: x3 :: x4 :: x5 :: t).length < 6 + len2 (x0 :: x1 :: x2 :: x3 :: x4 :: x5 :: t)) := by rw [e, hdl]; omega
  rw [← hg, hx]
  constructor
  · intro h
    have := firstOf_yes a1 a2 (by rw [e, e6, et]; exact hi.1 h)
    rw [e, e6] at this
    exact this
  · intro h
    refine unf_none ?_
    rw [hx]
    exact firstOf_no a1 a2 (by rw [e, e6, et]; exact fun h' => h (hi.2 h'))
theorem clone_c0 {w W w2 : World} {g : Nat} {x y : Value} (h : Blk2 w g x y) (hb : Below W.heap.size W w2) (hw : W.heap = w.heap := by rfl) : w2.cell? ⟨g, 0, none⟩ = some x := by
  have h' : Blk2 W g x y := by unfold Blk2; rw [hw]; exact h
  exact (h'.below hb h'.lt).c0
theorem cell_alloc {w : World} {a : Addr} {v : Value} {o : Obj} (h : w.cell? a = some v) : (w.alloc o).cell? a = some v := by
  rw [(((Below.refl w.heap.size w).alloc (Nat.le_refl _) o).cell (lt_of_cell0 h))]; exact h
theorem unf_arm2 {w W0 w2 : World} {B e : Nat} {x y x1 y1 v u : Value} {vs : List Value} {rs : List (List Nat)} {r : List Nat} (j0 : Blk2 W0 B x y) (j1 : Blk2 W0 (B + 1) x1 y1) (jv : OwnBV W0 (B + 2) v vs rs) (jn : Below B w W0) (js : B + 2 ≤ W0.heap.size) (ho : OwnB w2 W0.heap.size u r) (hb : Below W0.heap.size W0 w2) :
    OwnBV (w2.alloc (.cells #[u] e)) (B + 2) v vs rs ∧ (w2.alloc (.cells #[u] e)).cell? ⟨w2.heap.size, 0, none⟩ = some u ∧ OwnB (w2.alloc (.cells #[u] e)) (B + 2) u r ∧
      (∀ w3, (w2.alloc (.cells #[u] e)).grownBy w3 v.ownBlock → Blk2 w3 B x y ∧ Blk2 w3 (B + 1) x1 y1 ∧ Below B w w3 ∧ B + 2 ≤ w3.heap.size) ∧ B + 2 ≤ (w2.alloc (.cells #[u] e)).heap.size := by
  have h := unf_arm (w := w) (e := e) js hb.size (j0.below hb j0.lt) (j1.below hb j1.lt) (jv.below hb (Nat.le_refl _)) (ho.mono js) (jn.trans (hb.mono (by omega)))
  exact ⟨h.1, h.2.1, h.2.2.1, h.2.2.2, by have := hb.size; simp; omega⟩
/-- What holds behind the copy and the new list of one, in whatever order the statement was gone through. -/
def CloneOk (w w2 : World) (B : Nat) (x y v y1 u : Value) (vs : List Value) (rs : List (List Nat)) (R : List Nat) : Prop :=
  ∀ Y : World, Y.heap = (w2.alloc (.cells #[u] 22)).heap → Y.os = w2.os → Y.tape = w2.tape → Y.output = w2.output →
    OwnBV Y (B + 2) v vs rs ∧ Y.cell? ⟨w2.heap.size, 0, none⟩ = some u ∧ OwnB Y (B + 2) u R ∧ B + 2 ≤ Y.heap.size ∧ ∀ w3, Y.grownBy w3 v.ownBlock → Blk2 w3 B x y ∧ Blk2 w3 (B + 1) v y1 ∧ Below B w w3 ∧ B + 2 ≤ w3.heap.size
theorem clone_next {w w2 Y w3 : World} {B : Nat} {x y v y1 u : Value} {vs : List Value} {rs : List (List Nat)} {R : List Nat} (h : CloneOk w w2 B x y v y1 u vs rs R) (hg : Y.grownBy w3 v.ownBlock) (h1 : Y.heap = (w2.alloc (.cells #[u] 22)).heap := by rfl) (h2 : Y.os = w2.os := by rfl) (h3 : Y.tape = w2.tape := by rfl) (h4 : Y.output = w2.output := by rfl) : Blk2 w3 B x y ∧ Blk2 w3 (B + 1) v y1 ∧ Below B w w3 ∧ B + 2 ≤ w3.heap.size :=
  (h Y h1 h2 h3 h4).2.2.2.2 w3 hg
theorem heap_own {w w' : World} {base e n : Nat} {v : Value} {xs : List Value} (h : w.ownsRow base e 1 v n xs) (hh : w'.heap = w.heap) : w'.ownsRow base e 1 v n xs := own_keep h fun g _ _ => by rw [hh]
theorem heap_ownBV {w w' : World} {lo : Nat} {v : Value} {vs : List Value} {ls : List (List Nat)} (h : OwnBV w lo v vs ls) (hh : w'.heap = w.heap) : OwnBV w' lo v vs ls := by
  obtain ⟨h1, h2, h3⟩ := h
  refine ⟨heap_own h1 hh, fun i hi => ?_, h3⟩
  obtain ⟨x, hx, ho⟩ := h2 i hi
  exact ⟨x, hx, heap_own ho hh⟩
theorem clone_at {w W0 : World} {B : Nat} {x y v y1 : Value} {vs : List Value} {rs : List (List Nat)} {R : List Nat} {a : Option Addr} (j0 : Blk2 W0 B x y) (j1 : Blk2 W0 (B + 1) v y1) (jv : OwnBV W0 (B + 2) v vs rs) (jn : Below B w W0) (js : B + 2 ≤ W0.heap.size) (jr : RowAt W0 a R) (n cap : Nat) (hn : n = R.length) (h1 : R.length ≤ 1048576) (h0 : 0 < R.length) :
    ∀ W : World, W.heap = W0.heap → W.os = W0.os → W.tape = W0.tape → W.output = W0.output → Calls Try.prog 41 #[.slice a n cap] W fun e w2 => ∃ a2 c2, e = .returned (.slice a2 R.length c2) ∧ (∀ z ∈ vs, z.ownBlock = none ∨ z.ownBlock ≠ (Value.slice a2 R.length c2).ownBlock) ∧
      CloneOk w w2 B x y v y1 (.slice a2 R.length c2) vs rs R ∧ w2.cell? ⟨B + 1, 0, none⟩ = some v ∧ B + 1 < w2.heap.size := by
  intro W e1 e2 e3 e4
  have jr' : RowAt W a R := by
    intro hp
    obtain ⟨b, off, rfl, hc⟩ := jr hp
    refine ⟨b, off, rfl, fun i hi => ?_⟩
    rw [← hc i hi]
    exact World.cell?_of_block (by rw [e1])
  refine (clone_n n a cap R hn W h1 h0 jr').mono ?_
  rintro e w2 ⟨v2, rfl, ho2, hb2⟩
  obtain ⟨a2, c2, rfl⟩ := ho2.slice
  rw [e1] at ho2
  have hb : Below W0.heap.size W0 w2 := ⟨hb2.os.trans e2, hb2.tape.trans e3, hb2.output.trans e4, by rw [← e1]; exact hb2.size, fun k hk => by rw [← e1]; exact hb2.block k (by rw [e1]; exact hk)⟩
  have hs := hb.size
  refine ⟨a2, c2, rfl, jv.ne_new ho2, ?_, (j1.below hb j1.lt).c0, by omega⟩
  intro Y y1' y2' y3' y4'
  obtain ⟨k1, k2, k3, k4, k5⟩ := unf_arm2 (e := 22) j0 j1 jv jn js ho2 hb
  refine ⟨heap_ownBV k1 y1', by rw [← k2]; exact World.cell?_of_block (by rw [y1']), heap_own k3 y1', by rw [y1']; exact k5, fun w3 hg => k4 w3 ⟨hg.os.trans y2', hg.tape.trans y3', hg.output.trans y4', by rw [← y1']; exact hg.size, fun k hk hn => by rw [← y1']; exact hg.block k (by rw [y1']; exact hk) hn⟩⟩
theorem wrap_small (n : Nat) (h : n ≤ 65535) : wrap64 (n : Int) = (n : Int) := by
  unfold wrap64; omega
theorem OwnBV.drew {w : World} {lo : Nat} {v : Value} {vs : List Value} {ls : List (List Nat)} (h : OwnBV w lo v vs ls) (n : Nat) : OwnBV (w.drewN n) lo v vs ls := h
theorem unf_bad {d : List Nat} {f g x0 x1 x2 x3 x4 x5 : Nat} {t : List Nat} {rs : List (List Nat)} (hx : d.drop g = x0 :: x1 :: x2 :: x3 :: x4 :: x5 :: t) (hdl : (x0 :: x1 :: x2 :: x3 :: x4 :: x5 :: t).length = d.length - g) (hg : unfGo d f rs g = unfOf d)
    (h : x0 * 256 + x1 < 1 ∨ 2000 < x0 * 256 + x1 ∨ d.length - g < 6 + (x0 * 256 + x1)) : unfOf d = (rs, g) := by
  rw [← hg]
  refine unf_none ?_
  rw [hx]
  refine firstOf_bad (by simp) ?_
  have e : len2 (x0 :: x1 :: x2 :: x3 :: x4 :: x5 :: t) = x0 * 256 + x1 := rfl
  rw [e, hdl]
  exact h
set_option maxHeartbeats 1000000 in
theorem implUnframe_any (b off cap : Nat) (d : List Nat) (w : World) (hl : d.length ≤ 40000) (hcap : d.length ≤ cap) (hcm : cap ≤ 9223372036854775807) (hr : RowAt w (some ⟨b, off, none⟩) d) (hb : ∀ x ∈ d, x < 256) :
    Calls Try.prog 22 #[.slice (some ⟨b, off, none⟩) d.length cap] w fun e w' => ∃ v, e = .returned v ∧ LogOf w' w.heap.size v (unfOf d) ∧ Below w.heap.size w w' := by
  have hd : decide ((40000 : Int) < (d.length : Int)) = false := by simp; omega
  have HU : Hid (unfGo d d.length [] 0 = unfOf d) := by show _ = _; unfold unfOf; rw [if_neg (by omega)]
  go_enter Try.func22, Try.ntmps22
  go_wp2
  go_step3
  go_wp2
  go_step3
  go_wp2
  go_loopg [4] d.length (fun f _ wr => ∃ rs g vr vs, Unf w wr f d rs g vr vs)
  case atStart =>
    refine ⟨[], 0, .slice none 0 0, [], HU.out, by omega, by omega, by simp, ?_, ?_, OwnBV.nil _ _, ((Below.refl _ _).alloc (Nat.le_refl _) _).alloc (by simp) _, by simp⟩
    · exact (Below.heap_alloc (w.alloc _) _ _ (by simp)).trans (heap_alloc_new w _)
    · have h := heap_alloc_new (w.alloc (.cells #[.slice none 0 0, .int .i64 0] 38)) (.cells #[.slice none 0 0, .int .i64 0] 38)
      simpa [Blk2] using h
  case round =>
    obtain ⟨rs, g, vr, vs, hgo, hfu, hgd, hrg, hB, hB1, hov, hnx, hsz⟩ := hrel
    have HG := hide hgo
    clear hgo HU
    have c0 := hB1.c0
    have c1 := hB1.c1
    have f0 := hB1.fz 0
    have f1 := hB1.fz 1
    have r0 := hB.c0
    have r1 := hB.c1
    have q0 := hB.fz 0
    have q1 := hB.fz 1
    have hgi : (g : Int) ≤ (d.length : Int) := by omega
    have hs0 := hnx.size
    obtain ⟨av, cv, rfl⟩ := hov.slice
    by_cases h6 : d.length - g < 6
    · have hu : unfOf d = (rs, g) := by rw [← unhide HG]; exact unf_none (firstOf_short (by simp; omega))
      have HU := hide hu
      clear hu HG
      go_wp2
      rw [Exit.noGoto_ret]
      refine bodyPost_ret (v := .agg #[.slice av rs.length cv, .int .i64 (g : Int)]) (by simp [results, Try.results22, go_sem, r0, r1]) rfl ⟨_, rfl, ?_, (hnx.setCell (Nat.le_refl _) _).setCell (Nat.le_refl _) _⟩
      rw [unhide HU]
      exact ⟨_, vs, rfl, ((hov.other (by omega) _).other (by omega) _).mono (by omega)⟩
    · have hgc : g + 6 ≤ cap := by omega
      have hrw := (hr.below hnx).drop g
      have hdl : (d.drop g).length = d.length - g := by simp
      obtain ⟨x0, x1, x2, x3, x4, x5, t, hx⟩ := six_of (d := d.drop g) (by omega)
      have hbg : ∀ x ∈ d.drop g, x < 256 := fun x hx => hb x (List.mem_of_mem_drop hx)
      rw [hx] at hrw hbg hdl
      have b0 : x0 < 256 := hbg x0 (by simp)
      have b1 : x1 < 256 := hbg x1 (by simp)
      have b2 : x2 < 256 := hbg x2 (by simp)
      have b3 : x3 < 256 := hbg x3 (by simp)
      have b4 : x4 < 256 := hbg x4 (by simp)
      have b5 : x5 < 256 := hbg x5 (by simp)
      have bt : ∀ x ∈ t, x < 256 := fun x h => hbg x (by simp [h])
      have e0 : wr.cell? ⟨b, off + g, none⟩ = some (.int .u8 (x0 : Int)) := hrw.at 0 (by simp)
      have e1 : wr.cell? ⟨b, off + g + 1, none⟩ = some (.int .u8 (x1 : Int)) := hrw.at 1 (by simp)
      have HX := hide hx
      have HDL := hide hdl
      have HRW := hide hrw
      clear hx hdl hrw hr hb hbg
      have hgl : (g : Int) + 6 ≤ (d.length : Int) := by omega
      by_cases hgc2 : g + 6 < cap
      · go_wp2
        go_quiet (fail)
        go_wp2
        go_quiet (fail)
        rw [or_two x0 x1 b0 b1]
        have HBAD := hide (unf_bad (rs := rs) (f := gk) (unhide HX) (unhide HDL) (unhide HG))
        generalize hn : x0 * 256 + x1 = n at HBAD ⊢
        have HN := hide hn
        have hn5 : n ≤ 65535 := by omega
        rw [wrap_small n hn5, show g + 6 - g = 6 from by omega]
        clear hn e0 e1
        by_cases k1 : n < 1
        · have hu := hide (unhide HBAD (.inl k1))
          go_wp2
          rw [Exit.noGoto_ret]
          refine bodyPost_ret (v := .agg #[.slice av rs.length cv, .int .i64 (g : Int)]) (by simp [results, Try.results22, go_sem, r0, r1]) rfl ⟨_, rfl, ?_, ((below_drewN hnx _).setCell (Nat.le_refl _) _).setCell (Nat.le_refl _) _⟩
          rw [unhide hu]
          exact ⟨_, vs, rfl, (((hov.drew _).other (by omega) _).other (by omega) _).mono (by omega)⟩
        by_cases k2 : 2000 < n
        · have hu := hide (unhide HBAD (.inr (.inl k2)))
          go_wp2
          rw [Exit.noGoto_ret]
          refine bodyPost_ret (v := .agg #[.slice av rs.length cv, .int .i64 (g : Int)]) (by simp [results, Try.results22, go_sem, r0, r1]) rfl ⟨_, rfl, ?_, ((below_drewN hnx _).setCell (Nat.le_refl _) _).setCell (Nat.le_refl _) _⟩
          rw [unhide hu]
          exact ⟨_, vs, rfl, (((hov.drew _).other (by omega) _).other (by omega) _).mono (by omega)⟩
        by_cases k3 : d.length - (g + 6) < n
        · have hu := hide (unhide HBAD (.inr (.inr (by omega))))
          go_wp2
          rw [Exit.noGoto_ret]
          refine bodyPost_ret (v := .agg #[.slice av rs.length cv, .int .i64 (g : Int)]) (by simp [results, Try.results22, go_sem, r0, r1]) rfl ⟨_, rfl, ?_, ((below_drewN hnx _).setCell (Nat.le_refl _) _).setCell (Nat.le_refl _) _⟩
          rw [unhide hu]
          exact ⟨_, vs, rfl, (((hov.drew _).other (by omega) _).other (by omega) _).mono (by omega)⟩
        · have hrw := unhide HRW
          have hA : RowAt wr (some ⟨b, off + g, none⟩) [x0, x1] := hrw.take 2
          have hB2 : RowAt wr (some ⟨b, off + (g + 6), none⟩) (t.take n) := by have := (hrw.drop 6).take n; rw [Nat.add_assoc] at this; exact this
          have hC : RowAt wr (some ⟨b, off + g + 2, none⟩) [x2, x3, x4, x5] := (hrw.drop 2).take 4
          have htn : n = (t.take n).length := by have := unhide HDL; simp at this; simp; omega
          have HTN := hide htn
          clear htn hrw
          have z1 : (2 : Int) ≤ ((cap - g : Nat) : Int) := by omega
          have z2 : (n : Int) ≤ ((cap - (g + 6) : Nat) : Int) := by omega
          have z3 : 2 < cap - g := by omega
          have z4 : (6 : Int) ≤ ((cap - g : Nat) : Int) := by omega
          have hfs : ∀ W : World, (∀ a l, RowAt wr a l → RowAt W a l) → Calls Try.prog 39 #[.slice (some ⟨b, off + g, none⟩) 2 (cap - g), .slice (some ⟨b, off + (g + 6), none⟩) n (cap - (g + 6))] W fun e w' => e = .returned (.int .u32 ((crcOf ([x0, x1] ++ t.take n) : Nat) : Int)) ∧ w' = W :=
            fun W hW => frameSum_n 2 n _ _ _ _ [x0, x1] (t.take n) W rfl (unhide HTN) (by simp) (by have := unhide HTN; omega) (hW _ _ hA) (hW _ _ hB2) (by intro x hx; simp at hx; omega) (fun x hx => bt x (List.mem_of_mem_take hx))
          have hrs : ∀ W : World, (∀ a l, RowAt wr a l → RowAt W a l) → Calls Try.prog 40 #[.slice (some ⟨b, off + g + 2, none⟩) 4 (cap - g - 2)] W fun e w' => e = .returned (.int .u32 ((x2 * 16777216 + x3 * 65536 + x4 * 256 + x5 : Nat) : Int)) ∧ ∃ m, w' = W.drewN m :=
            fun W hW => readSum_any b (off + g + 2) (cap - g - 2) x2 x3 x4 x5 W b2 b3 b4 b5 (hW _ _ hC)
          have HIFF := hide (unf_iff (f := gk) (rs := rs) (unhide HX) (unhide HDL) (unhide HG) b0 b1 b2 b3 b4 b5 bt)
          rw [unhide HN] at HIFF
          have bR : ∀ x ∈ t.take n, x < 256 := fun x hx => bt x (List.mem_of_mem_take hx)
          generalize crcOf ([x0, x1] ++ t.take n) = c at hfs HIFF
          generalize t.take n = R at hB2 HTN HIFF bR
          generalize x2 * 16777216 + x3 * 65536 + x4 * 256 + x5 = s4 at hrs HIFF
          by_cases hsum : c = s4
          · have hxe : ((c : Int) != (s4 : Int)) = false := by rw [hsum]; simp
            have hfi : firstOf (d.drop g) = some R := (unhide HIFF (by omega) (by omega) (by omega)).1 hsum
            obtain ⟨f', hf', hgo', hfu'⟩ := unf_some (rs := rs) hfu hfi
            rw [unhide HG] at hgo'
            have HGO := hide hgo'
            have HF := hide hf'
            have HFU := hide hfu'
            clear hgo' hf' hfu' hfi HG hsum
            go_wp2
            go_quiet ((first | (go_at_call 39; exact quiet_same (hfs _ (fun a l h => h.drew _))) | (go_at_call 40; exact quiet_drew (hrs _ (fun a l h => h.drew _)))))
            clear hfs hrs hA hC
            go_wp2
            refine at_world (F := fun W => Code.wp _ _ _ _ W) ?_
            intro W0 hW0
            have j0 : Blk2 W0 w.heap.size (.slice none 0 0) (.int .i64 0) := by rw [hW0]; exact hB
            have j1 : Blk2 W0 (w.heap.size + 1) (.slice av rs.length cv) (.int .i64 (g : Int)) := by rw [hW0]; exact hB1
            have jv : OwnBV W0 (w.heap.size + 2) (.slice av rs.length cv) vs rs := by rw [hW0]; exact hov
            have jr : RowAt W0 (some ⟨b, off + (g + 6), none⟩) R := by rw [hW0]; exact hB2
            have jn : Below w.heap.size w W0 := by rw [hW0]; exact below_drewN (below_drewN hnx _) _
            have js : w.heap.size + 2 ≤ W0.heap.size := by rw [hW0]; exact hsz
            clear hW0 hB hB1 hov hB2 hnx hsz hs0 c0 c1 f0 f1 r0 r1 q0 q1
            have d0 := j1.c0
            have hrl2 : rs.length ≤ 1048576 := by omega
            have HLT : Hid (R.length = n) := (unhide HTN).symm
            have h2k : n ≤ 2000 := by omega
            have hcl := clone_at j0 j1 jv jn js jr n (cap - (g + 6)) (unhide HTN) (by have := unhide HLT; omega) (by have := unhide HLT; omega)
            clear j0 j1 jv jn js jr
            go_region_law (first
                | (refine step_call_fn (.tmp 64) #[22] (by rfl) (by rfl) (.slice (some ⟨b, off + (g + 6), none⟩) n (cap - (g + 6))) (by rfl) ?_; refine (hcl _ ?_ ?_ ?_ ?_).mono ?_; (exact rfl); (exact rfl); (exact rfl); (exact rfl); rintro e w2 ⟨a2, c2, rfl, hkn, ha, p1, l2⟩; have HKN := hide hkn; have HA := hide ha; clear hkn ha; refine ⟨_, rfl, ?_⟩)
                | (refine step_append_row _ (by rfl) (.tmp 61) (.tmp 66) (by rfl) (w.heap.size + 2) (.slice av rs.length cv) vs rs (.slice a2 R.length c2) R w2.heap.size 1 (by rfl) (by rfl) ?_ ?_ ?_ ?_ ?_ ?_ ?_; (refine (unhide HA _ ?_ ?_ ?_ ?_).1 <;> rfl); (refine (unhide HA _ ?_ ?_ ?_ ?_).2.1 <;> rfl); (refine (unhide HA _ ?_ ?_ ?_ ?_).2.2.1 <;> rfl); (exact unhide HKN); (exact hrl2); (refine (unhide HA _ ?_ ?_ ?_ ?_).2.2.2.1 <;> rfl); intro v3 w3 ho3 hg3; have hz := clone_next (unhide HA) hg3; obtain ⟨a3, c3, rfl⟩ := ho3.slice; have p3 := hz.2.1.c0; have f3 := hz.2.1.fz 0; have p4 := hz.2.1.c1; have f4 := hz.2.1.fz 1))
            all_goals
              have hd3 := unf_done (u := .int .i64 ((g : Int) + (6 + (n : Int)))) hz.1 hz.2.1 ho3 hz.2.2.1 hz.2.2.2
              go_wp2
              go_roundg f'
              case measure => have := unhide HF; omega
              case rel =>
                refine ⟨rs ++ [R], g + (6 + R.length), .slice a3 (rs ++ [R]).length c3, vs ++ [.slice a2 R.length c2], (unhide HGO).symm, by have := unhide HFU; omega, by have := unhide HLT; omega, by simp; omega, ?_, ?_, ?_, ?_, ?_⟩
                · simpa using hd3.1
                · rw [unhide HLT]
                  simpa using hd3.2.1
                · simpa using hd3.2.2.1
                · simpa using hd3.2.2.2.1
                · simpa using hd3.2.2.2.2
          · have hu := hide ((unhide HIFF (by omega) (by omega) (by omega)).2 hsum)
            have hxe : ((c : Int) != (s4 : Int)) = true := by simp; omega
            clear hsum
            go_wp2
            go_quiet ((first | (go_at_call 39; exact quiet_same (hfs _ (fun a l h => h.drew _))) | (go_at_call 40; exact quiet_drew (hrs _ (fun a l h => h.drew _)))))
            clear hfs hrs hA hC hB2
            go_wp2
            rw [Exit.noGoto_ret]
            refine bodyPost_ret (v := .agg #[.slice av rs.length cv, .int .i64 (g : Int)]) (by simp [results, Try.results22, go_sem, r0, r1]) rfl ⟨_, rfl, ?_, ((below_drewN hnx _).setCell (Nat.le_refl _) _).setCell (Nat.le_refl _) _⟩
            rw [unhide hu]
            exact ⟨_, vs, rfl, (((hov.drew _).other (by omega) _).other (by omega) _).mono (by omega)⟩
      · have hgc3 : g + 6 = cap := by omega
        have hd6 : d.length - (g + 6) = 0 := by omega
        obtain rfl := hgc3
        go_wp2
        go_quiet (fail)
        go_wp2
        go_quiet (fail)
        rw [or_two x0 x1 b0 b1]
        have HBAD := hide (unf_bad (rs := rs) (f := gk) (unhide HX) (unhide HDL) (unhide HG))
        generalize hn : x0 * 256 + x1 = n at HBAD ⊢
        have hn5 : n ≤ 65535 := by omega
        rw [wrap_small n hn5, show g + 6 - g = 6 from by omega]
        clear hn e0 e1
        by_cases k1 : n < 1
        · have hu := hide (unhide HBAD (.inl k1))
          go_wp2
          rw [Exit.noGoto_ret]
          refine bodyPost_ret (v := .agg #[.slice av rs.length cv, .int .i64 (g : Int)]) (by simp [results, Try.results22, go_sem, r0, r1]) rfl ⟨_, rfl, ?_, ((below_drewN hnx _).setCell (Nat.le_refl _) _).setCell (Nat.le_refl _) _⟩
          rw [unhide hu]
          exact ⟨_, vs, rfl, (((hov.drew _).other (by omega) _).other (by omega) _).mono (by omega)⟩
        by_cases k2 : 2000 < n
        · have hu := hide (unhide HBAD (.inr (.inl k2)))
          go_wp2
          rw [Exit.noGoto_ret]
          refine bodyPost_ret (v := .agg #[.slice av rs.length cv, .int .i64 (g : Int)]) (by simp [results, Try.results22, go_sem, r0, r1]) rfl ⟨_, rfl, ?_, ((below_drewN hnx _).setCell (Nat.le_refl _) _).setCell (Nat.le_refl _) _⟩
          rw [unhide hu]
          exact ⟨_, vs, rfl, (((hov.drew _).other (by omega) _).other (by omega) _).mono (by omega)⟩
        · have hu := hide (unhide HBAD (.inr (.inr (by omega))))
          have k3 : (0 : Int) < (n : Int) := by omega
          go_wp2
          rw [Exit.noGoto_ret]
          refine bodyPost_ret (v := .agg #[.slice av rs.length cv, .int .i64 (g : Int)]) (by simp [results, Try.results22, go_sem, r0, r1]) rfl ⟨_, rfl, ?_, ((below_drewN hnx _).setCell (Nat.le_refl _) _).setCell (Nat.le_refl _) _⟩
          rw [unhide hu]
          exact ⟨_, vs, rfl, (((hov.drew _).other (by omega) _).other (by omega) _).mono (by omega)⟩
theorem implUnframe_long (b off cap : Nat) (d : List Nat) (w : World) (hl : 40000 < d.length) :
    Calls Try.prog 22 #[.slice (some ⟨b, off, none⟩) d.length cap] w fun e w' => ∃ v, e = .returned v ∧ LogOf w' w.heap.size v (unfOf d) ∧ Below w.heap.size w w' := by
  have hu : unfOf d = ([], 0) := by unfold unfOf; rw [if_pos hl]
  rw [hu]
  clear hu
  go_enter Try.func22, Try.ntmps22
  go_wp2
  go_step3
  go_wp2
  rw [Exit.noGoto_ret]
  exact bodyPost_ret (v := .agg #[.slice none 0 0, .int .i64 0]) (by simp [results, Try.results22, go_sem]) rfl ⟨_, rfl, ⟨_, [], rfl, OwnBV.nil _ _⟩, ((Below.refl _ _).alloc (Nat.le_refl _) _).alloc (by simp) _⟩
end Go.Proofs.Ytokcdpamcbpaiab
