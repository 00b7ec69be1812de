import Derived.Test.YtledlicandlekaaDoorPopVb3
import Derived.Laws.ResultCell
namespace Go.Proofs.YtledlicandlekaaDoor
open Go.RowKit
theorem two_one {g gc : Nat} {w w' : World} (t : Two g g w w') : Two g gc w w' := ⟨t.os, t.tape, t.output, t.size, fun k hk h1 _ => t.block k hk h1 h1⟩
set_option maxRecDepth 20000 in
set_option maxHeartbeats 1000000 in
theorem popCommand_any (gr gc : Nat) (s : ByteArray) (w : World) (hs : s.size ≤ 1048576) (hr : RdB w gr s false) (hc : CmB w gc 0 0) (hne : gr ≠ gc) (hE : ∀ X, Two gr gc w X → Env X) :
    Calls Tryd.prog 32 #[.pointer (some ⟨gr, 0, none⟩), .pointer (some ⟨gc, 0, none⟩)] w fun e w' => (∃ v, e = .returned v) ∧ PDone gr gc s w w' := by
  have HR := hide hr
  have HC := hide hc
  have HE := hide hE
  have hgr := hr.lt
  have hgc := hc.lt
  have hzv : ∀ w : World, (zeroValue 87).run Tryd.prog w = .ok .nilFunc w := fun w => by kernel_rfl
  have HZ := hide hzv
  clear hr hc hE hzv
  go_enter Tryd.func32, Tryd.ntmps32
  go_wp2_with fail
  refine (popVerbs_any w).mono ?_
  rintro e W1 ⟨rfl, hV⟩
  have HV := hide hV
  have T1 := hide (Two.of_below (b1 := gr) (b2 := gc) hV.bel)
  have H1 := hide (HR.out.below hV.bel hgr)
  have C1 := hide (HC.out.below hV.bel hgc)
  clear hV
  go_wp2_with fail
  refine (word_any gr gr s false W1 hs H1.out (HE.out W1 T1.out)).mono ?_
  rintro e w2 ⟨rfl, h2, t2⟩
  have T12 := hide (two_one (gc := gc) t2)
  have T2 := hide (T1.out.trans (two_one (gc := gc) t2))
  have H2 := hide h2
  have C2 := hide (show CmB w2 gc 0 0 from (t2.block gc C1.out.lt (Ne.symm hne) (Ne.symm hne)).trans C1.out)
  have M2 := hide (HV.out.mp.two (two_one (gc := gc) t2) (by omega) (by omega))
  have hbl := bh_len s
  have HF := hide (follow_any gr gc (bhB s) (upB (pcB s)) w W1 w2 (by omega) H2.out C2.out HV.out T12.out ⟨hgr, hgc⟩ hne (fun X h => HE.out X (T2.out.trans h)))
  clear h2 t2
  go_wp2_with (first
    | (at_lookup; refine wpList_lookup_f _ rfl _ _ 88 87 rfl Tryd.underlying88 Tryd.underlying9 (HZ.out _) w.heap.size _ (upB (pcB s)) rfl rfl M2.out ?_)
    | fail)
  refine HF.out.mono ?_
  rintro e w3 ⟨⟨v3, rfl⟩, t3, hor⟩
  have HP := hide (show PDone gr gc s w w3 from ⟨T2.out.trans t3, hor⟩)
  clear t3 hor
  go_wp2
  go_end0
  exact ⟨⟨_, rfl⟩, HP.out⟩
theorem ret_cmd {fn : Func} {tmps : Array Value} {p : Tmp} (B : Nat) (W : World) (cs : Array Value) (hz : cs.size = 9) (hf : fn.results = #[.cell p 36]) (hp : tmps.getD p undef = .pointer (some ⟨B, 0, none⟩)) (hb : Blk W B cs 36) :
    (results fn tmps).run Tryd.prog W = .ok (.agg cs) W :=
  results_cell_row (P := Tryd.prog) hf _ _ B _ _ _ _ hp hb Tryd.underlying36 rfl (by rw [hz]; kernel_rfl)
/-- What is left of a command: nothing if the reader has failed, or if there is more. -/
def whole (s : ByteArray) (f : Bool) (K N : Int) : Array Value := if f = false ∧ s.data.toList = [] then cmP K N else cmP 0 0
theorem whole_size (s : ByteArray) (f : Bool) (K N : Int) : (whole s f K N).size = 9 := by unfold whole; split <;> rfl
theorem blk_new2 (w : World) (A B : Array Value) (t : TypeId) : Blk ((w.alloc (.cells A t)).alloc (.cells B t)) (w.heap.size + 1) B t := heap_alloc2_new w _ _
theorem below2 (w : World) (A B : Array Value) (t : TypeId) : Below w.heap.size w ((w.alloc (.cells A t)).alloc (.cells B t)) := ((Below.refl _ _).alloc (Nat.le_refl _) _).alloc (by simp) _
set_option maxRecDepth 20000 in
set_option maxHeartbeats 1000000 in
theorem whole_any (gr : Nat) (s : ByteArray) (f : Bool) (K N : Int) (w : World) (hr : RdB w gr s f) :
    Calls Tryd.prog 33 #[.pointer (some ⟨gr, 0, none⟩), .agg (cmP K N)] w fun e w' => e = .returned (.agg (whole s f K N)) ∧ Below w.heap.size w w' := by
  have r2 := hr.below (below2 w (cmP K N) (cmP 0 0) 36) hr.lt
  have c0 : ((w.alloc (.cells (cmP K N) 36)).alloc (.cells (cmP 0 0) 36)).cell? ⟨gr, 0, none⟩ = some (.string s) := r2.cell 0
  have c1 : ((w.alloc (.cells (cmP K N) 36)).alloc (.cells (cmP 0 0) 36)).cell? ⟨gr, 1, none⟩ = some (.bool f) := r2.cell 1
  have HY := hide (fun cs : Array Value => And.intro (blk_new2 w (cmP K N) cs 36) (below2 w (cmP K N) cs 36))
  clear hr r2
  unfold cmP at c0 c1 ⊢
  by_cases hg : f = false ∧ s.data.toList = []
  · have HW := hide (show whole s f K N = cmP K N from if_pos hg)
    obtain ⟨rfl, hs⟩ := hg
    have hs2 : s.toList.isEmpty = true := by rw [ByteArray.toList_eq, hs]; rfl
    clear hs
    go_enter Tryd.func33, Tryd.ntmps33
    go_wp2
    exact bodyPost_ret (ret_cmd (w.heap.size + 1) _ (cmP K N) rfl rfl rfl (HY.out (cmP K N)).1) rfl ⟨by rw [HW.out], (HY.out (cmP K N)).2⟩
  · have HW := hide (show whole s f K N = cmP 0 0 from if_neg hg)
    cases f with
    | true =>
      clear hg
      go_enter Tryd.func33, Tryd.ntmps33
      go_wp2
      exact bodyPost_ret (ret_cmd (w.heap.size + 1) _ (cmP 0 0) rfl rfl rfl (HY.out (cmP 0 0)).1) rfl ⟨by rw [HW.out], (HY.out (cmP 0 0)).2⟩
    | false =>
      have hs2 : s.toList.isEmpty = false := by
        rw [ByteArray.toList_eq]
        have : ¬ s.data.toList = [] := fun h => hg ⟨rfl, h⟩
        simpa using this
      clear hg
      go_enter Tryd.func33, Tryd.ntmps33
      go_wp2
      exact bodyPost_ret (ret_cmd (w.heap.size + 1) _ (cmP 0 0) rfl rfl rfl (HY.out (cmP 0 0)).1) rfl ⟨by rw [HW.out], (HY.out (cmP 0 0)).2⟩
/-- What ParsePop answers, told by what its reader leaves. -/
def ImPop (s : ByteArray) (cs : Array Value) : Prop :=
  (vbOf (upB (pcB s)) = none ∧ cs = cmP 0 0) ∨
  (∃ m k, vbOf (upB (pcB s)) = some (m, k) ∧ m ≠ 1 ∧ (m = 0 ∨ (bhB s).data.toList = []) ∧ cs = whole (bhB s) false k 0) ∨
  (∃ m k, ∃ (n : Nat) (ok : Bool), vbOf (upB (pcB s)) = some (m, k) ∧ m ≠ 0 ∧ (m = 1 ∨ (bhB s).data.toList ≠ []) ∧ RdIs (pcL (blB (bhB s)).data.toList) 1 4294967295 n ok ∧ cs = whole (bhB (blB (bhB s))) (!blOk (bhB s) || !ok) k (n : Int))
theorem pdone_blocks {gr gc : Nat} {s : ByteArray} {w w' : World} (h : PDone gr gc s w w') : ∃ (r : ByteArray) (f : Bool) (K N : Int), RdB w' gr r f ∧ CmB w' gc K N ∧ ImPop s (whole r f K N) := by
  obtain ⟨_, h | ⟨m, k, h1, h2, h3, h4, h5⟩ | ⟨m, k, n, ok, h1, h2, h3, h4, h5, h6⟩⟩ := h
  · exact ⟨_, _, _, _, h.2.1, h.2.2, .inl ⟨h.1, by unfold whole; rw [if_neg (by simp)]⟩⟩
  · exact ⟨_, _, _, _, h4, h5, .inr (.inl ⟨m, k, h1, h2, h3, rfl⟩)⟩
  · exact ⟨_, _, _, _, h5, h6, .inr (.inr ⟨m, k, n, ok, h1, h2, h3, h4, rfl⟩)⟩
theorem impop_size {s : ByteArray} {cs : Array Value} (h : ImPop s cs) : ∃ K N : Int, cs = cmP K N := by
  rcases h with ⟨_, rfl⟩ | ⟨m, k, _, _, _, rfl⟩ | ⟨m, k, n, ok, _, _, _, _, rfl⟩
  · exact ⟨0, 0, rfl⟩
  · unfold whole; split
    · exact ⟨_, _, rfl⟩
    · exact ⟨_, _, rfl⟩
  · unfold whole; split
    · exact ⟨_, _, rfl⟩
    · exact ⟨_, _, rfl⟩
end Go.Proofs.YtledlicandlekaaDoor
