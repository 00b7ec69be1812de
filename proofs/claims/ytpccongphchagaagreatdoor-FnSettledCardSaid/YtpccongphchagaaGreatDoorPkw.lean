import Derived.Test.YtpccongphchagaaGreatDoorPkv
import Derived.Test.YtpccongphchagaaGreatDoorPku
import Derived.Test.YtpccongphchagaaGreatDoorPkk
import Derived.Deep.DeepCutAuto
import Derived.Deep.RegionLaw
namespace Go.Proofs.YtpccongphchagaaGreatDoor
open Go.RowKit
set_option linter.unusedVariables false
/-- Drawn operations are small. -/
def OpsB (l : List OpV) : Prop := ∀ o ∈ l, o.2.1.size ≤ 40 ∧ o.2.2.1.size ≤ 40 ∧ o.2.2.2.length ≤ 255
theorem OwnV.kp {p : Nat} {w w' : World} {base : Nat} {v : Value} {vs : List V4} {os : List OpV} (h : OwnV w base v vs os) (hk : Kp p w w') (hp : p < base) : OwnV w' base v vs os :=
  ⟨h.len, own_kp h.row hk (own_off h.row hp), fun i hi => by
    obtain ⟨x, h1, h2⟩ := h.body i hi
    exact ⟨x, h1, own_kp h2 hk (own_off h2 hp)⟩⟩
/-- How a round of l1Ops stands with its operation, in block B. -/
structure OnA (w w0 w4 X : World) (p : Nat) (a : Option Addr) (cap : Nat) (code : List Nat) (j B : Nat) (kd : Int) (nm tt : ByteArray) (x : Value) (d : List Nat) : Prop where
  rd : RdIn w w0 X p a cap code j
  kp : Kp p w4 X
  op : Laid X B #[.int .i64 kd, .string nm, .string tt, x] 39
  da : OwnB X w.heap.size x d
  lo : w4.heap.size ≤ B
  lw : w.heap.size ≤ w4.heap.size
  lp : p < w.heap.size
  l0 : w0.heap.size ≤ w.heap.size
theorem rd_set {wk w0 X : World} {p : Nat} {a : Option Addr} {cap : Nat} {code : List Nat} {i B : Nat} (h : RdIn wk w0 X p a cap code i) (hB : wk.heap.size ≤ B) (hp : p < wk.heap.size) (h0 : w0.heap.size ≤ wk.heap.size) (j : Nat) (u : Value) : RdIn wk w0 (X.setCell ⟨B, j, none⟩ u) p a cap code i :=
  rd_grown h (grown_setCell X B j u) (fun b e => by simp at e; omega) hp h0
theorem OnA.set {w w0 w4 X : World} {p : Nat} {a : Option Addr} {cap : Nat} {code : List Nat} {j B : Nat} {kd : Int} {nm tt : ByteArray} {x : Value} {d : List Nat} (h : OnA w w0 w4 X p a cap code j B kd nm tt x d) (k : Nat) (u : Value) (kd' : Int) (nm' tt' : ByteArray) (hL : Laid (X.setCell ⟨B, k, none⟩ u) B #[.int .i64 kd', .string nm', .string tt', x] 39) : OnA w w0 w4 (X.setCell ⟨B, k, none⟩ u) p a cap code j B kd' nm' tt' x d := by
  have h1 := h.lo
  have h2 := h.lw
  refine ⟨rd_set h.rd (by omega) h.lp h.l0 k u, ⟨Nat.le_trans h.kp.size (by simp), fun g hg hn => (heap_setCell_other X ⟨B, k, none⟩ g u (by simp; omega)).trans (h.kp.block g hg hn)⟩, hL, ?_, h.lo, h.lw, h.lp, h.l0⟩
  exact own_frk h.da ((Fr.refl (fun g => g = B) X).set rfl) (fun g e => ⟨_, by subst e; exact h.op.kind, by decide⟩)
theorem OnA.kind {w w0 w4 X : World} {p : Nat} {a : Option Addr} {cap : Nat} {code : List Nat} {j B : Nat} {kd : Int} {nm tt : ByteArray} {x : Value} {d : List Nat} (h : OnA w w0 w4 X p a cap code j B kd nm tt x d) (k : Int) : OnA w w0 w4 (X.setCell ⟨B, 0, none⟩ (.int .i64 k)) p a cap code j B k nm tt x d := h.set 0 _ k nm tt (h.op.set 0 _)
theorem OnA.name {w w0 w4 X : World} {p : Nat} {a : Option Addr} {cap : Nat} {code : List Nat} {j B : Nat} {kd : Int} {nm tt : ByteArray} {x : Value} {d : List Nat} (h : OnA w w0 w4 X p a cap code j B kd nm tt x d) (s : ByteArray) : OnA w w0 w4 (X.setCell ⟨B, 1, none⟩ (.string s)) p a cap code j B kd s tt x d := h.set 1 _ kd s tt (h.op.set 1 _)
theorem OnA.other {w w0 w4 X : World} {p : Nat} {a : Option Addr} {cap : Nat} {code : List Nat} {j B : Nat} {kd : Int} {nm tt : ByteArray} {x : Value} {d : List Nat} (h : OnA w w0 w4 X p a cap code j B kd nm tt x d) (s : ByteArray) : OnA w w0 w4 (X.setCell ⟨B, 2, none⟩ (.string s)) p a cap code j B kd nm s x d := h.set 2 _ kd nm s (h.op.set 2 _)
/-- The operation gets its data. -/
theorem OnA.data {w w0 w4 X : World} {p : Nat} {a : Option Addr} {cap : Nat} {code : List Nat} {j B : Nat} {kd : Int} {nm tt : ByteArray} {x y : Value} {d e : List Nat} (h : OnA w w0 w4 X p a cap code j B kd nm tt x d) (hy : OwnB X w.heap.size y e) : OnA w w0 w4 (X.setCell ⟨B, 3, none⟩ y) p a cap code j B kd nm tt y e := by
  have h1 := h.lo
  have h2 := h.lw
  refine ⟨rd_set h.rd (by omega) h.lp h.l0 3 y, ⟨Nat.le_trans h.kp.size (by simp), fun g hg hn => (heap_setCell_other X ⟨B, 3, none⟩ g y (by simp; omega)).trans (h.kp.block g hg hn)⟩, h.op.set 3 y, ?_, h.lo, h.lw, h.lp, h.l0⟩
  exact own_frk hy ((Fr.refl (fun g => g = B) X).set rfl) (fun g e => ⟨_, by subst e; exact h.op.kind, by decide⟩)
/-- The reader goes on. -/
theorem OnA.on {w w0 w4 X X' : World} {p : Nat} {a : Option Addr} {cap : Nat} {code : List Nat} {j j' B : Nat} {kd : Int} {nm tt : ByteArray} {x : Value} {d : List Nat} (h : OnA w w0 w4 X p a cap code j B kd nm tt x d) (hr : RdIn X w0 X' p a cap code j') : OnA w w0 w4 X' p a cap code j' B kd nm tt x d := by
  have h1 := h.lo
  have h2 := h.lw
  have h3 := h.lp
  refine ⟨RdIn.onto h.rd.kp hr, h.kp.trans hr.kp, (hr.kp.block B h.op.lt (by omega)).trans h.op, own_kp h.da hr.kp (own_off h.da h.lp), h.lo, h.lw, h.lp, h.l0⟩
theorem OnA.below {w w0 w4 X X' : World} {p : Nat} {a : Option Addr} {cap : Nat} {code : List Nat} {j B : Nat} {kd : Int} {nm tt : ByteArray} {x : Value} {d : List Nat} (h : OnA w w0 w4 X p a cap code j B kd nm tt x d) (hb : Below X.heap.size X X') : OnA w w0 w4 X' p a cap code j B kd nm tt x d :=
  h.on ⟨h.rd.rd.below hb h.rd.rd.lt, h.rd.low.trans (hb.mono h.rd.low.size), h.rd.above, Kp.of_below hb⟩
/-- The operation put behind the others. -/
theorem onA_end {w w0 w4 X : World} {p : Nat} {a : Option Addr} {cap : Nat} {code : List Nat} {j B : Nat} {kd : Int} {nm tt : ByteArray} {x : Value} {d : List Nat} {v : Value} {vs : List V4} {l : List OpV} (h : OnA w w0 w4 X p a cap code j B kd nm tt x d) (hv : OwnV w4 w.heap.size v vs l) :
    OwnV (X.alloc (.cells (four [(.int .i64 kd, .string nm, .string tt, x)]).toArray 39)) w.heap.size v vs l ∧ OwnV (X.alloc (.cells (four [(.int .i64 kd, .string nm, .string tt, x)]).toArray 39)) w.heap.size (.slice (some ⟨X.heap.size, 0, none⟩) 1 1) [(.int .i64 kd, .string nm, .string tt, x)] [(kd, nm, tt, d)] ∧ RdIn w w0 (X.alloc (.cells (four [(.int .i64 kd, .string nm, .string tt, x)]).toArray 39)) p a cap code j ∧ w.heap.size ≤ (X.alloc (.cells (four [(.int .i64 kd, .string nm, .string tt, x)]).toArray 39)).heap.size := by
  have hal := (Below.refl X.heap.size X).alloc (Nat.le_refl _) (.cells (four [(.int .i64 kd, .string nm, .string tt, x)]).toArray 39)
  refine ⟨(hv.kp h.kp h.lp).below' hal, ?_, h.rd.below hal, Nat.le_trans h.rd.kp.size hal.size⟩
  exact ownV_new X w.heap.size [(.int .i64 kd, .string nm, .string tt, x)] [(kd, nm, tt, d)] h.rd.kp.size (by simp) rfl (fun i hi => by
    match i, hi with
    | 0, _ => exact ⟨x, rfl, h.da⟩)
end Go.Proofs.YtpccongphchagaaGreatDoor
namespace Go.Proofs.YtpccongphchagaaGreatDoor
open Go.RowKit
set_option linter.unusedVariables false
theorem okList_names {nodes : Int} {es : List EN} (h : okList nodes es = true) : ∀ e ∈ es, okName e.1 = true := fun e he => by
  unfold okList at h
  obtain ⟨i, hi, rfl⟩ := List.getElem_of_mem he
  have h3 := ((of_decide_eq_true h).2 i hi).1
  unfold okEnt at h3
  exact (of_decide_eq_true h3).1
theorem okList_of {nodes : Int} {es : List EN} (ap : Apart es) (so : Sorted es) (ln : es.length ≤ 300) (nd : ∀ e ∈ es, 0 ≤ e.2 ∧ e.2 < nodes) (ok : ∀ e ∈ es, okName e.1 = true) : okList nodes es = true := by
  unfold okList
  refine decide_eq_true ⟨ln, fun i hi => ⟨?_, fun k hk => ?_⟩⟩
  · unfold okEnt
    exact decide_eq_true ⟨ok _ (List.getElem_mem hi), nd _ (List.getElem_mem hi)⟩
  · unfold apart
    exact decide_eq_true ⟨List.pairwise_iff_getElem.1 so k i (by omega) hi hk, (List.pairwise_iff_getElem.1 ap k i (by omega) hi hk).2⟩
theorem okList_wider {N M : Int} {es : List EN} (h : okList N es = true) (hm : N ≤ M) : okList M es = true := by
  obtain ⟨h1, h2, h3, h4⟩ := okList_apart h
  exact okList_of h1 h2 h3 (fun e he => by have := h4 e he; omega) (okList_names h)
/-- A replayed list has good names, and so has what was replayed. -/
theorem rep_ok {nodes : Int} {es l : List EN} {o : DO} (h : repE nodes es o = some l) (hs : ∀ e ∈ es, okName e.1 = true) : (∀ e ∈ l, okName e.1 = true) ∧ o.2.1.size ≤ 80 ∧ o.2.2.1.size ≤ 80 := by
  have hok : ∀ {nm : ByteArray}, okName nm = true → nm.size ≤ 80 := fun h => (of_decide_eq_true h).2.1
  have hem : ∀ {b : ByteArray}, b.toList = [] → b.size ≤ 80 := fun {b} h => by
    rw [ByteArray.toList_eq] at h
    have : b.data.size = 0 := by rw [← Array.length_toList, h]; rfl
    show b.data.size ≤ 80
    omega
  unfold repE at h
  split at h
  · split at h
    · next hc =>
      simp only [Option.some.injEq] at h
      subst h
      refine ⟨?_, hok hc.1, hem hc.2.1⟩
      rintro ⟨s, n⟩ he
      rcases mem_insE.1 he with ⟨rfl, _⟩ | he
      · exact hc.1
      · exact hs _ (mem_noName.1 he).1
    · cases h
  · split at h
    · split at h
      · cases h
      · next nd hn =>
        split at h
        · next hc =>
          simp only [Option.some.injEq] at h
          subst h
          refine ⟨?_, hok (hs _ (nodeIn_of hn)), hok hc.1⟩
          rintro ⟨s, n⟩ he
          rcases mem_insE.1 he with ⟨rfl, _⟩ | he
          · exact hc.1
          · exact hs _ (mem_noName.1 (mem_noName.1 he).1).1
        · cases h
    · split at h
      · split at h
        · cases h
        · next nd hn =>
          split at h
          · next hc =>
            simp only [Option.some.injEq] at h
            subst h
            refine ⟨?_, hok (hs _ (nodeIn_of hn)), hem hc.1⟩
            rintro ⟨s, n⟩ he
            exact hs _ (mem_noName.1 he).1
          · cases h
      · cases h
theorem rep_more {N : Int} {es l : List EN} {o : DO} (h : repE N es o = some l) : repE (N + 1) es o = some l := by
  unfold repE at h ⊢
  split
  · next h1 =>
    rw [if_pos h1] at h
    split at h
    · next hc => rw [if_pos ⟨hc.1, hc.2.1, hc.2.2.1, by omega, hc.2.2.2.2⟩]; exact h
    · cases h
  · next h1 => rw [if_neg h1] at h; exact h
theorem repAll_more {N : Int} : ∀ {r : List DO} {es z : List EN}, repAll N es r = some z → repAll (N + 1) es r = some z
  | [], _, _, h => h
  | o :: r, es, z, h => by
    obtain ⟨l, h1, h2, h3⟩ := repAll_next h
    rw [repAll, rep_more h1]
    simp only
    rw [if_neg (by omega)]
    exact repAll_more h3
theorem repAll_snoc {N : Int} : ∀ {r : List DO} {es z l : List EN} {o : DO}, repAll N es r = some z → repE N z o = some l → l.length ≤ 300 → repAll N es (r ++ [o]) = some l
  | [], es, z, l, o, h, h2, h3 => by
    simp only [repAll, Option.some.injEq] at h
    subst h
    show repAll N es [o] = some l
    rw [repAll, h2]
    simp only
    rw [if_neg (by omega)]
    rfl
  | p :: r, es, z, l, o, h, h2, h3 => by
    obtain ⟨y, k1, k2, k3⟩ := repAll_next h
    show repAll N es (p :: (r ++ [o])) = some l
    rw [repAll, k1]
    simp only
    rw [if_neg (by omega)]
    exact repAll_snoc k3 h2 h3
theorem repAll_sizes {N : Int} : ∀ {r : List DO} {es z : List EN}, repAll N es r = some z → (∀ e ∈ es, okName e.1 = true) → ∀ o ∈ r, o.2.1.size ≤ 1048576 ∧ o.2.2.1.size ≤ 1048576
  | [], _, _, _, _, o, ho => by cases ho
  | p :: r, es, z, h, hs, o, ho => by
    obtain ⟨y, k1, k2, k3⟩ := repAll_next h
    obtain ⟨m1, m2, m3⟩ := rep_ok k1 hs
    rcases List.mem_cons.1 ho with rfl | ho
    · exact ⟨by omega, by omega⟩
    · exact repAll_sizes k3 m1 o ho
theorem valid_modest {D : MDisk} (h : ValidD D) : Modest D := by
  obtain ⟨h1, h2, h3, h4, h5, h6, h7⟩ := h
  obtain ⟨n1, n2, n3⟩ := of_decide_eq_true h4
  obtain ⟨_, _, k3, _⟩ := okList_apart h5
  obtain ⟨_, _, m3, _⟩ := okList_apart h6
  have hok : ∀ {nm : ByteArray}, okName nm = true → nm.size ≤ 1048576 := fun h => okName_size h
  exact ⟨by omega, by omega, by omega, by omega, by omega, fun e he => hok (okList_names h5 e he), fun e he => hok (okList_names h6 e he), repAll_sizes h7 (okList_names h6)⟩
theorem valid_wkd {D : MDisk} (h : ValidD D) : Wkd D := wkd_of h (valid_modest h)
theorem valid_dir {D : MDisk} {o : DO} {l : List EN} (h : ValidD D) (hr : repE (D.nodes.length : Int) D.names o = some l) (hl : l.length ≤ 300) (hp : D.pend.length < 1000) : ValidD (dirD D o) := by
  obtain ⟨h1, h2, h3, h4, h5, h6, h7⟩ := h
  obtain ⟨k1, k2, k3, k4⟩ := okList_apart h5
  have e : (repE (D.nodes.length : Int) D.names o).getD [] = l := by rw [hr]; rfl
  refine ⟨h1, h2, by simp [dirD]; omega, h4, ?_, h6, ?_⟩
  · show okList (D.nodes.length : Int) ((repE (D.nodes.length : Int) D.names o).getD []) = true
    rw [e]
    exact okList_of (rep_good k1 hr) (rep_sorted k2 hr) hl (mem_node hr k4) (rep_ok hr (okList_names h5)).1
  · show repAll (D.nodes.length : Int) D.kept (D.pend ++ [o]) = some ((repE (D.nodes.length : Int) D.names o).getD [])
    rw [e]
    exact repAll_snoc h7 hr hl
theorem valid_new {D : MDisk} (h : ValidD D) (hn : D.nodes.length < 600) : ValidD (newD D) := by
  obtain ⟨h1, h2, h3, h4, h5, h6, h7⟩ := h
  obtain ⟨n1, n2, n3⟩ := of_decide_eq_true h4
  have hl : ((D.nodes ++ [(([] : List Nat), (0 : Int))]).length : Int) = (D.nodes.length : Int) + 1 := by simp
  refine ⟨h1, h2, h3, ?_, ?_, ?_, ?_⟩
  · refine decide_eq_true ⟨by simp [newD]; omega, fun i hi => ?_, by simpa [newD, sumN_append, sumN] using n3⟩
    by_cases hlt : i < D.nodes.length
    · have : (newD D).nodes[i] = D.nodes[i] := List.getElem_append_left hlt
      exact (congrArg okNode this).trans (n2 i hlt)
    · have hi2 : i < (D.nodes ++ [(([] : List Nat), (0 : Int))]).length := hi
      have : (newD D).nodes[i] = (([] : List Nat), (0 : Int)) := by
        show (D.nodes ++ [(([] : List Nat), (0 : Int))])[i] = _
        rw [List.getElem_append_right (by omega)]
        simp
      exact (congrArg okNode this).trans (by simp [okNode])
  · show okList ((D.nodes ++ [(([] : List Nat), (0 : Int))]).length : Int) D.names = true
    rw [hl]; exact okList_wider h5 (by omega)
  · show okList ((D.nodes ++ [(([] : List Nat), (0 : Int))]).length : Int) D.kept = true
    rw [hl]; exact okList_wider h6 (by omega)
  · show repAll ((D.nodes ++ [(([] : List Nat), (0 : Int))]).length : Int) D.kept D.pend = some D.names
    rw [hl]; exact repAll_more h7
theorem valid_put {D : MDisk} {n : Int} {x : NdM} (h : ValidD D) (hx : okNode x = true) (hs : sumN (D.nodes.set n.toNat x) ≤ 200000) : ValidD (putD D n x) := by
  obtain ⟨h1, h2, h3, h4, h5, h6, h7⟩ := h
  obtain ⟨n1, n2, n3⟩ := of_decide_eq_true h4
  have hl : ((D.nodes.set n.toNat x).length : Int) = (D.nodes.length : Int) := by simp
  refine ⟨h1, h2, h3, ?_, ?_, ?_, ?_⟩
  · refine decide_eq_true ⟨by simpa [putD] using n1, fun i hi => ?_, hs⟩
    have hi2 : i < D.nodes.length := by simpa [putD] using hi
    have e : ∀ h : i < (D.nodes.set n.toNat x).length, okNode ((D.nodes.set n.toNat x)[i]) = true := fun h => by
      rw [List.getElem_set]
      split
      · exact hx
      · exact n2 i hi2
    exact e hi
  · show okList ((D.nodes.set n.toNat x).length : Int) D.names = true
    rw [hl]; exact h5
  · show okList ((D.nodes.set n.toNat x).length : Int) D.kept = true
    rw [hl]; exact h6
  · show repAll ((D.nodes.set n.toNat x).length : Int) D.kept D.pend = some D.names
    rw [hl]; exact h7
theorem valid_settle {D : MDisk} (h : ValidD D) : ValidD (settleD D) := by
  have hw := valid_wkd h
  obtain ⟨h1, h2, h3, h4, h5, h6, h7⟩ := h
  obtain ⟨n1, n2, n3⟩ := of_decide_eq_true h4
  have hf := outE_fine hw.fine
  have hl : ((D.names.map (nodeOf D.nodes)).length : Int) = (D.names.length : Int) := by simp
  have hok : ∀ e ∈ outE D.names D.names.length, okName e.1 = true := fun e he => by
    have : e.1 ∈ D.names.map (·.1) := by rw [← outE_fst]; exact List.mem_map_of_mem he
    obtain ⟨x, hx, hx2⟩ := List.mem_map.1 this
    rw [← hx2]
    exact okList_names h5 x hx
  have hln := hw.fine.ln
  have hO : okList ((D.names.map (nodeOf D.nodes)).length : Int) (outE D.names D.names.length) = true := by
    rw [hl]; exact okList_of hf.ap hf.so hf.ln hf.nd hok
  refine ⟨h1, h2, by simp [settleD], ?_, hO, hO, rfl⟩
  refine decide_eq_true ⟨by simp [settleD]; omega, fun i hi => ?_, ?_⟩
  · have hi2 : i < D.names.length := by simpa [settleD] using hi
    have e : (settleD D).nodes[i] = nodeOf D.nodes D.names[i] := by simp [settleD]
    rw [e]
    have hb := hw.fine.nd _ (List.getElem_mem hi2)
    have hlt : D.names[i].2.toNat < D.nodes.length := by omega
    unfold nodeOf
    rw [List.getD_eq_getElem?_getD, List.getElem?_eq_getElem hlt]
    exact n2 _ hlt
  · have h8 := used_le _ _ hw.fine.ap hw.fine.nd
    simp only [settleD, sumN_map]
    omega
theorem doOne_valid {D : MDisk} (o : OpV) (h : ValidD D) : ValidD (doOne D o).1 := by
  have hw := valid_wkd h
  obtain ⟨n1, n2, n3⟩ := of_decide_eq_true h.2.2.2.1
  unfold doOne
  split
  · exact h
  split
  · exact valid_settle h
  split
  · exact h
  next hk =>
  simp only [not_or, not_and, Bool.not_eq_false] at hk
  split
  · split
    · exact h
    next hf =>
    simp only [not_or, not_and, Nat.not_le] at hf
    obtain ⟨f1, f2, f3⟩ := hf
    have hr := rep_create (N := D.nodes.length) hk.1 hw.fine.nd
    refine valid_dir (l := insE (noName D.names o.2.1) o.2.1 (D.nodes.length : Int)) (valid_new h f1) (by simpa [newD] using hr) ?_ f2
    rw [insE_len]
    cases hn : nodeIn D.names o.2.1 with
    | none => have := f3 hn; have := noName_le D.names o.2.1; omega
    | some n => have := noName_lt hn; have := hw.fine.ln; omega
  split
  · exact h
  next n hn =>
  split
  · split
    · exact h
    split
    · exact h
    next hf =>
    simp only [not_or, Nat.not_lt] at hf
    obtain ⟨k, rfl, hk2, e2⟩ := nd_at hw hn
    have hokn := of_decide_eq_true (n2 k hk2)
    refine valid_put h (decide_eq_true ⟨by simp only [List.length_append]; omega, by rw [e2]; exact hokn.2.1, by rw [e2]; simp only [List.length_append]; have := hokn.2.2; omega⟩) ?_
    have := sumN_set D.nodes k hk2 ((ndAt D (k : Int)).1 ++ o.2.2.2, (ndAt D (k : Int)).2)
    rw [e2] at this hf ⊢
    simp only [List.length_append, Int.toNat_natCast] at this ⊢
    omega
  split
  · obtain ⟨k, rfl, hk2, e2⟩ := nd_at hw hn
    refine valid_put h (decide_eq_true ⟨nd_small hw _, by simp only; omega, by simp only; omega⟩) ?_
    have := sumN_set D.nodes k hk2 ((ndAt D (k : Int)).1, ((ndAt D (k : Int)).1.length : Int))
    rw [e2] at *
    simp only [Int.toNat_natCast] at *
    omega
  split
  · exact h
  next hne =>
  split
  · exact h
  next hp =>
  have hlt := noName_lt hn
  have hln := hw.fine.ln
  by_cases h4 : o.1 = 4
  · have hr := rep_rename (N := (D.nodes.length : Int)) hn (hk.2 h4) (fun e => hne ⟨h4, e⟩)
    simp only [if_pos h4]
    refine valid_dir h (by rw [h4]; exact hr) ?_ (by omega)
    rw [insE_len]
    have := noName_le (noName D.names o.2.1) o.2.2.1
    omega
  · simp only [if_neg h4]
    by_cases h5 : o.1 = 5
    · have hr := rep_remove (N := (D.nodes.length : Int)) hn
      exact valid_dir h (by rw [h5]; exact hr) (by omega) (by omega)
    · omega
theorem doRun_valid : ∀ (ops : List OpV) (D : MDisk), ValidD D → ValidD (doRun D ops).1
  | [], D, h => h
  | o :: r, D, h => by
    unfold doRun
    split
    · exact doRun_valid r _ (doOne_valid o h)
    · exact h
end Go.Proofs.YtpccongphchagaaGreatDoor
namespace Go.Proofs.YtpccongphchagaaGreatDoor
open Go.RowKit
theorem run_enterU (v : Value) (w : World) : (callFunc 51 #[v]).run Tryz.prog w = .ok (.enter 51 #[v]) w := by
  kernel_rfl
theorem run_enterT (v : Value) (w : World) : (callFunc 52 #[v]).run Tryz.prog w = .ok (.enter 52 #[v]) w := by
  kernel_rfl
theorem like_calls {X W : World} {f : FuncId} {args : Array Value} {r : Value} (h : Calls Tryz.prog f args W fun e w' => e = .returned r ∧ Below W.heap.size W w') (e1 : W.heap = X.heap) (e2 : W.os = X.os) (e3 : W.tape = X.tape) (e4 : W.output = X.output) :
    Calls Tryz.prog f args W fun e w' => e = .returned r ∧ Below X.heap.size X w' :=
  h.mono fun e w' ⟨h1, h2⟩ => ⟨h1, (like_below e1 e2 e3 e4).trans (by rw [show X.heap.size = W.heap.size from by rw [e1]]; exact h2)⟩
theorem used_like {X W : World} {v : Value} {D : MDisk} (hW : Wkd D) (hd : DiskAt X v D) (e1 : W.heap = X.heap) (e2 : W.os = X.os) (e3 : W.tape = X.tape) (e4 : W.output = X.output) :
    Calls Tryz.prog 51 #[v] W fun e w' => e = .returned (.int .i64 (usedOf D.nodes D.names : Int)) ∧ Below X.heap.size X w' := like_calls (l1Used_any v D W hW (hd.below (like_below e1 e2 e3 e4))) e1 e2 e3 e4
theorem total_like {X W : World} {v : Value} {D : MDisk} (hW : Wkd D) (hd : DiskAt X v D) (e1 : W.heap = X.heap) (e2 : W.os = X.os) (e3 : W.tape = X.tape) (e4 : W.output = X.output) :
    Calls Tryz.prog 52 #[v] W fun e w' => e = .returned (.int .i64 (sumN D.nodes : Int)) ∧ Below X.heap.size X w' := like_calls (l1Total_any v D W (by have := hW.nn; omega) (by have := hW.sum; omega) (hd.below (like_below e1 e2 e3 e4))) e1 e2 e3 e4
/-- The copy of a row, from a world that is like one that is known. -/
theorem bytes_like {X W : World} {a : Option Addr} {cap : Nat} {l : List Nat} (hl : l.length ≤ 1048576) (hr : RowAt X a l) (e1 : W.heap = X.heap) (e2 : W.os = X.os) (e3 : W.tape = X.tape) (e4 : W.output = X.output) :
    Calls Tryz.prog 47 #[.slice a l.length cap] W fun e w' => ∃ a2 c2, e = .returned (.slice a2 l.length c2) ∧ OwnB w' X.heap.size (.slice a2 l.length c2) l ∧ Below X.heap.size X w' := by
  have h0 := like_below e1 e2 e3 e4
  have hz : X.heap.size = W.heap.size := by rw [e1]
  refine (bytes_w a cap l W hl (hr.below h0)).mono ?_
  rintro e w' ⟨v, rfl, ho, hb⟩
  obtain ⟨a2, c2, rfl⟩ := ho.slice
  rw [← hz] at ho hb
  exact ⟨a2, c2, rfl, ho, h0.trans hb⟩
/-- A row that has grown is put as a node's data. -/
theorem app_put {w wD w9 : World} {base gn n cap k : Nat} {v2 v3 v4 : Value} {D : MDisk} {a9 : Option Addr} {c9 : Nat} {l : List Nat} (hd : Dk wD base (.slice (some ⟨gn, 0, none⟩) n cap) v2 v3 v4 D) (hK : Kep base w wD) (hw : base ≤ w.heap.size) (hl : base ≤ wD.heap.size) (hk : k < D.nodes.length) (b9 : Below wD.heap.size wD w9) (ho : OwnB w9 wD.heap.size (.slice a9 l.length c9) l) :
    Dk (w9.setCell ⟨gn, k * 2, none⟩ (.slice a9 l.length c9)) base (.slice (some ⟨gn, 0, none⟩) n cap) v2 v3 v4 ⟨D.nodes.set k (l, D.nodes[k].2), D.names, D.kept, D.pend, D.quota⟩ ∧ Kep base w (w9.setCell ⟨gn, k * 2, none⟩ (.slice a9 l.length c9)) ∧ (∀ b cs t, Laid wD b cs t → t ≠ 49 → Laid (w9.setCell ⟨gn, k * 2, none⟩ (.slice a9 l.length c9)) b cs t) ∧ w9.frozen? ⟨gn, k * 2, none⟩ = false := by
  have d9 := hd.below b9
  have K9 := hK.trans (Kep.of_below b9 hl)
  have PUT := OwnN.putData d9.n hk (OwnB.mono ho hl)
  obtain ⟨h1, h2, h3⟩ := put_next d9 K9 hw PUT.1 PUT.2
  obtain ⟨g', e, _, hf, _, _⟩ := d9.n.cells (by omega)
  simp only [Option.some.injEq, Addr.mk.injEq, and_true] at e
  subst e
  exact ⟨h1, h2, fun b cs t hL ht => h3 b cs t (hL.below b9 hL.lt) ht, hf _⟩
end Go.Proofs.YtpccongphchagaaGreatDoor
namespace Go.Proofs.YtpccongphchagaaGreatDoor
open Go.RowKit
set_option linter.unusedVariables false
set_option maxRecDepth 20000 in
set_option maxHeartbeats 4000000 in
theorem l1One_sync (base : Nat) (v1 v2 v3 v4 : Value) (D : MDisk) (nm tt : ByteArray) (ad : Option Addr) (data : List Nat) (cd : Nat) (w : World) (hbase : base ≤ w.heap.size) (hW : Wkd D) (hs1 : nm.size ≤ 1048576) (hs2 : tt.size ≤ 1048576) (hdl : data.length ≤ 1048576) (hrow : RowAt w ad data) (hd : Dk w base v1 v2 v3 v4 D) (hok : okName nm = true) :
    Calls Tryz.prog 18 #[.agg #[v1, v2, v3, v4, .int .i64 D.quota], .agg #[.int .i64 3, .string nm, .string tt, .slice ad data.length cd]] w (OnPost base w (doOne D (3, nm, tt, data))) := by
  obtain ⟨a1, c1, rfl⟩ := hd.n.slice
  obtain ⟨a2, c2, rfl⟩ := hd.e.slice
  obtain ⟨a3, c3, rfl⟩ := hd.k.slice
  obtain ⟨a4, c4, rfl⟩ := hd.p.slice
  obtain ⟨L1, L2, L3, hA, hz⟩ := boxes3 w #[.slice a1 D.nodes.length c1, .slice a2 D.names.length c2, .slice a3 D.kept.length c3, .slice a4 D.pend.length c4, .int .i64 D.quota] #[.int .i64 3, .string nm, .string tt, .slice ad data.length cd] #[.slice none 0 0, .slice none 0 0, .slice none 0 0, .slice none 0 0, .int .i64 0] 27 39 27
  have HD := hide (hd.below hA)
  have HRW := hide (hrow.below hA)
  have HA := hide (Kep.of_below hA hbase)
  have HAB := hide hA
  have HW := hide hW
  have hln := hW.fine.ln
  have hnn := hW.nn
  have hnp := hW.np
  have HGW := hide (fun g (hg : (Value.slice a1 D.nodes.length c1).ownBlock = some g) => by obtain ⟨vs, _, hr0, _⟩ := hd.n; exact (own_ge hr0 hg).2)
  clear hd hrow hW hA
  go_enter Tryz.func18, Tryz.ntmps18
  go_upto_region 1 with fail
  generalize ((w.alloc (.cells #[.slice a1 D.nodes.length c1, .slice a2 D.names.length c2, .slice a3 D.kept.length c3, .slice a4 D.pend.length c4, .int .i64 D.quota] 27)).alloc (.cells #[.int .i64 3, .string nm, .string tt, .slice ad data.length cd] 39)).alloc (.cells #[.slice none 0 0, .slice none 0 0, .slice none 0 0, .slice none 0 0, .int .i64 0] 27) = W at L1 L2 L3 HD HRW HA HAB hz ⊢
  have HZ := hide hz
  have q0 : W.cell? ⟨w.heap.size, 0, none⟩ = some (.slice a1 D.nodes.length c1) := L1.cell 0
  have q1 : W.cell? ⟨w.heap.size, 1, none⟩ = some (.slice a2 D.names.length c2) := L1.cell 1
  have q2 : W.cell? ⟨w.heap.size, 2, none⟩ = some (.slice a3 D.kept.length c3) := L1.cell 2
  have q3 : W.cell? ⟨w.heap.size, 3, none⟩ = some (.slice a4 D.pend.length c4) := L1.cell 3
  have q4 : W.cell? ⟨w.heap.size, 4, none⟩ = some (.int .i64 D.quota) := L1.cell 4
  have o0 : W.cell? ⟨w.heap.size + 1, 0, none⟩ = some (.int .i64 3) := L2.cell 0
  have o1 : W.cell? ⟨w.heap.size + 1, 1, none⟩ = some (.string nm) := L2.cell 1
  have o2 : W.cell? ⟨w.heap.size + 1, 2, none⟩ = some (.string tt) := L2.cell 2
  have o3 : W.cell? ⟨w.heap.size + 1, 3, none⟩ = some (.slice ad data.length cd) := L2.cell 3
  have z0 : W.cell? ⟨w.heap.size + 1 + 1, 0, none⟩ = some (.slice none 0 0) := L3.cell 0
  have z1 : W.cell? ⟨w.heap.size + 1 + 1, 1, none⟩ = some (.slice none 0 0) := L3.cell 1
  have z2 : W.cell? ⟨w.heap.size + 1 + 1, 2, none⟩ = some (.slice none 0 0) := L3.cell 2
  have z3 : W.cell? ⟨w.heap.size + 1 + 1, 3, none⟩ = some (.slice none 0 0) := L3.cell 3
  have z4 : W.cell? ⟨w.heap.size + 1 + 1, 4, none⟩ = some (.int .i64 0) := L3.cell 4
  have f0 := frozen_of_row W (w.heap.size + 1 + 1) 0 _ _ L3
  have f1 := frozen_of_row W (w.heap.size + 1 + 1) 1 _ _ L3
  have f2 := frozen_of_row W (w.heap.size + 1 + 1) 2 _ _ L3
  have f3 := frozen_of_row W (w.heap.size + 1 + 1) 3 _ _ L3
  have f4 := frozen_of_row W (w.heap.size + 1 + 1) 4 _ _ L3
  have HL1 := hide L1
  have HL2 := hide L2
  have HL3 := hide L3
  clear L1 L2 L3 hz
  -- what every way without a change ends with
  have END := hide (fun (code : Int) (hR : doOne D (3, nm, tt, data) = (D, code)) => on_end (w := w) (B := w.heap.size + 1 + 1) hR rfl HD.out HL3.out HA.out (by omega) hbase (fun _ => HAB.out))
  have FIND := hide (l1Find_n a2 c2 D.names nm W (by omega) HD.out.e.at)
  have GN := hide (l1GoodName_any nm W (by omega))
  rw [hok] at GN
  have HOK := hide hok
  clear hok
  have HNM := hide (show nmOk (3, nm, tt, data) from ⟨HOK.out, fun e => absurd e (by simp)⟩)
  go_wp2_with fail
  refine GN.out.mono ?_
  rintro e w2 ⟨rfl, hw2⟩
  have hw2' := hw2.symm
  subst hw2'
  clear GN
  go_wp2_with fail
  refine FIND.out.mono ?_
  rintro e w2 ⟨hfd, hw2⟩
  have hw2' := hw2.symm
  subst hw2'
  clear FIND
  rcases hfd with ⟨i, nd, hi, hin, hcell, rfl⟩ | ⟨hno, rfl⟩
  case inr =>
    have HNO := hide hno
    clear hno
    go_wp2
    exact bodyPost_ret (ret_one (w.heap.size + 1 + 1) _ _ _ _ _ _ _ rfl rfl rfl (set_disk _ _ _ _ _ HL3.out)) rfl (END.out 4 (one_missing (by simp) (by simp) HNM.out HNO.out))
  obtain ⟨k, rfl, hk, hnda⟩ := nd_at HW.out hin
  obtain ⟨be, oe, rfl, -⟩ := HD.out.e.at (by omega)
  have x1 := hcell be oe rfl
  obtain ⟨gn, rfl, hgb, hgf, hgk, hgc⟩ := HD.out.n.cells (by omega)
  obtain ⟨ai, ci, x2, x3, hbo⟩ := hgc k hk
  have HIN := hide hin
  have HNDA := hide hnda
  have HBO := hide hbo
  have hgw : gn < w.heap.size := HGW.out gn rfl
  clear hcell hgc hin hnda hbo hgk
  have hfz := hgf (k * 2 + 1)
  have hne1 : ¬ gn = w.heap.size := by omega
  have hne2 : ¬ gn = w.heap.size + 1 := by omega
  have hne3 : ¬ gn = w.heap.size + 1 + 1 := by omega
  have hne1' : ¬ w.heap.size = gn := by omega
  have hne2' : ¬ w.heap.size + 1 = gn := by omega
  have hne3' : ¬ w.heap.size + 1 + 1 = gn := by omega
  have PUT := OwnN.putSafe (z := (D.nodes[k].1.length : Int)) HD.out.n hk
  have NX := hide (put_next HD.out HA.out hbase PUT.1 PUT.2)
  have L3' := NX.out.2.2 _ _ _ HL3.out (by decide)
  have HL := hide L3'
  have HR := hide (show doOne D (3, nm, tt, data) = (putD D (k : Int) (D.nodes[k].1, (D.nodes[k].1.length : Int)), 0) from by
    rw [one_there (by simp) (by simp) HNM.out HIN.out, HNDA.out]
    rfl)
  clear PUT L3' hgf
  generalize D.nodes[k].1.length = ln at x2 NX HL HR HBO
  go_wp2
  exact bodyPost_ret (ret_one (w.heap.size + 1 + 1) _ _ _ _ _ _ _ rfl rfl rfl (set_disk _ _ _ _ _ HL.out)) rfl (on_end (w := w) HR.out rfl NX.out.1 HL.out NX.out.2.1 (by omega) hbase (fun h => absurd rfl h))
end Go.Proofs.YtpccongphchagaaGreatDoor
namespace Go.Proofs.YtpccongphchagaaGreatDoor
open Go.RowKit
set_option linter.unusedVariables false
set_option maxRecDepth 20000 in
set_option maxHeartbeats 4000000 in
theorem l1One_ren (base : Nat) (v1 v2 v3 v4 : Value) (D : MDisk) (nm tt : ByteArray) (ad : Option Addr) (data : List Nat) (cd : Nat) (w : World) (hbase : base ≤ w.heap.size) (hW : Wkd D) (hs1 : nm.size ≤ 1048576) (hs2 : tt.size ≤ 1048576) (hdl : data.length ≤ 1048576) (hrow : RowAt w ad data) (hd : Dk w base v1 v2 v3 v4 D) (hok : okName nm = true) :
    Calls Tryz.prog 18 #[.agg #[v1, v2, v3, v4, .int .i64 D.quota], .agg #[.int .i64 4, .string nm, .string tt, .slice ad data.length cd]] w (OnPost base w (doOne D (4, nm, tt, data))) := by
  obtain ⟨a1, c1, rfl⟩ := hd.n.slice
  obtain ⟨a2, c2, rfl⟩ := hd.e.slice
  obtain ⟨a3, c3, rfl⟩ := hd.k.slice
  obtain ⟨a4, c4, rfl⟩ := hd.p.slice
  obtain ⟨L1, L2, L3, hA, hz⟩ := boxes3 w #[.slice a1 D.nodes.length c1, .slice a2 D.names.length c2, .slice a3 D.kept.length c3, .slice a4 D.pend.length c4, .int .i64 D.quota] #[.int .i64 4, .string nm, .string tt, .slice ad data.length cd] #[.slice none 0 0, .slice none 0 0, .slice none 0 0, .slice none 0 0, .int .i64 0] 27 39 27
  have HD := hide (hd.below hA)
  have HRW := hide (hrow.below hA)
  have HA := hide (Kep.of_below hA hbase)
  have HAB := hide hA
  have HW := hide hW
  have hln := hW.fine.ln
  have hnn := hW.nn
  have hnp := hW.np
  have HGW := hide (fun g (hg : (Value.slice a1 D.nodes.length c1).ownBlock = some g) => by obtain ⟨vs, _, hr0, _⟩ := hd.n; exact (own_ge hr0 hg).2)
  clear hd hrow hW hA
  go_enter Tryz.func18, Tryz.ntmps18
  go_upto_region 1 with fail
  generalize ((w.alloc (.cells #[.slice a1 D.nodes.length c1, .slice a2 D.names.length c2, .slice a3 D.kept.length c3, .slice a4 D.pend.length c4, .int .i64 D.quota] 27)).alloc (.cells #[.int .i64 4, .string nm, .string tt, .slice ad data.length cd] 39)).alloc (.cells #[.slice none 0 0, .slice none 0 0, .slice none 0 0, .slice none 0 0, .int .i64 0] 27) = W at L1 L2 L3 HD HRW HA HAB hz ⊢
  have HZ := hide hz
  have q0 : W.cell? ⟨w.heap.size, 0, none⟩ = some (.slice a1 D.nodes.length c1) := L1.cell 0
  have q1 : W.cell? ⟨w.heap.size, 1, none⟩ = some (.slice a2 D.names.length c2) := L1.cell 1
  have q2 : W.cell? ⟨w.heap.size, 2, none⟩ = some (.slice a3 D.kept.length c3) := L1.cell 2
  have q3 : W.cell? ⟨w.heap.size, 3, none⟩ = some (.slice a4 D.pend.length c4) := L1.cell 3
  have q4 : W.cell? ⟨w.heap.size, 4, none⟩ = some (.int .i64 D.quota) := L1.cell 4
  have o0 : W.cell? ⟨w.heap.size + 1, 0, none⟩ = some (.int .i64 4) := L2.cell 0
  have o1 : W.cell? ⟨w.heap.size + 1, 1, none⟩ = some (.string nm) := L2.cell 1
  have o2 : W.cell? ⟨w.heap.size + 1, 2, none⟩ = some (.string tt) := L2.cell 2
  have o3 : W.cell? ⟨w.heap.size + 1, 3, none⟩ = some (.slice ad data.length cd) := L2.cell 3
  have z0 : W.cell? ⟨w.heap.size + 1 + 1, 0, none⟩ = some (.slice none 0 0) := L3.cell 0
  have z1 : W.cell? ⟨w.heap.size + 1 + 1, 1, none⟩ = some (.slice none 0 0) := L3.cell 1
  have z2 : W.cell? ⟨w.heap.size + 1 + 1, 2, none⟩ = some (.slice none 0 0) := L3.cell 2
  have z3 : W.cell? ⟨w.heap.size + 1 + 1, 3, none⟩ = some (.slice none 0 0) := L3.cell 3
  have z4 : W.cell? ⟨w.heap.size + 1 + 1, 4, none⟩ = some (.int .i64 0) := L3.cell 4
  have f0 := frozen_of_row W (w.heap.size + 1 + 1) 0 _ _ L3
  have f1 := frozen_of_row W (w.heap.size + 1 + 1) 1 _ _ L3
  have f2 := frozen_of_row W (w.heap.size + 1 + 1) 2 _ _ L3
  have f3 := frozen_of_row W (w.heap.size + 1 + 1) 3 _ _ L3
  have f4 := frozen_of_row W (w.heap.size + 1 + 1) 4 _ _ L3
  have HL1 := hide L1
  have HL2 := hide L2
  have HL3 := hide L3
  clear L1 L2 L3 hz
  -- what every way without a change ends with
  have END := hide (fun (code : Int) (hR : doOne D (4, nm, tt, data) = (D, code)) => on_end (w := w) (B := w.heap.size + 1 + 1) hR rfl HD.out HL3.out HA.out (by omega) hbase (fun _ => HAB.out))
  have FIND := hide (l1Find_n a2 c2 D.names nm W (by omega) HD.out.e.at)
  have GN := hide (l1GoodName_any nm W (by omega))
  rw [hok] at GN
  have HOK := hide hok
  clear hok
  have GT := hide (l1GoodName_any tt W (by omega))
  go_wp2_with fail
  refine GN.out.mono ?_
  rintro e w2 ⟨rfl, hw2⟩
  have hw2' := hw2.symm
  subst hw2'
  clear GN
  go_wp2_with fail
  refine GT.out.mono ?_
  rintro e w2 ⟨rfl, hw2⟩
  have hw2' := hw2.symm
  subst hw2'
  clear GT
  cases hot : okName tt with
  | false =>
    go_wp2
    exact bodyPost_ret (ret_one (w.heap.size + 1 + 1) _ _ _ _ _ _ _ rfl rfl rfl (set_disk _ _ _ _ _ HL3.out)) rfl (END.out 3 (one_name (by simp) (by simp) (.inr ⟨rfl, hot⟩)))
  | true =>
  have HOT := hide hot
  clear hot
  have HNM := hide (show nmOk (4, nm, tt, data) from ⟨HOK.out, fun _ => HOT.out⟩)
  go_wp2_with fail
  refine FIND.out.mono ?_
  rintro e w2 ⟨hfd, hw2⟩
  have hw2' := hw2.symm
  subst hw2'
  clear FIND
  rcases hfd with ⟨i, nd, hi, hin, hcell, rfl⟩ | ⟨hno, rfl⟩
  case inr =>
    have HNO := hide hno
    clear hno
    go_wp2
    exact bodyPost_ret (ret_one (w.heap.size + 1 + 1) _ _ _ _ _ _ _ rfl rfl rfl (set_disk _ _ _ _ _ HL3.out)) rfl (END.out 4 (one_missing (by simp) (by simp) HNM.out HNO.out))
  obtain ⟨k, rfl, hk, hnda⟩ := nd_at HW.out hin
  obtain ⟨be, oe, rfl, -⟩ := HD.out.e.at (by omega)
  have x1 := hcell be oe rfl
  obtain ⟨gn, rfl, hgb, hgf, hgk, hgc⟩ := HD.out.n.cells (by omega)
  obtain ⟨ai, ci, x2, x3, hbo⟩ := hgc k hk
  have HIN := hide hin
  have HNDA := hide hnda
  have HBO := hide hbo
  have hgw : gn < w.heap.size := HGW.out gn rfl
  clear hcell hgc hin hnda hbo hgk
  by_cases hse : tt = nm
  · have HR := hide (show doOne D (4, nm, tt, data) = (D, 0) from by
      rw [one_there (by simp) (by simp) HNM.out HIN.out]
      rw [if_neg (by simp), if_neg (by simp), if_pos ⟨rfl, hse⟩])
    have hbe := beq_of_eq hse
    clear hse
    go_wp2
    exact bodyPost_ret (ret_one (w.heap.size + 1 + 1) _ _ _ _ _ _ _ rfl rfl rfl (set_disk _ _ _ _ _ HL3.out)) rfl (END.out 0 HR.out)
  have hbe := beq_of_ne hse
  have HSE := hide hse
  clear hse
  by_cases FP : 1000 ≤ D.pend.length
  · have HR := hide (show doOne D (4, nm, tt, data) = (D, 6) from by
      rw [one_there (by simp) (by simp) HNM.out HIN.out]
      rw [if_neg (by simp), if_neg (by simp), if_neg (fun h => HSE.out h.2)]
      rw [if_pos FP])
    go_wp2
    exact bodyPost_ret (ret_one (w.heap.size + 1 + 1) _ _ _ _ _ _ _ rfl rfl rfl (set_disk _ _ _ _ _ HL3.out)) rfl (END.out 6 HR.out)
  have HR := hide (show doOne D (4, nm, tt, data) = (dirD D (4, nm, tt, 0), 0) from by
    rw [one_there (by simp) (by simp) HNM.out HIN.out]
    rw [if_neg (by simp), if_neg (by simp), if_neg (fun h => HSE.out h.2)]
    rw [if_neg FP]
    rfl)
  have hal := (Below.refl W.heap.size W).alloc (Nat.le_refl _) (.cells #[.int .i64 4, .string nm, .string tt, .int .i64 0] 68)
  have hlow : base ≤ W.heap.size := by have := HZ.out; omega
  have DIR := hide (l1Dir_any base _ _ _ _ D 4 nm tt 0 _ (W.alloc (.cells #[.int .i64 4, .string nm, .string tt, .int .i64 0] 68)) (by simp; omega) (by omega) (by omega) hs1 hs2 (rep_rename HIN.out HOT.out HSE.out) (HD.out.below hal))
  have HKX := hide (HA.out.trans (Kep.of_below hal hlow))
  have M3 := hide (HL3.out.below hal HL3.out.lt)
  have M1 := HL1.out.below hal HL1.out.lt
  have r0 : (W.alloc (.cells #[.int .i64 4, .string nm, .string tt, .int .i64 0] 68)).cell? ⟨w.heap.size, 0, none⟩ = some (.slice (some ⟨gn, 0, none⟩) D.nodes.length c1) := M1.cell 0
  have r1 : (W.alloc (.cells #[.int .i64 4, .string nm, .string tt, .int .i64 0] 68)).cell? ⟨w.heap.size, 1, none⟩ = some (.slice (some ⟨be, oe, none⟩) D.names.length c2) := M1.cell 1
  have r2 : (W.alloc (.cells #[.int .i64 4, .string nm, .string tt, .int .i64 0] 68)).cell? ⟨w.heap.size, 2, none⟩ = some (.slice a3 D.kept.length c3) := M1.cell 2
  have r3 : (W.alloc (.cells #[.int .i64 4, .string nm, .string tt, .int .i64 0] 68)).cell? ⟨w.heap.size, 3, none⟩ = some (.slice a4 D.pend.length c4) := M1.cell 3
  have r4 : (W.alloc (.cells #[.int .i64 4, .string nm, .string tt, .int .i64 0] 68)).cell? ⟨w.heap.size, 4, none⟩ = some (.int .i64 D.quota) := M1.cell 4
  have M2 := HL2.out.below hal HL2.out.lt
  have s0 : (W.alloc (.cells #[.int .i64 4, .string nm, .string tt, .int .i64 0] 68)).cell? ⟨w.heap.size + 1, 0, none⟩ = some (.int .i64 4) := M2.cell 0
  have s2 : (W.alloc (.cells #[.int .i64 4, .string nm, .string tt, .int .i64 0] 68)).cell? ⟨w.heap.size + 1, 2, none⟩ = some (.string tt) := M2.cell 2
  have hal0 := (Below.refl W.heap.size W).alloc (Nat.le_refl _) (.cells #[.int .i64 4, .string nm, .string ⟨#[]⟩, .int .i64 0] 68)
  have M20 := HL2.out.below hal0 HL2.out.lt
  have s0a : (W.alloc (.cells #[.int .i64 4, .string nm, .string ⟨#[]⟩, .int .i64 0] 68)).cell? ⟨w.heap.size + 1, 0, none⟩ = some (.int .i64 4) := M20.cell 0
  have s2a : (W.alloc (.cells #[.int .i64 4, .string nm, .string ⟨#[]⟩, .int .i64 0] 68)).cell? ⟨w.heap.size + 1, 2, none⟩ = some (.string tt) := M20.cell 2
  clear M20 hal0
  clear M1 M2 hal
  go_wp2_with fail
  refine DIR.out.mono ?_
  rintro e w7 ⟨y1, y2, y3, y4, rfl, hd7, hk7⟩
  obtain ⟨b1, d1, rfl⟩ := hd7.n.slice
  obtain ⟨b2, d2, rfl⟩ := hd7.e.slice
  obtain ⟨b3, d3, rfl⟩ := hd7.k.slice
  obtain ⟨b4, d4, rfl⟩ := hd7.p.slice
  have L3 := hk7.laid M3.out (by decide) (by decide)
  have k0 : w7.cell? ⟨w.heap.size + 1 + 1, 0, none⟩ = some (.slice none 0 0) := L3.cell 0
  have g0 := frozen_of_row w7 (w.heap.size + 1 + 1) 0 _ _ L3
  have k1 : w7.cell? ⟨w.heap.size + 1 + 1, 1, none⟩ = some (.slice none 0 0) := L3.cell 1
  have g1 := frozen_of_row w7 (w.heap.size + 1 + 1) 1 _ _ L3
  have k2 : w7.cell? ⟨w.heap.size + 1 + 1, 2, none⟩ = some (.slice none 0 0) := L3.cell 2
  have g2 := frozen_of_row w7 (w.heap.size + 1 + 1) 2 _ _ L3
  have k3 : w7.cell? ⟨w.heap.size + 1 + 1, 3, none⟩ = some (.slice none 0 0) := L3.cell 3
  have g3 := frozen_of_row w7 (w.heap.size + 1 + 1) 3 _ _ L3
  have k4 : w7.cell? ⟨w.heap.size + 1 + 1, 4, none⟩ = some (.int .i64 0) := L3.cell 4
  have g4 := frozen_of_row w7 (w.heap.size + 1 + 1) 4 _ _ L3
  have HL := hide L3
  have HD7 := hide hd7
  have HK7 := hide (HKX.out.trans hk7)
  clear hd7 hk7 L3 DIR z0 z1 z2 z3 z4 f0 f1 f2 f3 f4 q0 q1 q2 q3 q4 o0 o1 o2 o3
  go_wp2
  exact bodyPost_ret (ret_one (w.heap.size + 1 + 1) _ _ _ _ _ _ _ rfl rfl rfl (set_disk _ _ _ _ _ HL.out)) rfl (on_end (w := w) HR.out rfl HD7.out HL.out HK7.out (by omega) hbase (fun h => absurd rfl h))
end Go.Proofs.YtpccongphchagaaGreatDoor
