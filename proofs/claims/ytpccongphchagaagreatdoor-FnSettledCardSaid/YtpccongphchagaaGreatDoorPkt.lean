import Derived.Test.YtpccongphchagaaGreatDoorPks
namespace Go.Proofs.YtpccongphchagaaGreatDoor
open Go.RowKit
/-- An operation: kind, name, other name, data. -/
abbrev OpV := Int × ByteArray × ByteArray × List Nat
def noStr : ByteArray := ⟨#[]⟩
/-- The node of a number. -/
def ndAt (D : MDisk) (n : Int) : NdM := D.nodes.getD n.toNat ([], 0)
def usedOf (ns : List NdM) : List EN → Nat
  | [] => 0
  | e :: r => (nodeOf ns e).1.length + usedOf ns r
def settleD (D : MDisk) : MDisk := ⟨D.names.map (nodeOf D.nodes), outE D.names D.names.length, outE D.names D.names.length, [], D.quota⟩
def dirD (D : MDisk) (o : DO) : MDisk := ⟨D.nodes, (repE (D.nodes.length : Int) D.names o).getD [], D.kept, D.pend ++ [o], D.quota⟩
def newD (D : MDisk) : MDisk := ⟨D.nodes ++ [([], 0)], D.names, D.kept, D.pend, D.quota⟩
def putD (D : MDisk) (n : Int) (x : NdM) : MDisk := ⟨D.nodes.set n.toNat x, D.names, D.kept, D.pend, D.quota⟩
/-- One operation: the disk behind it, and its code. -/
def doOne (D : MDisk) (o : OpV) : MDisk × Int :=
  if o.1 < 1 ∨ 6 < o.1 then (D, 2)
  else if o.1 = 6 then (settleD D, 0)
  else if okName o.2.1 = false ∨ (o.1 = 4 ∧ okName o.2.2.1 = false) then (D, 3)
  else if o.1 = 1 then
    if 600 ≤ D.nodes.length ∨ 1000 ≤ D.pend.length ∨ (nodeIn D.names o.2.1 = none ∧ 300 ≤ D.names.length) then (D, 6)
    else (dirD (newD D) (1, o.2.1, noStr, (D.nodes.length : Int)), 0)
  else match nodeIn D.names o.2.1 with
    | none => (D, 4)
    | some n =>
      if o.1 = 2 then
        if D.quota < (usedOf D.nodes D.names : Int) + (o.2.2.2.length : Int) then (D, 5)
        else if 40000 < (ndAt D n).1.length + o.2.2.2.length ∨ 200000 < sumN D.nodes + o.2.2.2.length then (D, 6)
        else (putD D n ((ndAt D n).1 ++ o.2.2.2, (ndAt D n).2), 0)
      else if o.1 = 3 then (putD D n ((ndAt D n).1, ((ndAt D n).1.length : Int)), 0)
      else if o.1 = 4 ∧ o.2.2.1 = o.2.1 then (D, 0)
      else if 1000 ≤ D.pend.length then (D, 6)
      else (dirD D (o.1, o.2.1, if o.1 = 4 then o.2.2.1 else noStr, 0), 0)
/-- All operations, until one fails: the disk, how many were done, the code. -/
def doRun : MDisk → List OpV → MDisk × Nat × Int
  | D, [] => (D, 0, 0)
  | D, o :: r => if (doOne D o).2 = 0 then ((doRun (doOne D o).1 r).1, (doRun (doOne D o).1 r).2.1 + 1, (doRun (doOne D o).1 r).2.2) else (D, 0, (doOne D o).2)
/-- What a disk at work keeps. -/
structure Wkd (D : MDisk) : Prop where
  fine : Fine (D.nodes.length : Int) D.names
  nn : D.nodes.length ≤ 600
  np : D.pend.length ≤ 1000
  nk : D.kept.length ≤ 300
  data : ∀ e ∈ D.nodes, e.1.length ≤ 40000
  sum : sumN D.nodes ≤ 200000
  q0 : 0 ≤ D.quota
  q1 : D.quota ≤ 1000000
theorem wkd_of {D : MDisk} (hV : ValidD D) (hM : Modest D) : Wkd D := by
  obtain ⟨h1, h2, h3, h4, h5, h6, h7⟩ := hV
  obtain ⟨k1, k2, k3, k4⟩ := okList_apart h5
  obtain ⟨_, _, m3, _⟩ := okList_apart h6
  obtain ⟨n1, n2, n3⟩ := of_decide_eq_true h4
  refine ⟨⟨k1, k2, k3, hM.s2, k4⟩, n1, h3, m3, fun e he => ?_, n3, h1, h2⟩
  obtain ⟨i, hi, rfl⟩ := List.getElem_of_mem he
  exact (of_decide_eq_true (n2 i hi)).1
theorem sumN_set : ∀ (ns : List NdM) (i : Nat) (h : i < ns.length) (x : NdM), sumN (ns.set i x) + ns[i].1.length = sumN ns + x.1.length
  | [], _, h, _ => by simp at h
  | y :: r, 0, _, x => by simp only [List.set_cons_zero, List.getElem_cons_zero, sumN]; omega
  | y :: r, i + 1, h, x => by
    have := sumN_set r i (by simpa using h) x
    simp only [List.set_cons_succ, List.getElem_cons_succ, sumN]
    omega
theorem used_set (ns : List NdM) (i : Nat) (x : NdM) : ∀ (es : List EN), (∀ e ∈ es, 0 ≤ e.2 ∧ e.2 ≠ (i : Int)) → usedOf (ns.set i x) es = usedOf ns es
  | [], _ => rfl
  | e :: r, h => by
    have h1 := h e (List.mem_cons_self ..)
    have hn : nodeOf (ns.set i x) e = nodeOf ns e := by
      unfold nodeOf
      rw [List.getD_eq_getElem?_getD, List.getD_eq_getElem?_getD, List.getElem?_set_ne (by omega)]
    simp only [usedOf, hn, used_set ns i x r (fun e he => h e (List.mem_cons_of_mem _ he))]
theorem used_le : ∀ (es : List EN) (ns : List NdM), Apart es → (∀ e ∈ es, 0 ≤ e.2 ∧ e.2 < (ns.length : Int)) → usedOf ns es ≤ sumN ns
  | [], ns, _, _ => by simp [usedOf]
  | e :: r, ns, ha, hn => by
    have h1 := hn e (List.mem_cons_self ..)
    obtain ⟨a1, a2⟩ := List.pairwise_cons.1 ha
    have hi : e.2.toNat < ns.length := by omega
    have hs := sumN_set ns e.2.toNat hi ([], 0)
    have hu := used_set ns e.2.toNat ([], 0) r (fun x hx => ⟨(hn x (List.mem_cons_of_mem _ hx)).1, fun e1 => (a1 x hx).2 (by omega)⟩)
    have hr := used_le r (ns.set e.2.toNat ([], 0)) a2 (fun x hx => by have := hn x (List.mem_cons_of_mem _ hx); simpa using this)
    have hd : nodeOf ns e = ns[e.2.toNat] := by
      unfold nodeOf
      rw [List.getD_eq_getElem?_getD, List.getElem?_eq_getElem hi]
      rfl
    simp only [usedOf, hd]
    simp at hs
    omega
theorem sumN_map (ns : List NdM) : ∀ (es : List EN), sumN (es.map (nodeOf ns)) = usedOf ns es
  | [] => rfl
  | e :: r => by simp only [List.map_cons, sumN, usedOf, sumN_map ns r]
theorem noName_le (es : List EN) (nm : ByteArray) : (noName es nm).length ≤ es.length := List.length_filter_le _ _
theorem noName_lt {es : List EN} {nm : ByteArray} {n : Int} (h : nodeIn es nm = some n) : (noName es nm).length < es.length := by
  refine List.length_filter_lt_length_iff_exists.2 ⟨_, nodeIn_of h, ?_⟩
  simp
theorem rep_create {N : Nat} {es : List EN} {nm : ByteArray} (ho : okName nm = true) (hn : ∀ e ∈ es, 0 ≤ e.2 ∧ e.2 < (N : Int)) : repE ((N + 1 : Nat) : Int) es (1, nm, noStr, (N : Int)) = some (insE (noName es nm) nm (N : Int)) := by
  rw [rep1, if_pos]
  refine ⟨ho, by simp [noStr, bytes_toList], by omega, by omega, fun e he => ?_⟩
  have := hn e he
  omega
theorem rep_rename {N : Int} {es : List EN} {nm tn : ByteArray} {m : Int} (h : nodeIn es nm = some m) (ho : okName tn = true) (hne : tn ≠ nm) : repE N es (4, nm, tn, 0) = some (insE (noName (noName es nm) tn) tn m) := by
  rw [rep4, h]
  simp [ho, hne]
theorem rep_remove {N : Int} {es : List EN} {nm : ByteArray} {m : Int} (h : nodeIn es nm = some m) : repE N es (5, nm, noStr, 0) = some (noName es nm) := by
  rw [rep5, h]
  simp [noStr, bytes_toList]
theorem okName_size {nm : ByteArray} (h : okName nm = true) : nm.size ≤ 1048576 := by
  have := (of_decide_eq_true h).2.1
  omega
theorem Fine.grow {N : Int} {l : List EN} (h : Fine N l) : Fine (N + 1) l := ⟨h.ap, h.so, h.ln, h.sz, fun e he => by have := h.nd e he; omega⟩
theorem Fine.rep {N : Int} {l l' : List EN} {o : DO} (h : Fine N l) (hr : repE N l o = some l') (h1 : o.2.1.size ≤ 1048576) (h2 : o.2.2.1.size ≤ 1048576) (hl : l'.length ≤ 300) : Fine N l' :=
  ⟨rep_good h.ap hr, rep_sorted h.so hr, hl, mem_size hr h.sz h1 h2, mem_node hr h.nd⟩
theorem dirD_wkd {D : MDisk} {o : DO} {l : List EN} (h : Wkd D) (hr : repE (D.nodes.length : Int) D.names o = some l) (h1 : o.2.1.size ≤ 1048576) (h2 : o.2.2.1.size ≤ 1048576) (hl : l.length ≤ 300) (hp : D.pend.length < 1000) : Wkd (dirD D o) := by
  refine ⟨?_, h.nn, by simp [dirD]; omega, h.nk, h.data, h.sum, h.q0, h.q1⟩
  show Fine (D.nodes.length : Int) ((repE (D.nodes.length : Int) D.names o).getD [])
  rw [hr]
  exact h.fine.rep hr h1 h2 hl
theorem newD_wkd {D : MDisk} (h : Wkd D) (hn : D.nodes.length < 600) : Wkd (newD D) := by
  refine ⟨?_, by simp [newD]; omega, h.np, h.nk, fun e he => ?_, by simpa [newD, sumN_append, sumN] using h.sum, h.q0, h.q1⟩
  · have := h.fine.grow
    simpa [newD] using this
  · rcases List.mem_append.1 he with he | he
    · exact h.data e he
    · obtain rfl := List.mem_singleton.1 he
      simp
theorem putD_wkd {D : MDisk} {n : Int} {x : NdM} (h : Wkd D) (hx : x.1.length ≤ 40000) (hs : sumN (D.nodes.set n.toNat x) ≤ 200000) : Wkd (putD D n x) := by
  refine ⟨by simpa [putD] using h.fine, by simpa [putD] using h.nn, h.np, h.nk, fun e he => ?_, hs, h.q0, h.q1⟩
  rcases List.mem_or_eq_of_mem_set he with he | rfl
  · exact h.data e he
  · exact hx
theorem nd_small {D : MDisk} (h : Wkd D) (n : Nat) : (D.nodes.getD n ([], 0)).1.length ≤ 40000 := by
  by_cases hn : n < D.nodes.length
  · simp only [List.getD, List.getElem?_eq_getElem hn, Option.getD_some]
    exact h.data _ (List.getElem_mem hn)
  · simp [List.getD, List.getElem?_eq_none (by omega : D.nodes.length ≤ n)]
theorem outE_at (es : List EN) (i : Nat) (h : i < (outE es es.length).length) : (outE es es.length)[i] = ((es.getD i (ByteArray.empty, 0)).1, (i : Int)) := by simp [outE]
theorem outE_fst (es : List EN) : (outE es es.length).map (·.1) = es.map (·.1) := by
  apply List.ext_getElem
  · simp [outE]
  · intro i h1 h2
    have : i < es.length := by simpa using h2
    simp [outE, List.getD, this]
theorem outE_fine {N : Int} {es : List EN} (h : Fine N es) : Fine (es.length : Int) (outE es es.length) := by
  have hf := outE_fst es
  refine ⟨?_, ?_, by simpa [outE] using h.ln, fun e he => ?_, fun e he => ?_⟩
  · rw [Apart, List.pairwise_iff_getElem]
    intro i j hi hj hij
    have h1 : i < es.length := by simpa [outE] using hi
    have h2 : j < es.length := by simpa [outE] using hj
    rw [outE_at _ i hi, outE_at _ j hj]
    simp only [List.getD, List.getElem?_eq_getElem h1, List.getElem?_eq_getElem h2, Option.getD_some]
    exact ⟨(List.pairwise_iff_getElem.1 h.ap i j h1 h2 hij).1, by omega⟩
  · rw [Sorted, List.pairwise_iff_getElem]
    intro i j hi hj hij
    have h1 : i < es.length := by simpa [outE] using hi
    have h2 : j < es.length := by simpa [outE] using hj
    rw [outE_at _ i hi, outE_at _ j hj]
    simp only [List.getD, List.getElem?_eq_getElem h1, List.getElem?_eq_getElem h2, Option.getD_some]
    exact List.pairwise_iff_getElem.1 h.so i j h1 h2 hij
  · have : e.1 ∈ es.map (·.1) := by rw [← hf]; exact List.mem_map_of_mem he
    obtain ⟨x, hx, hx2⟩ := List.mem_map.1 this
    rw [← hx2]
    exact h.sz x hx
  · obtain ⟨i, hi, rfl⟩ := List.getElem_of_mem he
    have h1 : i < es.length := by simpa [outE] using hi
    rw [outE_at _ i hi]
    exact ⟨by omega, by simp; omega⟩
theorem settleD_wkd {D : MDisk} (h : Wkd D) : Wkd (settleD D) := by
  have hl := h.fine.ln
  refine ⟨?_, by simp [settleD]; omega, by simp [settleD], by simp [settleD, outE_length]; omega, fun e he => ?_, by simp only [settleD, sumN_map]; have := used_le _ _ h.fine.ap h.fine.nd; have := h.sum; omega, h.q0, h.q1⟩
  · have := outE_fine h.fine
    simpa [settleD] using this
  · obtain ⟨x, _, rfl⟩ := List.mem_map.1 he
    exact nd_small h _
theorem nd_at {D : MDisk} {nm : ByteArray} {n : Int} (h : Wkd D) (hn : nodeIn D.names nm = some n) : ∃ k : Nat, n = (k : Int) ∧ ∃ hk : k < D.nodes.length, ndAt D n = D.nodes[k] := by
  have h1 := h.fine.nd _ (nodeIn_of hn)
  refine ⟨n.toNat, by simp only at h1; omega, by simp only at h1; omega, ?_⟩
  have hi : n.toNat < D.nodes.length := by simp only at h1; omega
  unfold ndAt
  rw [List.getD_eq_getElem?_getD, List.getElem?_eq_getElem hi]
  rfl
theorem doOne_wkd {D : MDisk} (o : OpV) (h : Wkd D) : Wkd (doOne D o).1 := by
  unfold doOne
  split
  · exact h
  split
  · exact settleD_wkd h
  split
  · exact h
  next hk =>
  simp only [not_or, not_and, Bool.not_eq_false] at hk
  split
  · split
    · exact h
    next hf =>
    simp only [not_or, not_and, Nat.not_le] at hf
    obtain ⟨f1, f2, f3⟩ := hf
    have hr := rep_create (N := D.nodes.length) hk.1 h.fine.nd
    refine dirD_wkd (l := insE (noName D.names o.2.1) o.2.1 (D.nodes.length : Int)) (newD_wkd h f1) (by simpa [newD] using hr) (okName_size hk.1) (by simp [noStr, ByteArray.size]) ?_ f2
    rw [insE_len]
    cases hn : nodeIn D.names o.2.1 with
    | none => have := f3 hn; have := noName_le D.names o.2.1; omega
    | some n => have := noName_lt hn; have := h.fine.ln; omega
  split
  · exact h
  next n hn =>
  split
  · split
    · exact h
    split
    · exact h
    next hf =>
    simp only [not_or, Nat.not_lt] at hf
    obtain ⟨k, rfl, hk2, e2⟩ := nd_at h hn
    refine putD_wkd h (by simp only [List.length_append]; omega) ?_
    have := sumN_set D.nodes k hk2 ((ndAt D (k : Int)).1 ++ o.2.2.2, (ndAt D (k : Int)).2)
    rw [e2] at this hf ⊢
    simp only [List.length_append, Int.toNat_natCast] at this ⊢
    omega
  split
  · obtain ⟨k, rfl, hk2, e2⟩ := nd_at h hn
    refine putD_wkd h (nd_small h _) ?_
    have := sumN_set D.nodes k hk2 ((ndAt D (k : Int)).1, ((ndAt D (k : Int)).1.length : Int))
    have := h.sum
    rw [e2] at *
    simp only [Int.toNat_natCast] at *
    omega
  split
  · exact h
  next hne =>
  split
  · exact h
  next hp =>
  have hlt := noName_lt hn
  have hln := h.fine.ln
  by_cases h4 : o.1 = 4
  · have hr := rep_rename (N := (D.nodes.length : Int)) hn (hk.2 h4) (fun e => hne ⟨h4, e⟩)
    simp only [if_pos h4]
    refine dirD_wkd h (by rw [h4]; exact hr) (okName_size hk.1) (okName_size (hk.2 h4)) ?_ (by omega)
    rw [insE_len]
    have := noName_le (noName D.names o.2.1) o.2.2.1
    omega
  · simp only [if_neg h4]
    by_cases h5 : o.1 = 5
    · have hr := rep_remove (N := (D.nodes.length : Int)) hn
      exact dirD_wkd h (by rw [h5]; exact hr) (okName_size hk.1) (by simp [noStr, ByteArray.size]) (by omega) (by omega)
    · omega
end Go.Proofs.YtpccongphchagaaGreatDoor
namespace Go.Proofs.YtpccongphchagaaGreatDoor
open Go.RowKit
theorem two_put0 (l : List (Value × Value)) (i : Nat) (u : Value) (h : i < l.length) : (two l).set (i * 2) u = two (l.set i (u, l[i].2)) := by
  induction l generalizing i with
  | nil => simp at h
  | cons p l ih =>
    cases i with
    | zero => simp [two_cons]
    | succ i =>
      rw [two_cons, show (i + 1) * 2 = (i * 2) + 1 + 1 from by omega]
      simp only [List.set_cons_succ, two_cons, List.getElem_cons_succ]
      rw [ih i (by simpa using h)]
theorem own_n {w : World} {base g n cap : Nat} {vs : List (Value × Value)} {e : TypeId} (h : Own2 w base e (.slice (some ⟨g, 0, none⟩) n cap) vs) : n = vs.length := by
  obtain ⟨a', c', e⟩ := Own2.slice h
  simp only [Value.slice.injEq] at e
  exact e.2.1
/-- A node's data is put. -/
theorem OwnN.putData {w : World} {base g n cap i : Nat} {x : Value} {l : List Nat} {ns : List NdM} (h : OwnN w base (.slice (some ⟨g, 0, none⟩) n cap) ns) (hi : i < ns.length) (ho : OwnB w base x l) :
    OwnN (w.setCell ⟨g, i * 2, none⟩ x) base (.slice (some ⟨g, 0, none⟩) n cap) (ns.set i (l, ns[i].2)) ∧ w.grownBy (w.setCell ⟨g, i * 2, none⟩ x) (some g) := by
  obtain ⟨vs, hl, h0, hb⟩ := h
  have hiv : i < vs.length := by omega
  have hn := own_n h0
  subst hn
  have s1 := World.ownsRow.stored h0 (i * 2) x
  have hg := s1.2
  obtain ⟨xi, hxi, _⟩ := hb i hi
  obtain ⟨_, hxi2⟩ := List.getElem?_eq_some_iff.1 hxi
  refine ⟨⟨vs.set i (x, vs[i].2), by rw [List.length_set, List.length_set]; exact hl, ?_, fun j hj => ?_⟩, hg⟩
  · unfold Own2
    rw [List.length_set, ← two_put0 vs i _ hiv]
    exact s1.1
  have hj' : j < ns.length := by simpa using hj
  by_cases hij : i = j
  · subst hij
    refine ⟨x, ?_, ?_⟩
    · rw [List.getElem?_set_self hiv, List.getElem_set_self, hxi2]
    · rw [List.getElem_set_self]
      exact World.ownsRow.kept ho hg (owns_away ho h0 (by decide))
  · obtain ⟨y, hy, q1⟩ := hb j hj'
    refine ⟨y, by rw [List.getElem?_set_ne hij, List.getElem_set_ne hij]; exact hy, ?_⟩
    rw [List.getElem_set_ne hij]
    exact World.ownsRow.kept q1 hg (owns_away q1 h0 (by decide))
theorem OwnN.putSafe {w : World} {base g n cap i : Nat} {z : Int} {ns : List NdM} (h : OwnN w base (.slice (some ⟨g, 0, none⟩) n cap) ns) (hi : i < ns.length) :
    OwnN (w.setCell ⟨g, i * 2 + 1, none⟩ (.int .i64 z)) base (.slice (some ⟨g, 0, none⟩) n cap) (ns.set i (ns[i].1, z)) ∧ w.grownBy (w.setCell ⟨g, i * 2 + 1, none⟩ (.int .i64 z)) (some g) := by
  obtain ⟨vs, hl, h0, hb⟩ := h
  have hiv : i < vs.length := by omega
  have hn := own_n h0
  subst hn
  have s1 := World.ownsRow.stored h0 (i * 2 + 1) (.int .i64 z)
  have hg := s1.2
  refine ⟨⟨vs.set i (vs[i].1, .int .i64 z), by rw [List.length_set, List.length_set]; exact hl, ?_, fun j hj => ?_⟩, hg⟩
  · unfold Own2
    rw [List.length_set, ← two_put vs i _ hiv]
    exact s1.1
  have hj' : j < ns.length := by simpa using hj
  obtain ⟨y, hy, q1⟩ := hb j hj'
  have k1 := World.ownsRow.kept q1 hg (owns_away q1 h0 (by decide))
  by_cases hij : i = j
  · subst hij
    obtain ⟨hl2, hy2⟩ := List.getElem?_eq_some_iff.1 hy
    refine ⟨y, ?_, ?_⟩
    · rw [List.getElem?_set_self hiv, List.getElem_set_self, hy2]
    · rw [List.getElem_set_self]; exact k1
  · refine ⟨y, by rw [List.getElem?_set_ne hij, List.getElem_set_ne hij]; exact hy, ?_⟩
    rw [List.getElem_set_ne hij]
    exact k1
/-- A node's row has grown, and is put. -/
theorem OwnNA.putData {w w' : World} {base g n cap i : Nat} {x v' : Value} {y : Int} {l : List Nat} {vs : List (Value × Value)} {ns : List NdM} (h : OwnNA w base (.slice (some ⟨g, 0, none⟩) n cap) vs ns) (hi : i < ns.length) (hx : vs[i]? = some (x, .int .i64 y))
    (ho : OwnB w' base v' l) (hg : w.grownBy w' x.ownBlock) (hat : v'.ownBlock = x.ownBlock ∨ v'.ownBlock = some w.heap.size ∨ v'.ownBlock = none) :
    OwnNA (w'.setCell ⟨g, i * 2, none⟩ v') base (.slice (some ⟨g, 0, none⟩) n cap) (vs.set i (v', .int .i64 y)) (ns.set i (l, ns[i].2)) ∧ w'.grownBy (w'.setCell ⟨g, i * 2, none⟩ v') (some g) := by
  have hl := h.len
  have hiv : i < vs.length := by omega
  have hn := own_n h.row
  subst hn
  obtain ⟨x0, hx0, p1⟩ := h.body i hi
  obtain ⟨_, hxe⟩ := List.getElem?_eq_some_iff.1 hx
  obtain ⟨rfl, rfl⟩ : x = x0 ∧ y = ns[i].2 := by rw [hx] at hx0; simpa using hx0
  have hmx : (vs.map (·.1))[i]? = some x := by rw [List.getElem?_map, hx]; rfl
  have hrow := World.ownsRow.kept h.row hg (owns_away h.row p1 (by decide))
  have s1 := World.ownsRow.stored hrow (i * 2) v'
  have hg2 := s1.2
  have hall : ∀ j, j ≠ i → ∀ z, (vs.map (·.1))[j]? = some z → awayV z v' := by
    intro j hj z hz
    have ha := awayP h.apart hz hmx hj
    rcases hat with e | e | e
    · rcases ha with ha | ha
      · exact .inl ha
      · exact .inr (by rw [e]; exact ha)
    · cases hzb : z.ownBlock with
      | none => exact .inl hzb
      | some k =>
        refine .inr ?_
        have hm : z ∈ vs.map (·.1) := List.mem_of_getElem? hz
        have := (h.lo (.inr ⟨z, hm, hzb⟩)).2
        rw [e, hzb]
        intro e2
        simp only [Option.some.injEq] at e2
        omega
    · cases hzb : z.ownBlock with
      | none => exact .inl hzb
      | some k => exact .inr (by rw [e, hzb]; simp)
  refine ⟨⟨by rw [List.length_set, List.length_set]; exact hl, ?_, fun j hj => ?_, ?_⟩, hg2⟩
  · unfold Own2
    rw [List.length_set, show (vs.set i (v', .int .i64 ns[i].2)) = vs.set i (v', vs[i].2) from by rw [hxe], ← two_put0 vs i _ hiv]
    exact s1.1
  · have hj' : j < ns.length := by simpa using hj
    by_cases hij : i = j
    · subst hij
      refine ⟨v', by rw [List.getElem?_set_self hiv, List.getElem_set_self], ?_⟩
      rw [List.getElem_set_self]
      exact World.ownsRow.kept ho hg2 (owns_away ho hrow (by decide))
    · obtain ⟨z, hz, q1⟩ := h.body j hj'
      refine ⟨z, by rw [List.getElem?_set_ne hij, List.getElem_set_ne hij]; exact hz, ?_⟩
      rw [List.getElem_set_ne hij]
      have hmz : (vs.map (·.1))[j]? = some z := by rw [List.getElem?_map, hz]; rfl
      have k1 := World.ownsRow.kept q1 hg (awayP h.apart hmz hmx (fun e => hij e.symm))
      exact World.ownsRow.kept k1 hg2 (owns_away k1 hrow (by decide))
  · rw [List.map_set, List.pairwise_iff_getElem]
    intro p q hp hq hpq
    have hp' : p < vs.length := by simpa using hp
    have hq' : q < vs.length := by simpa using hq
    have zp : (vs.map (·.1))[p]? = some (vs[p].1) := by rw [List.getElem?_map, List.getElem?_eq_getElem hp']; rfl
    have zq : (vs.map (·.1))[q]? = some (vs[q].1) := by rw [List.getElem?_map, List.getElem?_eq_getElem hq']; rfl
    by_cases h1 : i = p
    · subst h1
      rw [List.getElem_set_self, List.getElem_set_ne (by omega)]
      have := (hall q (by omega) _ zq).symm
      simpa using this
    · by_cases h2 : i = q
      · subst h2
        rw [List.getElem_set_self, List.getElem_set_ne h1]
        have := hall p (by omega) _ zp
        simpa using this
      · rw [List.getElem_set_ne h1, List.getElem_set_ne h2]
        have := awayP h.apart zp zq (by omega)
        simpa using this
end Go.Proofs.YtpccongphchagaaGreatDoor
namespace Go.Proofs.YtpccongphchagaaGreatDoor
open Go.RowKit
set_option maxRecDepth 20000 in
theorem l1Total_any (v : Value) (D : MDisk) (w : World) (hn : D.nodes.length ≤ 1048576) (hsum : sumN D.nodes ≤ 1048576) (hd : DiskAt w v D) :
    Calls Tryz.prog 52 #[v] w fun e w' => e = .returned (.int .i64 (sumN D.nodes : Int)) ∧ Below w.heap.size w w' := by
  obtain ⟨a1, c1, a2, c2, a3, c3, a4, c4, rfl, hN, hE, hK, hO⟩ := hd
  clear hE hK hO
  have hA := (Below.refl w.heap.size w).alloc (Nat.le_refl _) (.cells #[.slice a1 D.nodes.length c1, .slice a2 D.names.length c2, .slice a3 D.kept.length c3, .slice a4 D.pend.length c4, .int .i64 D.quota] 27)
  generalize D.nodes = ns at hn hsum hN hA ⊢
  go_enter Tryz.func52, Tryz.ntmps52
  go_wp2
  generalize w.alloc (.cells #[.slice a1 ns.length c1, .slice a2 D.names.length c2, .slice a3 D.kept.length c3, .slice a4 D.pend.length c4, .int .i64 D.quota] 27) = w0 at hA ⊢
  have hN0 := hN.below hA
  go_loopw [3, 9] (fun t i wr => ∃ k : Nat, k ≤ ns.length ∧ i = .int .i64 k ∧ t = .int .i64 (sumN (ns.take k) : Int) ∧ Below w0.heap.size w0 wr) (fun _ i _ => ns.length - (intOf i).toNat)
  case atStart => exact ⟨0, Nat.zero_le _, rfl, rfl, Below.refl _ _⟩
  case round =>
    obtain ⟨k, hk, rfl, rfl, hnx⟩ := hrel
    by_cases hlt : k < ns.length
    · obtain ⟨b, off, rfl, hc⟩ := (hN0.below hnx) (by omega)
      obtain ⟨ai, ci, hc0, hc1, _⟩ := hc k hlt
      have HS := hide (sumN_take_succ ns k hlt)
      have hle := sumN_take_le ns (k + 1)
      rw [sumN_take_succ ns k hlt] at hle
      have HN := hide (hnx.alloc hnx.size (.cells #[.slice ai ns[k].1.length ci, .int .i64 ns[k].2] 49))
      clear hc hN hN0 hnx hA
      generalize sumN (ns.take k) = s0 at hle HS ⊢
      generalize ns[k].1.length = n0 at hc0 hle HS HN
      generalize ns[k].2 = sf at hc1 HN
      go_wp2
      go_roundw
      case rel => exact ⟨k + 1, by omega, by go_num, val_int (by rw [HS.out]; omega), HN.out⟩
      case measure => simp [intOf]; omega
    · have he : ns.take k = ns := List.take_of_length_le (by omega)
      rw [he]
      go_wp2
      go_ret
      exact ⟨rfl, hA.trans (hnx.mono hA.size)⟩
theorem used_take (ns : List NdM) (es : List EN) : ∀ (k : Nat) (h : k < es.length), usedOf ns (es.take (k + 1)) = usedOf ns (es.take k) + (nodeOf ns es[k]).1.length := by
  induction es with
  | nil => intro k h; simp at h
  | cons e r ih =>
    intro k h
    cases k with
    | zero => simp [usedOf]
    | succ k =>
      have := ih k (by simpa using h)
      simp only [List.take_succ_cons, usedOf, List.getElem_cons_succ, this]
      omega
theorem used_take_le (ns : List NdM) (es : List EN) : ∀ (k : Nat), usedOf ns (es.take k) ≤ usedOf ns es := by
  induction es with
  | nil => intro k; simp
  | cons e r ih =>
    intro k
    cases k with
    | zero => simp [usedOf]
    | succ k => have := ih k; simp only [List.take_succ_cons, usedOf]; omega
set_option maxRecDepth 20000 in
theorem l1Used_any (v : Value) (D : MDisk) (w : World) (h : Wkd D) (hd : DiskAt w v D) :
    Calls Tryz.prog 51 #[v] w fun e w' => e = .returned (.int .i64 (usedOf D.nodes D.names : Int)) ∧ Below w.heap.size w w' := by
  have hub := used_le _ _ h.fine.ap h.fine.nd
  have hsum := h.sum
  have hln := h.fine.ln
  have hnn := h.nn
  have HND := hide h.fine.nd
  clear h
  obtain ⟨a1, c1, a2, c2, a3, c3, a4, c4, rfl, hN, hE, hK, hO⟩ := hd
  clear hK hO
  have hA := (Below.refl w.heap.size w).alloc (Nat.le_refl _) (.cells #[.slice a1 D.nodes.length c1, .slice a2 D.names.length c2, .slice a3 D.kept.length c3, .slice a4 D.pend.length c4, .int .i64 D.quota] 27)
  have L0 := Laid.new w #[.slice a1 D.nodes.length c1, .slice a2 D.names.length c2, .slice a3 D.kept.length c3, .slice a4 D.pend.length c4, .int .i64 D.quota] 27
  generalize D.nodes = ns at hnn hsum hN hA L0 HND hub ⊢
  generalize D.names = es at hln hE hA L0 HND hub ⊢
  go_enter Tryz.func51, Tryz.ntmps51
  go_wp2
  generalize w.alloc (.cells #[.slice a1 ns.length c1, .slice a2 es.length c2, .slice a3 D.kept.length c3, .slice a4 D.pend.length c4, .int .i64 D.quota] 27) = w0 at hA L0 ⊢
  have hN0 := hN.below hA
  have hE0 := hE.below hA
  go_loopw [3, 9] (fun t i wr => ∃ k : Nat, k ≤ es.length ∧ i = .int .i64 k ∧ t = .int .i64 (usedOf ns (es.take k) : Int) ∧ Below w0.heap.size w0 wr) (fun _ i _ => es.length - (intOf i).toNat)
  case atStart => exact ⟨0, Nat.zero_le _, rfl, rfl, Below.refl _ _⟩
  case round =>
    obtain ⟨k, hk, rfl, rfl, hnx⟩ := hrel
    by_cases hlt : k < es.length
    · obtain ⟨b, off, rfl, hc⟩ := (hE0.below hnx) (by omega)
      obtain ⟨hc0, hc1⟩ := hc k hlt
      obtain ⟨hn0, hn1⟩ := HND.out _ (List.getElem_mem hlt)
      obtain ⟨kk, hkk⟩ := Int.eq_ofNat_of_zero_le hn0
      have hkl : kk < ns.length := by omega
      have hal := (Below.refl wr.heap.size wr).alloc (Nat.le_refl _) (.cells #[.string es[k].1, .int .i64 (kk : Int)] 37)
      have hnx2 := hnx.trans (hal.mono hnx.size)
      obtain ⟨b1, off1, rfl, hcn⟩ := (hN0.below hnx2) (by omega)
      obtain ⟨ai, ci, g0, g1, _⟩ := hcn kk hkl
      have y0 := (L0.below hnx2 L0.lt).cell 0
      have hnof : nodeOf ns es[k] = ns[kk] := by
        unfold nodeOf
        rw [hkk]
        simp [List.getD_eq_getElem?_getD, List.getElem?_eq_getElem hkl]
      have hus := used_take ns es k hlt
      rw [hnof] at hus
      have hle := used_take_le ns es (k + 1)
      rw [hus] at hle
      have HS := hide hus
      have HN := hide hnx2
      rw [hkk] at hc1
      clear hc hcn hN hN0 hE hE0 hnx hnx2 hA hal hus hnof hkk hn0 hn1 L0 g1
      generalize usedOf ns (es.take k) = s0 at hle HS ⊢
      generalize ns[kk].1.length = n0 at g0 hle HS
      generalize es[k].1 = nm at hc0 HN g0 y0 ⊢
      go_wp2
      go_roundw
      case rel => exact ⟨k + 1, by omega, by go_num, val_int (by rw [HS.out]; omega), HN.out⟩
      case measure => simp [intOf]; omega
    · have he : es.take k = es := List.take_of_length_le (by omega)
      rw [he]
      go_wp2
      go_ret
      exact ⟨rfl, hA.trans (hnx.mono hA.size)⟩
end Go.Proofs.YtpccongphchagaaGreatDoor
namespace Go.Proofs.YtpccongphchagaaGreatDoor
open Go.RowKit
theorem four_append (l m : List V4) : four (l ++ m) = four l ++ four m := by simp [four]
/-- append of a list of steps, perhaps none. -/
theorem wpList_append_dirs {ops : Array Oper} {rest : List Oper} {o : Oper} {act : Act} {Q : Exit → Act → World → Prop} (w : World) (hgd : o.guard = none) (s x : Operand)
    (ho : o.op = .call { callee := .builtin .append, args := #[s, x], argTypes := #[25, 25] })
    (base : Nat) (v : Value) (es l : List DO) (hs : act.eval s = v) (hown : OwnO w base v es) (ad : Option Addr) (c : Nat) (hx : act.eval x = .slice ad l.length c) (hr : OpAt w ad l) (hlen : es.length + l.length ≤ 1048576) (hbase : base ≤ w.heap.size)
    (h : ∀ v' w', OwnO w' base v' (es ++ l) → w.grownBy w' v.ownBlock → wpList Tryz.prog ops Q rest (act.put o.dst v') w') : wpList Tryz.prog ops Q (o :: rest) act w := by
  obtain ⟨i0, hi, hz0, hz1, hz2⟩ := info_parts Tryz.infoDirOp
  have hown' : w.ownsRow base 68 4 v es.length (four (es.map opP)) := by have := hown; unfold OwnO Own4 at this; rw [List.length_map] at this; exact this
  by_cases hm : 0 < l.length
  · obtain ⟨b, off, rfl, hc⟩ := hr hm
    have hcl : ∀ k (hk : k < l.length), w.cell? ⟨b, off + k * 4, none⟩ = (four (l.map opP))[k * 4]? ∧ w.cell? ⟨b, off + (k * 4 + 1), none⟩ = (four (l.map opP))[k * 4 + 1]? ∧ w.cell? ⟨b, off + (k * 4 + 2), none⟩ = (four (l.map opP))[k * 4 + 2]? ∧ w.cell? ⟨b, off + (k * 4 + 3), none⟩ = (four (l.map opP))[k * 4 + 3]? := fun k hk => by
      obtain ⟨h1, h2, h3, h4⟩ := hc k hk
      have hk' : k < (l.map opP).length := by rw [List.length_map]; exact hk
      rw [four_get0 _ k hk', four_get1 _ k hk', four_get2 _ k hk', four_get3 _ k hk', h1, show off + (k * 4 + 1) = off + k * 4 + 1 from by omega, h2, show off + (k * 4 + 2) = off + k * 4 + 2 from by omega, h3, show off + (k * 4 + 3) = off + k * 4 + 3 from by omega, h4]
      simp [opP]
    refine wpList_append_own w hgd s x 25 ho base 68 i0 (.agg #[.int .i64 0, .string ByteArray.empty, .string ByteArray.empty, .int .i64 0]) 4 48 Tryz.underlying25 hi hz0 hz1 hz2 rfl (by decide) v es.length (four (es.map opP)) hs hown' ⟨b, off, none⟩ l.length c (four (l.map opP)) hx (by rw [four_length, List.length_map]) ?_ ?_ (by unfold maxLen; omega) (by omega) hbase ?_
    · intro j u hj
      rw [addr_add]
      have hj2 : j < l.length * 4 := by
        rcases Nat.lt_or_ge j (l.length * 4) with h' | h'
        · exact h'
        · rw [List.getElem?_eq_none (by rw [four_length, List.length_map]; exact h')] at hj; cases hj
      rw [← hj]
      have hk := hcl (j / 4) (by omega)
      rcases (show j = j / 4 * 4 ∨ j = j / 4 * 4 + 1 ∨ j = j / 4 * 4 + 2 ∨ j = j / 4 * 4 + 3 by omega) with e | e | e | e
      · rw [e]; exact hk.1
      · rw [e]; exact (show j / 4 * 4 + 1 = j / 4 * 4 + 1 from rfl) ▸ hk.2.1
      · rw [e]; exact hk.2.2.1
      · rw [e]; exact hk.2.2.2
    · intro u hu
      unfold four at hu
      obtain ⟨p, hp, hu⟩ := List.mem_flatMap.1 hu
      obtain ⟨y, _, rfl⟩ := List.mem_map.1 hp
      simp only [opP, List.mem_cons, List.not_mem_nil, or_false] at hu
      rcases hu with rfl | rfl | rfl | rfl <;> rfl
    · intro v' w' hown2 hg _
      refine h v' w' ?_ hg
      unfold OwnO Own4
      rw [List.length_map, List.length_append, List.map_append, four_append]
      exact hown2
  · have hm0 : l = [] := List.eq_nil_of_length_eq_zero (by omega)
    subst hm0
    have hr' : (Builtin.append_ #[25, 25] o.type #[v, .slice ad 0 c]).run Tryz.prog w = .ok v w := by
      rcases hown'.2 with ⟨rfl, hn⟩ | ⟨g, cap, cur, rfl, hbg, hg, hnc, _⟩
      · cases ad <;> simp [Builtin.append_, run_underlying Tryz.underlying25, sizeOf, typeInfo, hi, Builtin.lenOf, Builtin.firstCells, loadCells, loadCellsFrom]
      · cases ad <;> simp [Builtin.append_, run_underlying Tryz.underlying25, sizeOf, typeInfo, hi, Builtin.lenOf, Builtin.firstCells, storeCells, loadCells, loadCellsFrom, hnc]
    refine wpList_plain hgd fun K hK => ?_
    unfold Oper.wp execOp
    simp only [List.length_nil] at hx
    simp only [ho, resolve, invoke, builtin, Sem.run_bind, Sem.run_pure, Result.andThen_ok, List.map_toArray, List.map_cons, List.map_nil, hs, hx, hr']
    exact hK _ _ (h v w (by rw [List.append_nil]; exact hown) (grown_refl _ _))
theorem cloneO_any (a : Option Addr) (cap : Nat) (es : List DO) (w : World) (hn : es.length ≤ 1048576) (hr : OpAt w a es) :
    Calls Tryz.prog 53 #[.slice a es.length cap] w fun e w' => ∃ v, e = .returned v ∧ OwnO w' w.heap.size v es ∧ Below w.heap.size w w' := by
  have hnn := fun (n c : Nat) (x : Option Addr) (w : World) => Lib.run_eql_slice_nil (P := Tryz.prog) w 25 68 x n c 0 0 Tryz.underlying25
  have hA : Below w.heap.size w (w.alloc (.cells #[] 68)) := (Below.refl _ _).alloc (Nat.le_refl _) _
  have hE : OwnO (w.alloc (.cells #[] 68)) w.heap.size (.slice (some ⟨w.heap.size, 0, none⟩) 0 0) [] := ⟨rfl, .inr ⟨w.heap.size, 0, #[], rfl, Nat.le_refl _, heap_alloc_new w _, by simp, by simp [maxLen], by simp, by simp [four]⟩⟩
  cases a with
  | none =>
    have h0 : es = [] := by
      cases es with
      | nil => rfl
      | cons x r => obtain ⟨b, off, e, _⟩ := hr (by simp); cases e
    subst h0
    go_enter Tryz.func53, Tryz.ntmps53
    go_wp2
    go_ret
    exact ⟨_, rfl, World.ownsRow_nil w _ _ 4, Below.refl _ _⟩
  | some x =>
    go_enter Tryz.func53, Tryz.ntmps53
    go_wp2_with (at_builtin; refine wpList_append_dirs _ rfl _ _ rfl w.heap.size (.slice (some ⟨w.heap.size, 0, none⟩) 0 0) [] es rfl hE _ _ rfl (hr.below hA) (by simp; omega) (by simp) ?_; intro v2 w2 ho2 hg2)
    go_ret
    exact ⟨_, rfl, ho2, hA.grown hg2 (by simp) (fun k h => by simp [Value.ownBlock] at h; omega)⟩
end Go.Proofs.YtpccongphchagaaGreatDoor
namespace Go.Proofs.YtpccongphchagaaGreatDoor
open Go.RowKit
/-- What kind of block lies there. -/
def KindAt (w : World) (g t : Nat) : Prop := ∃ cs fr, w.heap[g]? = some (.cells cs t fr)
theorem Laid.kind {w : World} {g : Nat} {cs : Array Value} {t : TypeId} (h : Laid w g cs t) : KindAt w g t := ⟨cs, _, h⟩
theorem own_kind {w : World} {b e k n g : Nat} {v : Value} {xs : List Value} (h : w.ownsRow b e k v n xs) (hg : v.ownBlock = some g) : KindAt w g e := by
  rcases h.2 with ⟨rfl, _⟩ | ⟨g', cap, cur, rfl, _, hg', _⟩
  · cases hg
  · simp only [Value.ownBlock, Option.some.injEq] at hg
    subst hg
    exact ⟨_, _, hg'⟩
theorem KindAt.ne {w : World} {g s t : Nat} (h : KindAt w g s) (k : KindAt w g t) : s = t := by
  obtain ⟨_, _, h⟩ := h
  obtain ⟨_, _, k⟩ := k
  rw [h] at k
  simp only [Option.some.injEq, Obj.cells.injEq] at k
  exact k.2.1
/-- A row stands where only blocks of another kind have changed. -/
theorem own_frk {S : Nat → Prop} {w w' : World} {b e k n : Nat} {v : Value} {xs : List Value} (h : w.ownsRow b e k v n xs) (f : Fr S w w') (hS : ∀ g, S g → ∃ t, KindAt w g t ∧ t ≠ e) : w'.ownsRow b e k v n xs :=
  owns_fr h f (fun g hg hs => by
    obtain ⟨t, k1, k2⟩ := hS g hs
    exact k2 (k1.ne (own_kind h hg)))
theorem OwnN.frk {S : Nat → Prop} {w w' : World} {base : Nat} {v : Value} {ns : List NdM} (h : OwnN w base v ns) (f : Fr S w w') (hS : ∀ g, S g → ∃ t, KindAt w g t ∧ t ≠ 5 ∧ t ≠ 49) : OwnN w' base v ns := by
  obtain ⟨vs, hl, h2, hb⟩ := h
  refine ⟨vs, hl, own_frk h2 f (fun g hg => ?_), fun i hi => ?_⟩
  · obtain ⟨t, k1, _, k3⟩ := hS g hg
    exact ⟨t, k1, k3⟩
  · obtain ⟨x, hx, ho⟩ := hb i hi
    refine ⟨x, hx, own_frk ho f (fun g hg => ?_)⟩
    obtain ⟨t, k1, k2, _⟩ := hS g hg
    exact ⟨t, k1, k2⟩
/-- The four rows of a disk. -/
structure Dk (w : World) (base : Nat) (v1 v2 v3 v4 : Value) (D : MDisk) : Prop where
  n : OwnN w base v1 D.nodes
  e : OwnE w base v2 D.names
  k : OwnE w base v3 D.kept
  p : OwnO w base v4 D.pend
theorem Dk.own {w : World} {base : Nat} {v1 v2 v3 v4 : Value} {D : MDisk} (h : Dk w base v1 v2 v3 v4 D) : OwnD w base (.agg #[v1, v2, v3, v4, .int .i64 D.quota]) D := ⟨v1, v2, v3, v4, rfl, h.n, h.e, h.k, h.p⟩
theorem Dk.below {w w' : World} {base : Nat} {v1 v2 v3 v4 : Value} {D : MDisk} (h : Dk w base v1 v2 v3 v4 D) (hb : Below w.heap.size w w') : Dk w' base v1 v2 v3 v4 D := ⟨h.n.below hb, h.e.below hb, h.k.below hb, h.p.below hb⟩
theorem Dk.frk {S : Nat → Prop} {w w' : World} {base : Nat} {v1 v2 v3 v4 : Value} {D : MDisk} (h : Dk w base v1 v2 v3 v4 D) (f : Fr S w w') (hS : ∀ g, S g → ∃ t, KindAt w g t ∧ t ≠ 5 ∧ t ≠ 49 ∧ t ≠ 37 ∧ t ≠ 68) : Dk w' base v1 v2 v3 v4 D :=
  ⟨h.n.frk f (fun g hg => by obtain ⟨t, k1, k2, k3, k4, k5⟩ := hS g hg; exact ⟨t, k1, k2, k3⟩),
   own_frk h.e f (fun g hg => by obtain ⟨t, k1, k2, k3, k4, k5⟩ := hS g hg; exact ⟨t, k1, k4⟩),
   own_frk h.k f (fun g hg => by obtain ⟨t, k1, k2, k3, k4, k5⟩ := hS g hg; exact ⟨t, k1, k4⟩),
   own_frk h.p f (fun g hg => by obtain ⟨t, k1, k2, k3, k4, k5⟩ := hS g hg; exact ⟨t, k1, k5⟩)⟩
/-- A cell of a box beside it is put. -/
theorem Dk.box {w : World} {base B t : Nat} {cs : Array Value} {v1 v2 v3 v4 : Value} {D : MDisk} (h : Dk w base v1 v2 v3 v4 D) (hL : Laid w B cs t) (ht : t ≠ 5 ∧ t ≠ 49 ∧ t ≠ 37 ∧ t ≠ 68) (j : Nat) (u : Value) : Dk (w.setCell ⟨B, j, none⟩ u) base v1 v2 v3 v4 D :=
  h.frk (S := fun g => g = B) ((Fr.refl _ _).set rfl) (fun g hg => by subst hg; exact ⟨t, hL.kind, ht⟩)
theorem Dk.setD {w : World} {base B : Nat} {y1 y2 y3 y4 y5 v1 v2 v3 v4 : Value} {D : MDisk} (h : Dk w base v1 v2 v3 v4 D) (hL : Laid w B #[y1, y2, y3, y4, y5] 27) (x1 x2 x3 x4 x5 : Value) : Dk (setD w B x1 x2 x3 x4 x5) base v1 v2 v3 v4 D :=
  h.frk (setD_fr w B x1 x2 x3 x4 x5) (fun g hg => by obtain rfl : g = B := hg; exact ⟨_, hL.kind, by decide⟩)
/-- Steps are put at the end of Pend. -/
theorem Dk.pend {w w' : World} {base : Nat} {v1 v2 v3 v4 v' : Value} {D : MDisk} {l : List DO} (h : Dk w base v1 v2 v3 v4 D) (ho : OwnO w' base v' l) (hg : w.grownBy w' v4.ownBlock) : Dk w' base v1 v2 v3 v' ⟨D.nodes, D.names, D.kept, l, D.quota⟩ := by
  have f : Fr (fun g => v4.ownBlock = some g) w w' := Fr.of_grown hg (fun k e => e)
  have hS : ∀ g, v4.ownBlock = some g → KindAt w g 68 := fun g hg => own_kind h.p hg
  exact ⟨h.n.frk f (fun g hg => ⟨_, hS g hg, by decide⟩), own_frk h.e f (fun g hg => ⟨_, hS g hg, by decide⟩), own_frk h.k f (fun g hg => ⟨_, hS g hg, by decide⟩), ho⟩
/-- What an operation keeps: all below base, and every block that is no row of nodes or of steps. -/
structure Kep (base : Nat) (w w' : World) : Prop where
  bel : Below base w w'
  kind : ∀ g t, KindAt w g t → t ≠ 49 → t ≠ 68 → w'.heap[g]? = w.heap[g]?
theorem KindAt.lt {w : World} {g t : Nat} (h : KindAt w g t) : g < w.heap.size := by
  obtain ⟨_, _, h⟩ := h
  exact lt_of_block h
theorem Kep.of_below {base : Nat} {w w' : World} (h : Below w.heap.size w w') (hb : base ≤ w.heap.size) : Kep base w w' := ⟨h.mono hb, fun g _ k _ _ => h.block g k.lt⟩
theorem KindAt.on {w w' : World} {g t : Nat} (h : KindAt w g t) (e : w'.heap[g]? = w.heap[g]?) : KindAt w' g t := by
  obtain ⟨cs, fr, h⟩ := h
  exact ⟨cs, fr, e.trans h⟩
theorem Kep.trans {base : Nat} {a b c : World} (h : Kep base a b) (k : Kep base b c) : Kep base a c :=
  ⟨h.bel.trans k.bel, fun g t ht h1 h2 => by
    have e := h.kind g t ht h1 h2
    exact (k.kind g t (ht.on e) h1 h2).trans e⟩
theorem Kep.grown {base s : Nat} {a w w' : World} {row : Option Nat} (h : Kep base a w) (hg : w.grownBy w' row) (hB : base ≤ w.heap.size) (hr : ∀ k, row = some k → base ≤ k ∧ KindAt w k s) (hs : s = 49 ∨ s = 68) : Kep base a w' :=
  h.trans ⟨(Below.refl _ _).grown hg hB (fun k e => (hr k e).1), fun g t ht h1 h2 => hg.block g ht.lt (fun e => by
    have e2 := ht.ne (hr g e.symm).2
    rcases hs with rfl | rfl
    · exact h1 e2
    · exact h2 e2)⟩
theorem Kep.laid {base g t : Nat} {w w' : World} {cs : Array Value} (h : Kep base w w') (hL : Laid w g cs t) (h1 : t ≠ 49) (h2 : t ≠ 68) : Laid w' g cs t := (h.kind g t hL.kind h1 h2).trans hL
theorem Kep.setNew {base : Nat} {w X : World} {p : Addr} (h : Kep base w X) (hp : w.heap.size ≤ p.block) (hb : base ≤ w.heap.size) (u : Value) : Kep base w (X.setCell p u) :=
  ⟨h.bel.setCell (by omega) u, fun g t ht h1 h2 => (heap_setCell_other X p g u (fun e => by have := ht.lt; omega)).trans (h.kind g t ht h1 h2)⟩
theorem Kep.setD {base B : Nat} {w X : World} (h : Kep base w X) (hB : w.heap.size ≤ B) (hb : base ≤ w.heap.size) (x1 x2 x3 x4 x5 : Value) : Kep base w (setD X B x1 x2 x3 x4 x5) :=
  ((((h.setNew (p := ⟨B, 0, none⟩) hB hb x1).setNew (p := ⟨B, 1, none⟩) hB hb x2).setNew (p := ⟨B, 2, none⟩) hB hb x3).setNew (p := ⟨B, 3, none⟩) hB hb x4).setNew (p := ⟨B, 4, none⟩) hB hb x5
theorem boxes3 (w : World) (A B C : Array Value) (a b c : TypeId) : Laid (((w.alloc (.cells A a)).alloc (.cells B b)).alloc (.cells C c)) w.heap.size A a ∧ Laid (((w.alloc (.cells A a)).alloc (.cells B b)).alloc (.cells C c)) (w.heap.size + 1) B b ∧ Laid (((w.alloc (.cells A a)).alloc (.cells B b)).alloc (.cells C c)) (w.heap.size + 1 + 1) C c ∧ Below w.heap.size w (((w.alloc (.cells A a)).alloc (.cells B b)).alloc (.cells C c)) ∧ (((w.alloc (.cells A a)).alloc (.cells B b)).alloc (.cells C c)).heap.size = w.heap.size + 3 := by
  have h1 := Laid.new w A a
  have h2 := Laid.new (w.alloc (.cells A a)) B b
  have h3 := Laid.new ((w.alloc (.cells A a)).alloc (.cells B b)) C c
  have b2 := (Below.refl (w.alloc (.cells A a)).heap.size (w.alloc (.cells A a))).alloc (Nat.le_refl _) (.cells B b)
  have b3 := (Below.refl ((w.alloc (.cells A a)).alloc (.cells B b)).heap.size ((w.alloc (.cells A a)).alloc (.cells B b))).alloc (Nat.le_refl _) (.cells C c)
  have s1 : (w.alloc (.cells A a)).heap.size = w.heap.size + 1 := World.size_alloc ..
  have s2 : ((w.alloc (.cells A a)).alloc (.cells B b)).heap.size = w.heap.size + 1 + 1 := by rw [World.size_alloc, s1]
  rw [s1] at h2
  rw [s2] at h3
  refine ⟨(h1.below b2 h1.lt).below b3 (by rw [s2]; omega), h2.below b3 (by rw [s2]; omega), h3, ?_, by rw [World.size_alloc, s2]⟩
  exact (((Below.refl _ _).alloc (Nat.le_refl _) _).alloc (by simp) _).alloc (by simp; omega) _
theorem boxes2 (w : World) (A B : Array Value) (a b : TypeId) : Laid ((w.alloc (.cells A a)).alloc (.cells B b)) w.heap.size A a ∧ Laid ((w.alloc (.cells A a)).alloc (.cells B b)) (w.heap.size + 1) B b ∧ Below w.heap.size w ((w.alloc (.cells A a)).alloc (.cells B b)) ∧ ((w.alloc (.cells A a)).alloc (.cells B b)).heap.size = w.heap.size + 2 := by
  have h1 := Laid.new w A a
  have h2 := Laid.new (w.alloc (.cells A a)) B b
  have b2 := (Below.refl (w.alloc (.cells A a)).heap.size (w.alloc (.cells A a))).alloc (Nat.le_refl _) (.cells B b)
  have s1 : (w.alloc (.cells A a)).heap.size = w.heap.size + 1 := World.size_alloc ..
  rw [s1] at h2
  exact ⟨h1.below b2 h1.lt, h2, ((Below.refl _ _).alloc (Nat.le_refl _) _).alloc (by simp) _, by rw [World.size_alloc, s1]⟩
end Go.Proofs.YtpccongphchagaaGreatDoor
