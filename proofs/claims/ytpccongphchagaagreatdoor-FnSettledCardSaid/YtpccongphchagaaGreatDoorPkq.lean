import Derived.Test.YtpccongphchagaaGreatDoorPko
import Derived.Test.YtpccongphchagaaGreatDoorPkp
import Derived.Test.YtpccongphchagaaGreatDoorPkj
import Derived.Test.YtpccongphchagaaGreatDoorPki
import Derived.Test.YtpccongphchagaaGreatDoorPkk
namespace Go.Proofs.YtpccongphchagaaGreatDoor
open Go.RowKit Go.Maps
theorem mem_sumE : ∀ {es : List (ByteArray × Int)} {e : ByteArray × Int}, e ∈ es → e.1.size ≤ sumE es
  | x :: r, e, h => by
    rcases List.mem_cons.1 h with rfl | h
    · simp only [sumE]; omega
    · have := mem_sumE h; simp only [sumE]; omega
theorem mem_sumO : ∀ {es : List (Int × ByteArray × ByteArray × Int)} {e : Int × ByteArray × ByteArray × Int}, e ∈ es → e.2.1.size + e.2.2.1.size ≤ sumO es
  | x :: r, e, h => by
    rcases List.mem_cons.1 h with rfl | h
    · simp only [sumO]; omega
    · have := mem_sumO h; simp only [sumO]; omega
/-- What the readers ask of a disk that came in. -/
structure InDisk (w : World) (v : Value) (D : MDisk) : Prop where
  at_ : DiskAt w v D
  n1 : D.nodes.length ≤ 9223372036854775807
  n2 : D.names.length ≤ 9223372036854775807
  n3 : D.kept.length ≤ 9223372036854775807
  n4 : D.pend.length ≤ 9223372036854775807
  h1 : ∀ e ∈ D.nodes, e.1.length ≤ 9223372036854775807
  h2 : ∀ e ∈ D.names, e.1.size ≤ 9223372036854775807
  h3 : ∀ e ∈ D.kept, e.1.size ≤ 9223372036854775807
  h4 : ∀ e ∈ D.pend, e.2.1.size ≤ 9223372036854775807 ∧ e.2.2.1.size ≤ 9223372036854775807
  wf : ∀ o ∈ D.pend, (Lit.int .i64 o.2.2.2).wf = true
def szOf (D : MDisk) : Nat := szD D.nodes D.names D.kept D.pend
theorem modest_of {D : MDisk} (h : szOf D ≤ 1048576) : Modest D := by
  unfold szOf szD at h
  exact ⟨by omega, by omega, by omega, by omega, by omega, fun e he => by have := mem_sumE he; omega, fun e he => by have := mem_sumE he; omega, fun o ho => by have := mem_sumO ho; omega⟩
theorem nodes_small {D : MDisk} (h : szOf D ≤ 1048576) : ∀ e ∈ D.nodes, e.1.length ≤ 1048576 := fun e he => by
  have := node_le D.nodes e he
  unfold szOf szD at h
  omega
theorem specValid_v {w : World} {v : Value} {D : MDisk} (h : DiskAt w v D) (hM : Modest D) : Calls Tryz.prog 16 #[v] w (ValPost w (ValidD D)) := by
  obtain ⟨a1, c1, a2, c2, a3, c3, a4, c4, rfl, r1, r2, r3, r4⟩ := h
  exact specValid_any a1 a2 a3 a4 c1 c2 c3 c4 D w hM r1 r2 r3 r4
theorem implValid_v {w : World} {v : Value} {D : MDisk} (h : DiskAt w v D) (hM : Modest D) (hw : ∀ o ∈ D.pend, (Lit.int .i64 o.2.2.2).wf = true) : Calls Tryz.prog 8 #[v] w (ValPost w (ValidD D)) := by
  obtain ⟨a1, c1, a2, c2, a3, c3, a4, c4, rfl, r1, r2, r3, r4⟩ := h
  exact implValid_any entries_holds a1 a2 a3 a4 c1 c2 c3 c4 D w hM hw r1 r2 r3 r4
theorem InDisk.below {w w' : World} {v : Value} {D : MDisk} (h : InDisk w v D) (hb : Below w.heap.size w w') : InDisk w' v D := { h with at_ := h.at_.below hb }
theorem InDisk.shape {w : World} {v : Value} {D : MDisk} (h : InDisk w v D) : ∃ a1 m1 c1 a2 m2 c2 a3 m3 c3 a4 m4 c4 q, v = .agg #[.slice a1 m1 c1, .slice a2 m2 c2, .slice a3 m3 c3, .slice a4 m4 c4, .int .i64 q] := by
  obtain ⟨⟨a1, c1, a2, c2, a3, c3, a4, c4, rfl, _⟩, _⟩ := h
  exact ⟨_, _, _, _, _, _, _, _, _, _, _, _, _, rfl⟩
theorem DiskAt.shape {w : World} {v : Value} {D : MDisk} (h : DiskAt w v D) : ∃ a1 m1 c1 a2 m2 c2 a3 m3 c3 a4 m4 c4 q, v = .agg #[.slice a1 m1 c1, .slice a2 m2 c2, .slice a3 m3 c3, .slice a4 m4 c4, .int .i64 q] := by
  obtain ⟨a1, c1, a2, c2, a3, c3, a4, c4, rfl, _⟩ := h
  exact ⟨_, _, _, _, _, _, _, _, _, _, _, _, _, rfl⟩
end Go.Proofs.YtpccongphchagaaGreatDoor
namespace Go.Proofs.YtpccongphchagaaGreatDoor
open Go.RowKit
def Kept (w w' : World) : Prop := ∀ g t n, Raw w g t n → Raw w' g t n
def SlRaw (w : World) (lo hi : Nat) (t : TypeId) (sz : Nat) (v : Value) : Prop := v = .slice none 0 0 ∨ ∃ g n cap m, v = .slice (some ⟨g, 0, none⟩) n cap ∧ Raw w g t m ∧ n * sz ≤ m ∧ lo ≤ g ∧ g < hi ∧ n ≤ 1048576
def NdRaw (w : World) (lo hi : Nat) (v : Value) : Prop := v = .slice none 0 0 ∨ ∃ g n cap m vs, v = .slice (some ⟨g, 0, none⟩) n cap ∧ NodesRaw w lo hi g n m vs ∧ n ≤ 1048576
theorem SlRaw.turn {w w' : World} {lo hi sz : Nat} {t : TypeId} {v : Value} (h : SlRaw w lo hi t sz v) (hk : Kept w w') : SlRaw w' lo hi t sz v := by
  rcases h with rfl | ⟨g, n, cap, m, e, r, rest⟩
  · exact .inl rfl
  · exact .inr ⟨g, n, cap, m, e, hk _ _ _ r, rest⟩
theorem NdRaw.below {w w' : World} {lo hi : Nat} {v : Value} (h : NdRaw w lo hi v) (hb : Below w.heap.size w w') : NdRaw w' lo hi v := by
  rcases h with rfl | ⟨g, n, cap, m, vs, e, r, rest⟩
  · exact .inl rfl
  · exact .inr ⟨g, n, cap, m, vs, e, r.turn (fun _ _ _ h => h.of_eq (hb.block _ h.lt)) (fun j _ => cell_of_block (hb.block _ r.raw.lt)), rest⟩
theorem SlRaw.below {w w' : World} {lo hi sz : Nat} {t : TypeId} {v : Value} (h : SlRaw w lo hi t sz v) (hb : Below w.heap.size w w') : SlRaw w' lo hi t sz v := h.turn (fun _ _ _ h => h.of_eq (hb.block _ h.lt))
/-- A disk, whatever it holds, all in blocks of [lo, hi). -/
structure DiskRaw (w : World) (lo hi : Nat) (v : Value) : Prop where
  ex : ∃ a1 m1 c1 a2 m2 c2 a3 m3 c3 a4 m4 c4 q, v = .agg #[.slice a1 m1 c1, .slice a2 m2 c2, .slice a3 m3 c3, .slice a4 m4 c4, .int .i64 q] ∧ NdRaw w lo hi (.slice a1 m1 c1) ∧ SlRaw w lo hi 37 2 (.slice a2 m2 c2) ∧ SlRaw w lo hi 37 2 (.slice a3 m3 c3) ∧ SlRaw w lo hi 68 4 (.slice a4 m4 c4)
theorem DiskRaw.below {w w' : World} {lo hi : Nat} {v : Value} (h : DiskRaw w lo hi v) (hb : Below w.heap.size w w') : DiskRaw w' lo hi v := by
  obtain ⟨a1, m1, c1, a2, m2, c2, a3, m3, c3, a4, m4, c4, q, e, r1, r2, r3, r4⟩ := h.ex
  exact ⟨a1, m1, c1, a2, m2, c2, a3, m3, c3, a4, m4, c4, q, e, r1.below hb, r2.below hb, r3.below hb, r4.below hb⟩
theorem ownB_el {w : World} {base : Nat} {v : Value} {l : List Nat} (h : OwnB w base v l) (hl : l.length ≤ 1048576) : ElOk w base w.heap.size v := by
  rcases h.2 with ⟨hv, hn⟩ | ⟨g, cap, cur, hv, hb, hg, hnc, hcm, hcs, hx⟩
  · exact .inl hv
  · exact .inr ⟨g, l.length, cap, cur.size, hv, ⟨cur, hg, rfl⟩, by omega, hb, lt_of_block hg, hl⟩
theorem ownE_sl {w : World} {base : Nat} {v : Value} {es : List (ByteArray × Int)} (h : OwnE w base v es) (hl : es.length ≤ 1048576) : SlRaw w base w.heap.size 37 2 v := by
  rcases h.2 with ⟨hv, hn⟩ | ⟨g, cap, cur, hv, hb, hg, hnc, hcm, hcs, hx⟩
  · exact .inl hv
  · rw [List.length_map] at hv hnc
    exact .inr ⟨g, es.length, cap, cur.size, hv, ⟨cur, hg, rfl⟩, by rw [hcs]; exact Nat.mul_le_mul_right _ hnc, hb, lt_of_block hg, hl⟩
theorem ownO_sl {w : World} {base : Nat} {v : Value} {es : List (Int × ByteArray × ByteArray × Int)} (h : OwnO w base v es) (hl : es.length ≤ 1048576) : SlRaw w base w.heap.size 68 4 v := by
  rcases h.2 with ⟨hv, hn⟩ | ⟨g, cap, cur, hv, hb, hg, hnc, hcm, hcs, hx⟩
  · exact .inl hv
  · rw [List.length_map] at hv hnc
    exact .inr ⟨g, es.length, cap, cur.size, hv, ⟨cur, hg, rfl⟩, by rw [hcs]; exact Nat.mul_le_mul_right _ hnc, hb, lt_of_block hg, hl⟩
theorem ownN_nd {w : World} {base : Nat} {v : Value} {ns : List (List Nat × Int)} (h : OwnN w base v ns) (hl : ns.length ≤ 1048576) (hls : ∀ e ∈ ns, e.1.length ≤ 1048576) : NdRaw w base w.heap.size v := by
  obtain ⟨vs, hlen, h2, hi⟩ := h
  have h2' := h2
  rcases h2.2 with ⟨hv, hn⟩ | ⟨g, cap, cur, hv, hb, hg, hnc, hcm, hcs, hx⟩
  · exact .inl hv
  · refine .inr ⟨g, ns.length, cap, cur.size, fun j => (vs.getD j (.slice none 0 0, .slice none 0 0)).1, by rw [hv, hlen], ⟨⟨cur, hg, rfl⟩, by rw [hcs]; exact Nat.mul_le_mul_right _ (by omega), hb, lt_of_block hg, fun j hj => ?_, fun j hj => ?_⟩, hl⟩
    · rw [hv] at h2'
      have := (Own2.cells h2' j (by omega)).1
      rw [this]
      simp [List.getD, show j < vs.length by omega]
    · obtain ⟨x, hx1, hx2⟩ := hi j hj
      have e : (vs.getD j (.slice none 0 0, .slice none 0 0)).1 = x := by simp [List.getD, hx1]
      rw [e]
      exact ownB_el hx2 (hls _ (List.getElem_mem hj))
theorem ownD_raw {w : World} {base : Nat} {v : Value} {D : MDisk} (h : OwnD w base v D) (hM : Modest D) : DiskRaw w base w.heap.size v := by
  obtain ⟨v1, v2, v3, v4, rfl, h1, h2, h3, h4⟩ := h
  have r1 := ownN_nd h1 hM.n1 (fun e he => by have := node_le D.nodes e he; have := hM.sum; omega)
  have r2 := ownE_sl h2 hM.n2
  have r3 := ownE_sl h3 hM.n3
  have r4 := ownO_sl h4 hM.n4
  obtain ⟨a1, c1, rfl⟩ := h1.slice
  obtain ⟨a2, c2, rfl⟩ := h2.slice
  obtain ⟨a3, c3, rfl⟩ := h3.slice
  obtain ⟨a4, c4, rfl⟩ := h4.slice
  exact ⟨_, _, _, _, _, _, _, _, _, _, _, _, _, rfl, r1, r2, r3, r4⟩
end Go.Proofs.YtpccongphchagaaGreatDoor
namespace Go.Proofs.YtpccongphchagaaGreatDoor
open Go.RowKit
/-- Only the blocks of S may have changed. -/
structure Fr (S : Nat → Prop) (w w' : World) : Prop where
  os : w'.os = w.os
  tape : w'.tape = w.tape
  output : w'.output = w.output
  size : w.heap.size ≤ w'.heap.size
  block : ∀ g, g < w.heap.size → ¬ S g → w'.heap[g]? = w.heap[g]?
theorem Fr.refl (S : Nat → Prop) (w : World) : Fr S w w := ⟨rfl, rfl, rfl, Nat.le_refl _, fun _ _ _ => rfl⟩
theorem Fr.trans {S : Nat → Prop} {a b c : World} (h : Fr S a b) (k : Fr S b c) : Fr S a c :=
  ⟨k.os.trans h.os, k.tape.trans h.tape, k.output.trans h.output, Nat.le_trans h.size k.size, fun g hg hn => (k.block g (Nat.lt_of_lt_of_le hg h.size) hn).trans (h.block g hg hn)⟩
theorem Fr.mono {S S' : Nat → Prop} {w w' : World} (h : Fr S w w') (hs : ∀ g, S g → S' g) : Fr S' w w' := ⟨h.os, h.tape, h.output, h.size, fun g hg hn => h.block g hg (fun e => hn (hs g e))⟩
theorem Fr.of_grown {S : Nat → Prop} {w w' : World} {row : Option Nat} (h : w.grownBy w' row) (hr : ∀ k, row = some k → S k) : Fr S w w' :=
  ⟨h.os, h.tape, h.output, h.size, fun g hg hn => h.block g hg (fun e => hn (hr g e.symm))⟩
theorem Fr.of_below {S : Nat → Prop} {w w' : World} (h : Below w.heap.size w w') : Fr S w w' := ⟨h.os, h.tape, h.output, h.size, fun g hg _ => h.block g hg⟩
theorem Fr.andThen {S : Nat → Prop} {a b c : World} (h : Fr S a b) (k : Below b.heap.size b c) : Fr S a c := h.trans (Fr.of_below k)
theorem Fr.set {S : Nat → Prop} {a w : World} {g j : Nat} {u : Value} (h : Fr S a w) (hg : S g) : Fr S a (w.setCell ⟨g, j, none⟩ u) :=
  ⟨h.os, h.tape, h.output, by simpa using h.size, fun k hk ho => by
    rw [heap_setCell_other w ⟨g, j, none⟩ k u (fun e => ho (by simp at e; rw [e]; exact hg))]
    exact h.block k hk ho⟩
theorem Fr.below {S : Nat → Prop} {B : Nat} {w w' : World} (h : Fr S w w') (hs : ∀ g, S g → B ≤ g) (hB : B ≤ w.heap.size) : Below B w w' :=
  (Out.below (lo := B) (hi := w.heap.size) ⟨h.os, h.tape, h.output, h.size, fun k hk ho => h.block k hk (fun e => by have := hs k e; omega)⟩ (Nat.le_refl _) hB)
def awayV (a b : Value) : Prop := a.ownBlock = none ∨ a.ownBlock ≠ b.ownBlock
theorem awayV.symm {a b : Value} (h : awayV a b) : awayV b a := by
  cases hb : b.ownBlock with
  | none => exact .inl hb
  | some g =>
    refine .inr fun e => ?_
    rcases h with h | h
    · rw [hb, h] at e; cases e
    · exact h e.symm
theorem away_not {a b : Value} (h : awayV a b) : ∀ g, a.ownBlock = some g → ¬ b.ownBlock = some g := fun g ha hb => by
  rcases h with h | h
  · rw [h] at ha; cases ha
  · exact h (ha.trans hb.symm)
/-- A row of the call's own stands where its block has not changed. -/
theorem owns_fr {S : Nat → Prop} {w w' : World} {base e k n : Nat} {v : Value} {xs : List Value} (h : w.ownsRow base e k v n xs) (f : Fr S w w') (hn : ∀ g, v.ownBlock = some g → ¬ S g) : w'.ownsRow base e k v n xs := by
  refine ⟨h.1, ?_⟩
  rcases h.2 with hn' | ⟨g, cap, cur, rfl, hbase, hg, rest⟩
  · exact .inl hn'
  · exact .inr ⟨g, cap, cur, rfl, hbase, (f.block g (lt_of_block hg) (hn g rfl)).trans hg, rest⟩
theorem owns_away {w : World} {b1 b2 e1 e2 k1 k2 n1 n2 : Nat} {v x : Value} {xs ys : List Value} (h1 : w.ownsRow b1 e1 k1 v n1 xs) (h2 : w.ownsRow b2 e2 k2 x n2 ys) (he : e1 ≠ e2) : awayV v x := by
  rcases h1.2 with ⟨rfl, _⟩ | ⟨g, cap, cur, rfl, _, hg, _⟩
  · exact .inl rfl
  · refine .inr fun e => ?_
    rcases h2.2 with ⟨rfl, _⟩ | ⟨g', cap', cur', rfl, _, hg', _⟩
    · simp [Value.ownBlock] at e
    · simp only [Value.ownBlock, Option.some.injEq] at e
      subst e
      rw [hg] at hg'
      simp only [Option.some.injEq, Obj.cells.injEq] at hg'
      exact he hg'.2.1
theorem awayP {ss : List Value} (h : ss.Pairwise awayV) {p q : Nat} {y z : Value} (hp : ss[p]? = some y) (hq : ss[q]? = some z) (hne : p ≠ q) : awayV y z := by
  obtain ⟨hpl, hy⟩ := List.getElem?_eq_some_iff.1 hp
  obtain ⟨hql, hz⟩ := List.getElem?_eq_some_iff.1 hq
  have hh := List.pairwise_iff_getElem.1 h
  rcases Nat.lt_or_ge p q with hpq | hpq
  · have := hh p q hpl hql hpq
    rw [hy, hz] at this
    exact this
  · have := hh q p hql hpl (by omega)
    rw [hy, hz] at this
    exact this.symm
end Go.Proofs.YtpccongphchagaaGreatDoor
namespace Go.Proofs.YtpccongphchagaaGreatDoor
open Go.RowKit
abbrev NdM := List Nat × Int
/-- A list of nodes of the call's own, each row of bytes in a block of its own. -/
structure OwnNA (w : World) (base : Nat) (v : Value) (vs : List (Value × Value)) (ns : List NdM) : Prop where
  len : vs.length = ns.length
  row : Own2 w base 49 v vs
  body : ∀ i (h : i < ns.length), ∃ x, vs[i]? = some (x, .int .i64 ns[i].2) ∧ OwnB w base x ns[i].1
  apart : (vs.map (·.1)).Pairwise awayV
theorem OwnNA.own {w : World} {base : Nat} {v : Value} {vs : List (Value × Value)} {ns : List NdM} (h : OwnNA w base v vs ns) : OwnN w base v ns := ⟨vs, h.len, h.row, h.body⟩
theorem OwnNA.slice {w : World} {base : Nat} {v : Value} {vs : List (Value × Value)} {ns : List NdM} (h : OwnNA w base v vs ns) : ∃ a cap, v = .slice a ns.length cap := h.own.slice
/-- How the count goes on over nodes, and nodes marked. -/
def kNd (k : Nat) : List NdM → Nat → Nat
  | _, 0 => k
  | [], _ => k
  | u :: r, i + 1 => kNd (k + u.1.length + 1) r i
def muN (k : Nat) : List NdM → List NdM
  | [] => []
  | u :: r => (marks k u.1.length, ((k + u.1.length : Nat) : Int)) :: muN (k + u.1.length + 1) r
theorem muN_length : ∀ (k : Nat) (us : List NdM), (muN k us).length = us.length
  | _, [] => rfl
  | k, u :: r => by rw [muN, List.length_cons, List.length_cons, muN_length]
theorem muN_at : ∀ (k : Nat) (us : List NdM) (i : Nat) (h : i < us.length), (muN k us)[i]? = some (marks (kNd k us i) us[i].1.length, ((kNd k us i + us[i].1.length : Nat) : Int))
  | k, u :: r, 0, _ => rfl
  | k, u :: r, i + 1, h => by rw [muN, List.getElem?_cons_succ, muN_at (k + u.1.length + 1) r i (by simpa using h)]; rfl
  | _, [], i, h => by simp at h
theorem kNd_succ : ∀ (k : Nat) (us : List NdM) (i : Nat) (h : i < us.length), kNd k us (i + 1) = kNd k us i + us[i].1.length + 1
  | k, u :: r, 0, _ => by cases r <;> rfl
  | k, u :: r, i + 1, h => by
    show kNd (k + u.1.length + 1) r (i + 1) = kNd (k + u.1.length + 1) r i + _ + 1
    rw [kNd_succ (k + u.1.length + 1) r i (by simpa using h)]
    rfl
  | _, [], i, h => by simp at h
theorem kNd_le (k : Nat) (us : List NdM) (i : Nat) (h : i ≤ us.length) : kNd k us i ≤ kNd k us us.length := by
  induction hn : us.length - i generalizing i with
  | zero => rw [show i = us.length from by omega]; exact Nat.le_refl _
  | succ n ih =>
    have h1 := ih (i + 1) (by omega) (by omega)
    rw [kNd_succ k us i (by omega)] at h1
    omega
theorem kNd_pos (k : Nat) (us : List NdM) : k ≤ kNd k us us.length := by
  have := kNd_le k us 0 (Nat.zero_le _)
  cases us <;> exact this
def muNM (k : Nat) (us : List NdM) (j : Nat) : List NdM := (muN k us).take j ++ us.drop j
theorem muNM_zero (k : Nat) (us : List NdM) : muNM k us 0 = us := by simp [muNM]
theorem muNM_len (k : Nat) (us : List NdM) : muNM k us us.length = muN k us := by
  unfold muNM
  rw [List.take_of_length_le (by rw [muN_length]; exact Nat.le_refl _)]; simp
theorem muNM_length (k : Nat) (us : List NdM) (j : Nat) (h : j ≤ us.length) : (muNM k us j).length = us.length := by
  unfold muNM
  rw [List.length_append, List.length_take, List.length_drop, muN_length]; omega
theorem muNM_at (k : Nat) (us : List NdM) (j : Nat) (h : j < us.length) (h' : j < (muNM k us j).length) : (muNM k us j)[j] = us[j] := by
  have e : (muNM k us j)[j]? = some us[j] := by
    unfold muNM
    have hl : ((muN k us).take j).length = j := by rw [List.length_take, muN_length]; omega
    rw [List.getElem?_append_right (by omega), hl, Nat.sub_self, List.drop_eq_getElem_cons h]; rfl
  rw [List.getElem?_eq_getElem h'] at e
  simpa using e
theorem muNM_set (k : Nat) (us : List NdM) (j : Nat) (h : j < us.length) : (muNM k us j).set j (marks (kNd k us j) us[j].1.length, ((kNd k us j + us[j].1.length : Nat) : Int)) = muNM k us (j + 1) := by
  unfold muNM
  have hl : ((muN k us).take j).length = j := by rw [List.length_take, muN_length]; omega
  rw [List.set_append_right _ _ (by omega), hl, Nat.sub_self, List.drop_eq_getElem_cons h, List.set_cons_zero, List.take_add_one, muN_at k us j h]
  simp
/-- The blocks of a list of nodes. -/
def nodeS (v : Value) (vs : List (Value × Value)) (g : Nat) : Prop := v.ownBlock = some g ∨ ∃ x ∈ vs.map (·.1), Value.ownBlock x = some g
/-- One row of bytes is written. -/
theorem OwnNA.data {w w' : World} {base i : Nat} {v x : Value} {y : Int} {vs : List (Value × Value)} {ns : List NdM} {l : List Nat} (h : OwnNA w base v vs ns) (hi : i < ns.length) (hx : vs[i]? = some (x, .int .i64 y)) (ho : OwnB w' base x l) (hg : w.grownBy w' x.ownBlock) : OwnNA w' base v vs (ns.set i (l, ns[i].2)) := by
  obtain ⟨x0, hx0, p1⟩ := h.body i hi
  obtain rfl : x0 = x := by rw [hx] at hx0; simp only [Option.some.injEq, Prod.mk.injEq] at hx0; exact hx0.1.symm
  have hmx : (vs.map (·.1))[i]? = some x0 := by rw [List.getElem?_map, hx]; rfl
  refine ⟨by rw [List.length_set]; exact h.len, World.ownsRow.kept h.row hg (owns_away h.row p1 (by decide)), fun j hj => ?_, h.apart⟩
  have hj' : j < ns.length := by simpa using hj
  obtain ⟨y2, hy, q1⟩ := h.body j hj'
  by_cases hij : i = j
  · subst hij
    rw [List.getElem_set_self]
    obtain rfl : x0 = y2 := by rw [hx] at hy; simp only [Option.some.injEq, Prod.mk.injEq] at hy; exact hy.1
    exact ⟨x0, hy, ho⟩
  · rw [List.getElem_set_ne hij]
    have hmy : (vs.map (·.1))[j]? = some y2 := by rw [List.getElem?_map, hy]; rfl
    exact ⟨y2, hy, World.ownsRow.kept q1 hg (awayP h.apart hmy hmx (fun e => hij e.symm))⟩
theorem two_put (l : List (Value × Value)) (i : Nat) (u : Value) (h : i < l.length) : (two l).set (i * 2 + 1) u = two (l.set i (l[i].1, u)) := by
  induction l generalizing i with
  | nil => simp at h
  | cons p l ih =>
    cases i with
    | zero => simp [two_cons]
    | succ i =>
      rw [two_cons, show (i + 1) * 2 + 1 = (i * 2 + 1) + 1 + 1 from by omega]
      simp only [List.set_cons_succ, two_cons, List.getElem_cons_succ]
      rw [ih i (by simpa using h)]
theorem map_put (l : List (Value × Value)) (i : Nat) (u : Value) (h : i < l.length) : (l.set i (l[i].1, u)).map (·.1) = l.map (·.1) := by
  rw [List.map_set]
  have : l[i].1 = (l.map (·.1))[i]'(by simpa using h) := by simp
  simp only [this, List.set_getElem_self]
/-- One Safe is put. -/
theorem OwnNA.safe {w : World} {base g n cap i : Nat} {z : Int} {vs : List (Value × Value)} {ns : List NdM} (h : OwnNA w base (.slice (some ⟨g, 0, none⟩) n cap) vs ns) (hi : i < ns.length) :
    ∃ vs', vs'.map (·.1) = vs.map (·.1) ∧ OwnNA (w.setCell ⟨g, i * 2 + 1, none⟩ (.int .i64 z)) base (.slice (some ⟨g, 0, none⟩) n cap) vs' (ns.set i (ns[i].1, z)) ∧ w.grownBy (w.setCell ⟨g, i * 2 + 1, none⟩ (.int .i64 z)) (some g) := by
  have hl := h.len
  have h0 := h.row
  have hiv : i < vs.length := by omega
  have hn : n = vs.length := by
    obtain ⟨a', c', e⟩ := Own2.slice h0
    simp only [Value.slice.injEq] at e
    exact e.2.1
  subst hn
  have s1 := World.ownsRow.stored h0 (i * 2 + 1) (.int .i64 z)
  have hg := s1.2
  refine ⟨vs.set i (vs[i].1, .int .i64 z), map_put vs i _ hiv, ⟨by rw [List.length_set, List.length_set]; exact hl, ?_, fun j hj => ?_, by rw [map_put vs i _ hiv]; exact h.apart⟩, hg⟩
  · unfold Own2
    rw [List.length_set, ← two_put vs i _ hiv]
    exact s1.1
  have hj' : j < ns.length := by simpa using hj
  obtain ⟨y, hy, q1⟩ := h.body j hj'
  have k1 := World.ownsRow.kept q1 hg (owns_away q1 h0 (by decide))
  by_cases hij : i = j
  · subst hij
    obtain ⟨hl2, hy2⟩ := List.getElem?_eq_some_iff.1 hy
    refine ⟨y, ?_, ?_⟩
    · rw [List.getElem?_set_self hiv, List.getElem_set_self, hy2]
    · rw [List.getElem_set_self]; exact k1
  · refine ⟨y, by rw [List.getElem?_set_ne hij, List.getElem_set_ne hij]; exact hy, ?_⟩
    rw [List.getElem_set_ne hij]
    exact k1
theorem OwnNA.cells {w : World} {base : Nat} {a : Option Addr} {n cap : Nat} {vs : List (Value × Value)} {ns : List NdM} (h : OwnNA w base (.slice a n cap) vs ns) (hp : 0 < ns.length) :
    ∃ g, a = some ⟨g, 0, none⟩ ∧ base ≤ g ∧ (∀ o, w.frozen? ⟨g, o, none⟩ = false) ∧ ∀ i (hi : i < ns.length), ∃ ai ci, vs[i]? = some (.slice ai ns[i].1.length ci, .int .i64 ns[i].2) ∧ w.cell? ⟨g, i * 2, none⟩ = some (.slice ai ns[i].1.length ci) ∧ w.cell? ⟨g, i * 2 + 1, none⟩ = some (.int .i64 ns[i].2) ∧ OwnB w base (.slice ai ns[i].1.length ci) ns[i].1 := by
  have hl := h.len
  rcases h.row.2 with ⟨_, h0⟩ | ⟨g, c, cur, hv, hlo, hg, hcs⟩
  · omega
  · obtain ⟨rfl, rfl, rfl⟩ : a = some ⟨g, 0, none⟩ ∧ n = vs.length ∧ cap = c := by simpa using hv
    refine ⟨g, rfl, hlo, fun o => Own2.frozen h.row o, fun i hi => ?_⟩
    obtain ⟨x, hx, p1⟩ := h.body i hi
    obtain ⟨ai, ci, rfl⟩ := p1.slice
    obtain ⟨hl2, hx2⟩ := List.getElem?_eq_some_iff.1 hx
    obtain ⟨c0, c1⟩ := Own2.cells h.row i hl2
    rw [hx2] at c0 c1
    exact ⟨ai, ci, hx, c0, c1, p1⟩
end Go.Proofs.YtpccongphchagaaGreatDoor
namespace Go.Proofs.YtpccongphchagaaGreatDoor
open Go.RowKit
theorem mem_node {es l : List EN} {nodes : Int} {o : DO} (h : repE nodes es o = some l) (hs : ∀ e ∈ es, 0 ≤ e.2 ∧ e.2 < nodes) : ∀ e ∈ l, 0 ≤ e.2 ∧ e.2 < nodes := by
  rintro ⟨s, n⟩ he
  unfold repE at h
  split at h
  · split at h
    · next hc =>
      simp only [Option.some.injEq] at h
      subst h
      rcases mem_insE.1 he with ⟨_, rfl⟩ | he
      · exact ⟨hc.2.2.1, hc.2.2.2.1⟩
      · exact hs _ (mem_noName.1 he).1
    · cases h
  · split at h
    · split at h
      · cases h
      · next nd hnd =>
        split at h
        · simp only [Option.some.injEq] at h
          subst h
          rcases mem_insE.1 he with ⟨_, rfl⟩ | he
          · exact hs (o.2.1, _) (nodeIn_of hnd)
          · exact hs _ (mem_noName.1 (mem_noName.1 he).1).1
        · cases h
    · split at h
      · split at h
        · cases h
        · split at h
          · simp only [Option.some.injEq] at h
            subst h
            exact hs _ (mem_noName.1 he).1
          · cases h
      · cases h
/-- A list of entries that nothing is wrong with. -/
structure Fine (nodes : Int) (l : List EN) : Prop where
  ap : Apart l
  so : Sorted l
  ln : l.length ≤ 300
  sz : ∀ e ∈ l, e.1.size ≤ 1048576
  nd : ∀ e ∈ l, 0 ≤ e.2 ∧ e.2 < nodes
theorem repAll_next {nodes : Int} {es : List EN} {o : DO} {r : List DO} {z : List EN} (h : repAll nodes es (o :: r) = some z) : ∃ l, repE nodes es o = some l ∧ l.length ≤ 300 ∧ repAll nodes l r = some z := by
  rw [repAll] at h
  cases hr : repE nodes es o with
  | none => rw [hr] at h; cases h
  | some l =>
    rw [hr] at h
    simp only at h
    split at h
    · cases h
    · exact ⟨l, rfl, by omega, h⟩
/-- What stands behind the first k steps. -/
def preE (nodes : Int) : List EN → List DO → Nat → List EN
  | es, _, 0 => es
  | es, [], _ => es
  | es, o :: r, k + 1 => preE nodes ((repE nodes es o).getD []) r k
theorem preE_fine {nodes : Int} : ∀ {es : List EN} {ops : List DO} {z : List EN} (k : Nat), repAll nodes es ops = some z → (∀ o ∈ ops, o.2.1.size ≤ 1048576 ∧ o.2.2.1.size ≤ 1048576) → Fine nodes es → Fine nodes (preE nodes es ops k)
  | es, ops, z, 0, _, _, hf => by cases ops <;> exact hf
  | es, [], z, k + 1, _, _, hf => hf
  | es, o :: r, z, k + 1, h, hs, hf => by
    obtain ⟨l, h1, h2, h3⟩ := repAll_next h
    have ho := hs o (List.mem_cons_self ..)
    rw [preE, h1]
    exact preE_fine k h3 (fun o' h' => hs o' (List.mem_cons_of_mem _ h')) ⟨rep_good hf.ap h1, rep_sorted hf.so h1, h2, mem_size h1 hf.sz ho.1 ho.2, mem_node h1 hf.nd⟩
theorem preE_step {nodes : Int} : ∀ {es : List EN} {ops : List DO} {z : List EN} (k : Nat) (hk : k < ops.length), repAll nodes es ops = some z → repE nodes (preE nodes es ops k) ops[k] = some (preE nodes es ops (k + 1))
  | es, o :: r, z, 0, _, h => by
    obtain ⟨l, h1, h2, h3⟩ := repAll_next h
    show repE nodes es o = some (preE nodes ((repE nodes es o).getD []) r 0)
    rw [h1]
    cases r <;> rfl
  | es, o :: r, z, k + 1, hk, h => by
    obtain ⟨l, h1, h2, h3⟩ := repAll_next h
    show repE nodes (preE nodes ((repE nodes es o).getD []) r k) (r[k]'(by simpa using hk)) = some (preE nodes ((repE nodes es o).getD []) r (k + 1))
    rw [h1]
    exact preE_step k (by simpa using hk) h3
  | es, [], _, k, hk, _ => by simp at hk
theorem preE_all {nodes : Int} : ∀ {es : List EN} {ops : List DO} (k : Nat), ops.length ≤ k → preE nodes es ops k = preE nodes es ops ops.length
  | es, [], k, _ => by cases k <;> rfl
  | es, o :: r, 0, h => by simp at h
  | es, o :: r, k + 1, h => by
    show preE nodes ((repE nodes es o).getD []) r k = preE nodes ((repE nodes es o).getD []) r r.length
    exact preE_all k (by simpa using h)
/-- How much of a node stays. -/
def keepOf (nd : NdM) (picks : List Int) (i : Nat) : Nat := nd.2.toNat + (if picks.length = 0 then 0 else (max (picks.getD (i % picks.length) 0) 0).toNat % (nd.1.length - nd.2.toNat + 1))
theorem keepOf_le {nd : NdM} {picks : List Int} {i : Nat} (h : okNode nd = true) : keepOf nd picks i ≤ nd.1.length := by
  unfold okNode at h
  obtain ⟨h1, h2, h3⟩ := of_decide_eq_true h
  unfold keepOf
  split
  · omega
  · have := Nat.mod_lt (max (picks.getD (i % picks.length) 0) 0).toNat (show nd.1.length - nd.2.toNat + 1 > 0 by omega)
    omega
def nodeOf (ns : List NdM) (e : EN) : NdM := ns.getD e.2.toNat ([], 0)
def outN (ns : List NdM) (picks : List Int) (es : List EN) (n : Nat) : List NdM := (List.range n).map fun i => ((nodeOf ns (es.getD i (ByteArray.empty, 0))).1.take (keepOf (nodeOf ns (es.getD i (ByteArray.empty, 0))) picks i), ((keepOf (nodeOf ns (es.getD i (ByteArray.empty, 0))) picks i : Nat) : Int))
def outE (es : List EN) (n : Nat) : List EN := (List.range n).map fun i => ((es.getD i (ByteArray.empty, 0)).1, (i : Int))
theorem outN_length (ns : List NdM) (picks : List Int) (es : List EN) (n : Nat) : (outN ns picks es n).length = n := by simp [outN]
theorem outE_length (es : List EN) (n : Nat) : (outE es n).length = n := by simp [outE]
theorem outN_succ (ns : List NdM) (picks : List Int) (es : List EN) (n : Nat) (h : n < es.length) : outN ns picks es (n + 1) = outN ns picks es n ++ [((nodeOf ns es[n]).1.take (keepOf (nodeOf ns es[n]) picks n), ((keepOf (nodeOf ns es[n]) picks n : Nat) : Int))] := by
  simp [outN, List.range_succ, List.getElem?_eq_getElem h]
theorem outE_succ (es : List EN) (n : Nat) (h : n < es.length) : outE es (n + 1) = outE es n ++ [(es[n].1, (n : Int))] := by
  simp [outE, List.range_succ, List.getElem?_eq_getElem h]
theorem outN_small (ns : List NdM) (picks : List Int) (es : List EN) (n : Nat) (h : ∀ e ∈ ns, e.1.length ≤ 1048576) : ∀ e ∈ outN ns picks es n, e.1.length ≤ 1048576 := by
  intro e he
  unfold outN at he
  obtain ⟨i, _, rfl⟩ := List.mem_map.1 he
  simp only [List.length_take]
  have : (nodeOf ns (es.getD i (ByteArray.empty, 0))).1.length ≤ 1048576 := by
    unfold nodeOf
    rw [List.getD_eq_getElem?_getD]
    cases hg : ns[(es.getD i (ByteArray.empty, 0)).2.toNat]? with
    | none => simp
    | some x => exact h x (List.mem_of_getElem? hg)
  omega
/-- The list of entries of a crash. -/
def crE (D : MDisk) (dirs : Int) : List EN := preE (D.nodes.length : Int) D.kept D.pend dirs.toNat
/-- The disk behind a crash. -/
def crashD (D : MDisk) (dirs : Int) (picks : List Int) : MDisk := ⟨outN D.nodes picks (crE D dirs) (crE D dirs).length, outE (crE D dirs) (crE D dirs).length, outE (crE D dirs) (crE D dirs).length, [], D.quota⟩
def noDisk : MDisk := ⟨[], [], [], [], 0⟩
theorem fine_kept {D : MDisk} (hV : ValidD D) (hM : Modest D) : Fine (D.nodes.length : Int) D.kept := by
  obtain ⟨_, _, _, _, _, h6, _⟩ := hV
  obtain ⟨h1, h2, h3, h4⟩ := okList_apart h6
  exact ⟨h1, h2, h3, hM.s3, h4⟩
theorem fine_pre {D : MDisk} (hV : ValidD D) (hM : Modest D) (k : Nat) : Fine (D.nodes.length : Int) (preE (D.nodes.length : Int) D.kept D.pend k) :=
  preE_fine k hV.2.2.2.2.2.2 hM.s4 (fine_kept hV hM)
theorem ok_node {D : MDisk} (hV : ValidD D) (i : Nat) (h : i < D.nodes.length) : okNode D.nodes[i] = true := by
  obtain ⟨_, _, _, h4, _⟩ := hV
  exact (of_decide_eq_true h4).2.1 i h
end Go.Proofs.YtpccongphchagaaGreatDoor
