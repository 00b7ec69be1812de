import Derived.Test.YtledlicandlekabPka
import Derived.Test.YtledlicandlekabPkb
import Derived.Test.YtledlicandlekabPkc
import Derived.Test.YtledlicandlekabPkd
import Derived.Test.YtledlicandlekabPke
import Derived.Test.YtledlicandlekabPkf
import Derived.Test.YtledlicandlekabPkg
import Derived.Test.YtledlicandlekabShelfI
import Derived.Test.YtledlicandlekabPkh
import Derived.Test.YtledlicandlekabPki
import Derived.Test.YtledlicandlekabPkj
namespace Go.Proofs.Ytledlicandlekab
open Go.RowKit
/-- Only the blocks of S may have changed. -/
structure Fr (S : Nat → Prop) (w w' : World) : Prop where
  os : w'.os = w.os
  tape : w'.tape = w.tape
  output : w'.output = w.output
  size : w.heap.size ≤ w'.heap.size
  block : ∀ g, g < w.heap.size → ¬ S g → w'.heap[g]? = w.heap[g]?
theorem Fr.refl (S : Nat → Prop) (w : World) : Fr S w w := ⟨rfl, rfl, rfl, Nat.le_refl _, fun _ _ _ => rfl⟩
theorem Fr.trans {S : Nat → Prop} {a b c : World} (h : Fr S a b) (k : Fr S b c) : Fr S a c :=
  ⟨k.os.trans h.os, k.tape.trans h.tape, k.output.trans h.output, Nat.le_trans h.size k.size, fun g hg hn => (k.block g (Nat.lt_of_lt_of_le hg h.size) hn).trans (h.block g hg hn)⟩
theorem Fr.mono {S S' : Nat → Prop} {w w' : World} (h : Fr S w w') (hs : ∀ g, S g → S' g) : Fr S' w w' := ⟨h.os, h.tape, h.output, h.size, fun g hg hn => h.block g hg (fun e => hn (hs g e))⟩
theorem Fr.of_grown {S : Nat → Prop} {w w' : World} {row : Option Nat} (h : w.grownBy w' row) (hr : ∀ k, row = some k → S k) : Fr S w w' :=
  ⟨h.os, h.tape, h.output, h.size, fun g hg hn => h.block g hg (fun e => hn (hr g e.symm))⟩
theorem Fr.of_below {S : Nat → Prop} {w w' : World} (h : Below w.heap.size w w') : Fr S w w' := ⟨h.os, h.tape, h.output, h.size, fun g hg _ => h.block g hg⟩
theorem Fr.andThen {S : Nat → Prop} {a b c : World} (h : Fr S a b) (k : Below b.heap.size b c) : Fr S a c := h.trans (Fr.of_below k)
theorem Fr.set {S : Nat → Prop} {a w : World} {g j : Nat} {u : Value} (h : Fr S a w) (hg : S g) : Fr S a (w.setCell ⟨g, j, none⟩ u) :=
  ⟨h.os, h.tape, h.output, by simpa using h.size, fun k hk ho => by
    rw [heap_setCell_other w ⟨g, j, none⟩ k u (fun e => ho (by simp at e; rw [e]; exact hg))]
    exact h.block k hk ho⟩
theorem Fr.below {S : Nat → Prop} {B : Nat} {w w' : World} (h : Fr S w w') (hs : ∀ g, S g → B ≤ g) (hB : B ≤ w.heap.size) : Below B w w' :=
  (Out.below (lo := B) (hi := w.heap.size) ⟨h.os, h.tape, h.output, h.size, fun k hk ho => h.block k hk (fun e => by have := hs k e; omega)⟩ (Nat.le_refl _) hB)
def awayV (a b : Value) : Prop := a.ownBlock = none ∨ a.ownBlock ≠ b.ownBlock
theorem awayV.symm {a b : Value} (h : awayV a b) : awayV b a := by
  cases hb : b.ownBlock with
  | none => exact .inl hb
  | some g =>
    refine .inr fun e => ?_
    rcases h with h | h
    · rw [hb, h] at e; cases e
    · exact h e.symm
theorem away_not {a b : Value} (h : awayV a b) : ∀ g, a.ownBlock = some g → ¬ b.ownBlock = some g := fun g ha hb => by
  rcases h with h | h
  · rw [h] at ha; cases ha
  · exact h (ha.trans hb.symm)
/-- A row of the call's own stands where its block has not changed. -/
theorem owns_fr {S : Nat → Prop} {w w' : World} {base e k n : Nat} {v : Value} {xs : List Value} (h : w.ownsRow base e k v n xs) (f : Fr S w w') (hn : ∀ g, v.ownBlock = some g → ¬ S g) : w'.ownsRow base e k v n xs := by
  refine ⟨h.1, ?_⟩
  rcases h.2 with hn' | ⟨g, cap, cur, rfl, hbase, hg, rest⟩
  · exact .inl hn'
  · exact .inr ⟨g, cap, cur, rfl, hbase, (f.block g (lt_of_block hg) (hn g rfl)).trans hg, rest⟩
theorem owns_away {w : World} {b1 b2 e1 e2 k1 k2 n1 n2 : Nat} {v x : Value} {xs ys : List Value} (h1 : w.ownsRow b1 e1 k1 v n1 xs) (h2 : w.ownsRow b2 e2 k2 x n2 ys) (he : e1 ≠ e2) : awayV v x := by
  rcases h1.2 with ⟨rfl, _⟩ | ⟨g, cap, cur, rfl, _, hg, _⟩
  · exact .inl rfl
  · refine .inr fun e => ?_
    rcases h2.2 with ⟨rfl, _⟩ | ⟨g', cap', cur', rfl, _, hg', _⟩
    · simp [Value.ownBlock] at e
    · simp only [Value.ownBlock, Option.some.injEq] at e
      subst e
      rw [hg] at hg'
      simp only [Option.some.injEq, Obj.cells.injEq] at hg'
      exact he hg'.2.1
theorem awayP {ss : List Value} (h : ss.Pairwise awayV) {p q : Nat} {y z : Value} (hp : ss[p]? = some y) (hq : ss[q]? = some z) (hne : p ≠ q) : awayV y z := by
  obtain ⟨hpl, hy⟩ := List.getElem?_eq_some_iff.1 hp
  obtain ⟨hql, hz⟩ := List.getElem?_eq_some_iff.1 hq
  have hh := List.pairwise_iff_getElem.1 h
  rcases Nat.lt_or_ge p q with hpq | hpq
  · have := hh p q hpl hql hpq
    rw [hy, hz] at this
    exact this
  · have := hh q p hql hpl (by omega)
    rw [hy, hz] at this
    exact this.symm
end Go.Proofs.Ytledlicandlekab
namespace Go.Proofs.Ytledlicandlekab
open Go.RowKit
/-- What marking writes: k, k + 1, .. as bytes. -/
def marks (k n : Nat) : List Nat := (List.range n).map fun i => (k + i) % 256
theorem marks_length (k n : Nat) : (marks k n).length = n := by simp [marks]
theorem marks_at (k n i : Nat) (h : i < (marks k n).length) : (marks k n)[i] = (k + i) % 256 := by simp [marks]
theorem marks_succ (k n : Nat) : marks k (n + 1) = marks k n ++ [(k + n) % 256] := by simp [marks, List.range_succ]
def marked (k : Nat) (l : List Nat) (i : Nat) : List Nat := marks k i ++ l.drop i
theorem marked_zero (k : Nat) (l : List Nat) : marked k l 0 = l := by simp [marked, marks]
theorem marked_len (k : Nat) (l : List Nat) : marked k l l.length = marks k l.length := by simp [marked]
theorem marked_length (k : Nat) (l : List Nat) (i : Nat) (h : i ≤ l.length) : (marked k l i).length = l.length := by simp [marked, marks_length]; omega
theorem marked_set (k : Nat) (l : List Nat) (i : Nat) (h : i < l.length) : (marked k l i).set i ((k + i) % 256) = marked k l (i + 1) := by
  unfold marked
  rw [List.set_append_right _ _ (by simp [marks_length])]
  have e : i - (marks k i).length = 0 := by simp [marks_length]
  rw [e, List.drop_eq_getElem_cons h, List.set_cons_zero, marks_succ]
  simp
theorem bv_mark (k j : Nat) : bv ((k + j) % 256) = .int .u8 (((k : Int) + (j : Int)) % 256) := val_int (by omega)
theorem markByteS_any (base : Nat) (a : Option Addr) (cap k : Nat) (l : List Nat) (w : World) (hk : k ≤ 4503599627370496) (hl : l.length ≤ 4503599627370496) (hown : OwnB w base (.slice a l.length cap) l) :
    Calls Try.prog 39 #[.slice a l.length cap, .int .i64 (k : Int)] w fun e w' => e = .returned (.int .i64 ((k + l.length : Nat) : Int)) ∧ OwnB w' base (.slice a l.length cap) (marks k l.length) ∧ w.grownBy w' (Value.slice a l.length cap).ownBlock ∧ w'.heap.size = w.heap.size := by
  go_enter Try.func39, Try.ntmps39
  go_wp2
  go_loopw [1, 5] (fun s i wr => ∃ j : Nat, j ≤ l.length ∧ i = .int .i64 j ∧ s = .int .i64 ((k + j : Nat) : Int) ∧ OwnB wr base (.slice a l.length cap) (marked k l j) ∧ w.grownBy wr (Value.slice a l.length cap).ownBlock ∧ wr.heap.size = w.heap.size) (fun _ i _ => l.length - (intOf i).toNat)
  case atStart => exact ⟨0, Nat.zero_le _, rfl, rfl, by rw [marked_zero]; exact hown, grown_refl _ _, rfl⟩
  case round =>
    obtain ⟨j, hj, rfl, rfl, hown', hg, hsz⟩ := hrel
    clear hown
    by_cases hlt : j < l.length
    · have hml := marked_length k l j hj
      obtain ⟨b, off, rfl, hc⟩ := hown'.row (by omega)
      have hg0 : off = 0 := by
        rcases hown'.2 with ⟨h, _⟩ | ⟨g, c, cur, h, _⟩
        · simp at h
        · simp at h; exact h.1.2
      subst hg0
      have hcell := hown'.cellAt j (by omega)
      have hfz := hown'.frozenAt j
      have hst := hown'.store j ((k + j) % 256)
      rw [marked_set k l j hlt] at hst
      have HX : Hid (OwnB (wr.setCell ⟨b, j, none⟩ (bv ((k + j) % 256))) base (.slice (some ⟨b, 0, none⟩) l.length cap) (marked k l (j + 1)) ∧ w.grownBy (wr.setCell ⟨b, j, none⟩ (bv ((k + j) % 256))) (some b) ∧ (wr.setCell ⟨b, j, none⟩ (bv ((k + j) % 256))).heap.size = w.heap.size) := ⟨hst.1, grown_trans hg hst.2, by rw [← hsz]; simp⟩
      generalize (marked k l j)[j]'(by omega) = y at hcell
      clear hst hown' hg hc hml hsz
      rw [bv_mark] at HX
      go_wp2
      go_roundw
      case rel => exact ⟨j + 1, by omega, by go_num, val_int (by omega), HX.out.1, HX.out.2.1, HX.out.2.2⟩
      case measure => simp [intOf]; omega
    · obtain rfl : j = l.length := by omega
      rw [marked_len] at hown'
      go_wp2
      go_ret
      exact ⟨rfl, hown', hg, hsz⟩
theorem heldByteS_any (a : Option Addr) (cap k n : Nat) (w : World) (hk : k ≤ 4503599627370496) (hl : n ≤ 4503599627370496) (hr : RowAt w a (marks k n)) :
    Calls Try.prog 40 #[.slice a n cap, .int .i64 (k : Int)] w fun e w' => e = .returned (.int .i64 ((k + n : Nat) : Int)) ∧ w' = w := by
  go_enter Try.func40, Try.ntmps40
  go_wp2
  go_loop [1, 5] (fun s i => ∃ j : Nat, j ≤ n ∧ i = .int .i64 j ∧ s = .int .i64 ((k + j : Nat) : Int)) (fun _ i => n - (intOf i).toNat)
  case atStart => exact ⟨0, Nat.zero_le _, rfl, rfl⟩
  case round =>
    obtain ⟨j, hj, rfl, rfl⟩ := hrel
    by_cases hlt : j < n
    · have hml := marks_length k n
      obtain ⟨b, off, rfl, hc⟩ := hr (by omega)
      have hcell := hc j (by omega)
      rw [marks_at k n j (by omega)] at hcell
      have e : (((k + j) % 256 : Nat) : Int) = ((k : Int) + (j : Int)) % 256 := by omega
      rw [e] at hcell
      have hne : ((((k : Int) + (j : Int)) % 256) != (((k : Int) + (j : Int)) % 256)) = false := by simp
      clear hc hr hml e
      go_wp2
      go_round
      case rel => exact ⟨j + 1, by omega, by go_num, val_int (by omega)⟩
      case measure => simp [intOf]; omega
    · obtain rfl : j = n := by omega
      go_wp2
      go_ret
      exact ⟨rfl, rfl⟩
end Go.Proofs.Ytledlicandlekab
namespace Go.Proofs.Ytledlicandlekab
open Go.RowKit
abbrev NdM := List Nat × Int
/-- A list of nodes of the call's own, each row of bytes in a block of its own. -/
structure OwnNA (w : World) (base : Nat) (v : Value) (vs : List (Value × Value)) (ns : List NdM) : Prop where
  len : vs.length = ns.length
  row : Own2 w base 56 v vs
  body : ∀ i (h : i < ns.length), ∃ x, vs[i]? = some (x, .int .i64 ns[i].2) ∧ OwnB w base x ns[i].1
  apart : (vs.map (·.1)).Pairwise awayV
theorem OwnNA.own {w : World} {base : Nat} {v : Value} {vs : List (Value × Value)} {ns : List NdM} (h : OwnNA w base v vs ns) : OwnN w base v ns := ⟨vs, h.len, h.row, h.body⟩
theorem OwnNA.slice {w : World} {base : Nat} {v : Value} {vs : List (Value × Value)} {ns : List NdM} (h : OwnNA w base v vs ns) : ∃ a cap, v = .slice a ns.length cap := h.own.slice
/-- How the count goes on over nodes, and nodes marked. -/
def kNd (k : Nat) : List NdM → Nat → Nat
  | _, 0 => k
  | [], _ => k
  | u :: r, i + 1 => kNd (k + u.1.length + 1) r i
def muN (k : Nat) : List NdM → List NdM
  | [] => []
  | u :: r => (marks k u.1.length, ((k + u.1.length : Nat) : Int)) :: muN (k + u.1.length + 1) r
theorem muN_length : ∀ (k : Nat) (us : List NdM), (muN k us).length = us.length
  | _, [] => rfl
  | k, u :: r => by rw [muN, List.length_cons, List.length_cons, muN_length]
theorem muN_at : ∀ (k : Nat) (us : List NdM) (i : Nat) (h : i < us.length), (muN k us)[i]? = some (marks (kNd k us i) us[i].1.length, ((kNd k us i + us[i].1.length : Nat) : Int))
  | k, u :: r, 0, _ => rfl
  | k, u :: r, i + 1, h => by rw [muN, List.getElem?_cons_succ, muN_at (k + u.1.length + 1) r i (by simpa using h)]; rfl
  | _, [], i, h => by simp at h
theorem kNd_succ : ∀ (k : Nat) (us : List NdM) (i : Nat) (h : i < us.length), kNd k us (i + 1) = kNd k us i + us[i].1.length + 1
  | k, u :: r, 0, _ => by cases r <;> rfl
  | k, u :: r, i + 1, h => by
    show kNd (k + u.1.length + 1) r (i + 1) = kNd (k + u.1.length + 1) r i + _ + 1
    rw [kNd_succ (k + u.1.length + 1) r i (by simpa using h)]
    rfl
  | _, [], i, h => by simp at h
theorem kNd_le (k : Nat) (us : List NdM) (i : Nat) (h : i ≤ us.length) : kNd k us i ≤ kNd k us us.length := by
  induction hn : us.length - i generalizing i with
  | zero => rw [show i = us.length from by omega]; exact Nat.le_refl _
  | succ n ih =>
    have h1 := ih (i + 1) (by omega) (by omega)
    rw [kNd_succ k us i (by omega)] at h1
    omega
theorem kNd_pos (k : Nat) (us : List NdM) : k ≤ kNd k us us.length := by
  have := kNd_le k us 0 (Nat.zero_le _)
  cases us <;> exact this
def muNM (k : Nat) (us : List NdM) (j : Nat) : List NdM := (muN k us).take j ++ us.drop j
theorem muNM_zero (k : Nat) (us : List NdM) : muNM k us 0 = us := by simp [muNM]
theorem muNM_len (k : Nat) (us : List NdM) : muNM k us us.length = muN k us := by
  unfold muNM
  rw [List.take_of_length_le (by rw [muN_length]; exact Nat.le_refl _)]; simp
theorem muNM_length (k : Nat) (us : List NdM) (j : Nat) (h : j ≤ us.length) : (muNM k us j).length = us.length := by
  unfold muNM
  rw [List.length_append, List.length_take, List.length_drop, muN_length]; omega
theorem muNM_at (k : Nat) (us : List NdM) (j : Nat) (h : j < us.length) (h' : j < (muNM k us j).length) : (muNM k us j)[j] = us[j] := by
  have e : (muNM k us j)[j]? = some us[j] := by
    unfold muNM
    have hl : ((muN k us).take j).length = j := by rw [List.length_take, muN_length]; omega
    rw [List.getElem?_append_right (by omega), hl, Nat.sub_self, List.drop_eq_getElem_cons h]; rfl
  rw [List.getElem?_eq_getElem h'] at e
  simpa using e
theorem muNM_set (k : Nat) (us : List NdM) (j : Nat) (h : j < us.length) : (muNM k us j).set j (marks (kNd k us j) us[j].1.length, ((kNd k us j + us[j].1.length : Nat) : Int)) = muNM k us (j + 1) := by
  unfold muNM
  have hl : ((muN k us).take j).length = j := by rw [List.length_take, muN_length]; omega
  rw [List.set_append_right _ _ (by omega), hl, Nat.sub_self, List.drop_eq_getElem_cons h, List.set_cons_zero, List.take_add_one, muN_at k us j h]
  simp
/-- The blocks of a list of nodes. -/
def nodeS (v : Value) (vs : List (Value × Value)) (g : Nat) : Prop := v.ownBlock = some g ∨ ∃ x ∈ vs.map (·.1), Value.ownBlock x = some g
/-- One row of bytes is written. -/
theorem OwnNA.data {w w' : World} {base i : Nat} {v x : Value} {y : Int} {vs : List (Value × Value)} {ns : List NdM} {l : List Nat} (h : OwnNA w base v vs ns) (hi : i < ns.length) (hx : vs[i]? = some (x, .int .i64 y)) (ho : OwnB w' base x l) (hg : w.grownBy w' x.ownBlock) : OwnNA w' base v vs (ns.set i (l, ns[i].2)) := by
  obtain ⟨x0, hx0, p1⟩ := h.body i hi
  obtain rfl : x0 = x := by rw [hx] at hx0; simp only [Option.some.injEq, Prod.mk.injEq] at hx0; exact hx0.1.symm
  have hmx : (vs.map (·.1))[i]? = some x0 := by rw [List.getElem?_map, hx]; rfl
  refine ⟨by rw [List.length_set]; exact h.len, World.ownsRow.kept h.row hg (owns_away h.row p1 (by decide)), fun j hj => ?_, h.apart⟩
  have hj' : j < ns.length := by simpa using hj
  obtain ⟨y2, hy, q1⟩ := h.body j hj'
  by_cases hij : i = j
  · subst hij
    rw [List.getElem_set_self]
    obtain rfl : x0 = y2 := by rw [hx] at hy; simp only [Option.some.injEq, Prod.mk.injEq] at hy; exact hy.1
    exact ⟨x0, hy, ho⟩
  · rw [List.getElem_set_ne hij]
    have hmy : (vs.map (·.1))[j]? = some y2 := by rw [List.getElem?_map, hy]; rfl
    exact ⟨y2, hy, World.ownsRow.kept q1 hg (awayP h.apart hmy hmx (fun e => hij e.symm))⟩
theorem two_put (l : List (Value × Value)) (i : Nat) (u : Value) (h : i < l.length) : (two l).set (i * 2 + 1) u = two (l.set i (l[i].1, u)) := by
  induction l generalizing i with
  | nil => simp at h
  | cons p l ih =>
    cases i with
    | zero => simp [two_cons]
    | succ i =>
      rw [two_cons, show (i + 1) * 2 + 1 = (i * 2 + 1) + 1 + 1 from by omega]
      simp only [List.set_cons_succ, two_cons, List.getElem_cons_succ]
      rw [ih i (by simpa using h)]
theorem map_put (l : List (Value × Value)) (i : Nat) (u : Value) (h : i < l.length) : (l.set i (l[i].1, u)).map (·.1) = l.map (·.1) := by
  rw [List.map_set]
  have : l[i].1 = (l.map (·.1))[i]'(by simpa using h) := by simp
  simp only [this, List.set_getElem_self]
/-- One Safe is put. -/
theorem OwnNA.safe {w : World} {base g n cap i : Nat} {z : Int} {vs : List (Value × Value)} {ns : List NdM} (h : OwnNA w base (.slice (some ⟨g, 0, none⟩) n cap) vs ns) (hi : i < ns.length) :
    ∃ vs', vs'.map (·.1) = vs.map (·.1) ∧ OwnNA (w.setCell ⟨g, i * 2 + 1, none⟩ (.int .i64 z)) base (.slice (some ⟨g, 0, none⟩) n cap) vs' (ns.set i (ns[i].1, z)) ∧ w.grownBy (w.setCell ⟨g, i * 2 + 1, none⟩ (.int .i64 z)) (some g) := by
  have hl := h.len
  have h0 := h.row
  have hiv : i < vs.length := by omega
  have hn : n = vs.length := by
    obtain ⟨a', c', e⟩ := Own2.slice h0
    simp only [Value.slice.injEq] at e
    exact e.2.1
  subst hn
  have s1 := World.ownsRow.stored h0 (i * 2 + 1) (.int .i64 z)
  have hg := s1.2
  refine ⟨vs.set i (vs[i].1, .int .i64 z), map_put vs i _ hiv, ⟨by rw [List.length_set, List.length_set]; exact hl, ?_, fun j hj => ?_, by rw [map_put vs i _ hiv]; exact h.apart⟩, hg⟩
  · unfold Own2
    rw [List.length_set, ← two_put vs i _ hiv]
    exact s1.1
  have hj' : j < ns.length := by simpa using hj
  obtain ⟨y, hy, q1⟩ := h.body j hj'
  have k1 := World.ownsRow.kept q1 hg (owns_away q1 h0 (by decide))
  by_cases hij : i = j
  · subst hij
    obtain ⟨hl2, hy2⟩ := List.getElem?_eq_some_iff.1 hy
    refine ⟨y, ?_, ?_⟩
    · rw [List.getElem?_set_self hiv, List.getElem_set_self, hy2]
    · rw [List.getElem_set_self]; exact k1
  · refine ⟨y, by rw [List.getElem?_set_ne hij, List.getElem_set_ne hij]; exact hy, ?_⟩
    rw [List.getElem_set_ne hij]
    exact k1
theorem OwnNA.cells {w : World} {base : Nat} {a : Option Addr} {n cap : Nat} {vs : List (Value × Value)} {ns : List NdM} (h : OwnNA w base (.slice a n cap) vs ns) (hp : 0 < ns.length) :
    ∃ g, a = some ⟨g, 0, none⟩ ∧ base ≤ g ∧ (∀ o, w.frozen? ⟨g, o, none⟩ = false) ∧ ∀ i (hi : i < ns.length), ∃ ai ci, vs[i]? = some (.slice ai ns[i].1.length ci, .int .i64 ns[i].2) ∧ w.cell? ⟨g, i * 2, none⟩ = some (.slice ai ns[i].1.length ci) ∧ w.cell? ⟨g, i * 2 + 1, none⟩ = some (.int .i64 ns[i].2) ∧ OwnB w base (.slice ai ns[i].1.length ci) ns[i].1 := by
  have hl := h.len
  rcases h.row.2 with ⟨_, h0⟩ | ⟨g, c, cur, hv, hlo, hg, hcs⟩
  · omega
  · obtain ⟨rfl, rfl, rfl⟩ : a = some ⟨g, 0, none⟩ ∧ n = vs.length ∧ cap = c := by simpa using hv
    refine ⟨g, rfl, hlo, fun o => Own2.frozen h.row o, fun i hi => ?_⟩
    obtain ⟨x, hx, p1⟩ := h.body i hi
    obtain ⟨ai, ci, rfl⟩ := p1.slice
    obtain ⟨hl2, hx2⟩ := List.getElem?_eq_some_iff.1 hx
    obtain ⟨c0, c1⟩ := Own2.cells h.row i hl2
    rw [hx2] at c0 c1
    exact ⟨ai, ci, hx, c0, c1, p1⟩
end Go.Proofs.Ytledlicandlekab
namespace Go.Proofs.Ytledlicandlekab
open Go.RowKit
theorem mem_node {es l : List EN} {nodes : Int} {o : DO} (h : repE nodes es o = some l) (hs : ∀ e ∈ es, 0 ≤ e.2 ∧ e.2 < nodes) : ∀ e ∈ l, 0 ≤ e.2 ∧ e.2 < nodes := by
  rintro ⟨s, n⟩ he
  unfold repE at h
  split at h
  · split at h
    · next hc =>
      simp only [Option.some.injEq] at h
      subst h
      rcases mem_insE.1 he with ⟨_, rfl⟩ | he
      · exact ⟨hc.2.2.1, hc.2.2.2.1⟩
      · exact hs _ (mem_noName.1 he).1
    · cases h
  · split at h
    · split at h
      · cases h
      · next nd hnd =>
        split at h
        · simp only [Option.some.injEq] at h
          subst h
          rcases mem_insE.1 he with ⟨_, rfl⟩ | he
          · exact hs (o.2.1, _) (nodeIn_of hnd)
          · exact hs _ (mem_noName.1 (mem_noName.1 he).1).1
        · cases h
    · split at h
      · split at h
        · cases h
        · split at h
          · simp only [Option.some.injEq] at h
            subst h
            exact hs _ (mem_noName.1 he).1
          · cases h
      · cases h
/-- A list of entries that nothing is wrong with. -/
structure Fine (nodes : Int) (l : List EN) : Prop where
  ap : Apart l
  so : Sorted l
  ln : l.length ≤ 300
  sz : ∀ e ∈ l, e.1.size ≤ 1048576
  nd : ∀ e ∈ l, 0 ≤ e.2 ∧ e.2 < nodes
theorem repAll_next {nodes : Int} {es : List EN} {o : DO} {r : List DO} {z : List EN} (h : repAll nodes es (o :: r) = some z) : ∃ l, repE nodes es o = some l ∧ l.length ≤ 300 ∧ repAll nodes l r = some z := by
  rw [repAll] at h
  cases hr : repE nodes es o with
  | none => rw [hr] at h; cases h
  | some l =>
    rw [hr] at h
    simp only at h
    split at h
    · cases h
    · exact ⟨l, rfl, by omega, h⟩
/-- What stands behind the first k steps. -/
def preE (nodes : Int) : List EN → List DO → Nat → List EN
  | es, _, 0 => es
  | es, [], _ => es
  | es, o :: r, k + 1 => preE nodes ((repE nodes es o).getD []) r k
theorem preE_fine {nodes : Int} : ∀ {es : List EN} {ops : List DO} {z : List EN} (k : Nat), repAll nodes es ops = some z → (∀ o ∈ ops, o.2.1.size ≤ 1048576 ∧ o.2.2.1.size ≤ 1048576) → Fine nodes es → Fine nodes (preE nodes es ops k)
  | es, ops, z, 0, _, _, hf => by cases ops <;> exact hf
  | es, [], z, k + 1, _, _, hf => hf
  | es, o :: r, z, k + 1, h, hs, hf => by
    obtain ⟨l, h1, h2, h3⟩ := repAll_next h
    have ho := hs o (List.mem_cons_self ..)
    rw [preE, h1]
    exact preE_fine k h3 (fun o' h' => hs o' (List.mem_cons_of_mem _ h')) ⟨rep_good hf.ap h1, rep_sorted hf.so h1, h2, mem_size h1 hf.sz ho.1 ho.2, mem_node h1 hf.nd⟩
theorem preE_step {nodes : Int} : ∀ {es : List EN} {ops : List DO} {z : List EN} (k : Nat) (hk : k < ops.length), repAll nodes es ops = some z → repE nodes (preE nodes es ops k) ops[k] = some (preE nodes es ops (k + 1))
  | es, o :: r, z, 0, _, h => by
    obtain ⟨l, h1, h2, h3⟩ := repAll_next h
    show repE nodes es o = some (preE nodes ((repE nodes es o).getD []) r 0)
    rw [h1]
    cases r <;> rfl
  | es, o :: r, z, k + 1, hk, h => by
    obtain ⟨l, h1, h2, h3⟩ := repAll_next h
    show repE nodes (preE nodes ((repE nodes es o).getD []) r k) (r[k]'(by simpa using hk)) = some (preE nodes ((repE nodes es o).getD []) r (k + 1))
    rw [h1]
    exact preE_step k (by simpa using hk) h3
  | es, [], _, k, hk, _ => by simp at hk
theorem preE_all {nodes : Int} : ∀ {es : List EN} {ops : List DO} (k : Nat), ops.length ≤ k → preE nodes es ops k = preE nodes es ops ops.length
  | es, [], k, _ => by cases k <;> rfl
  | es, o :: r, 0, h => by simp at h
  | es, o :: r, k + 1, h => by
    show preE nodes ((repE nodes es o).getD []) r k = preE nodes ((repE nodes es o).getD []) r r.length
    exact preE_all k (by simpa using h)
/-- How much of a node stays. -/
def keepOf (nd : NdM) (picks : List Int) (i : Nat) : Nat := nd.2.toNat + (if picks.length = 0 then 0 else (max (picks.getD (i % picks.length) 0) 0).toNat % (nd.1.length - nd.2.toNat + 1))
theorem keepOf_le {nd : NdM} {picks : List Int} {i : Nat} (h : okNode nd = true) : keepOf nd picks i ≤ nd.1.length := by
  unfold okNode at h
  obtain ⟨h1, h2, h3⟩ := of_decide_eq_true h
  unfold keepOf
  split
  · omega
  · have := Nat.mod_lt (max (picks.getD (i % picks.length) 0) 0).toNat (show nd.1.length - nd.2.toNat + 1 > 0 by omega)
    omega
def nodeOf (ns : List NdM) (e : EN) : NdM := ns.getD e.2.toNat ([], 0)
def outN (ns : List NdM) (picks : List Int) (es : List EN) (n : Nat) : List NdM := (List.range n).map fun i => ((nodeOf ns (es.getD i (ByteArray.empty, 0))).1.take (keepOf (nodeOf ns (es.getD i (ByteArray.empty, 0))) picks i), ((keepOf (nodeOf ns (es.getD i (ByteArray.empty, 0))) picks i : Nat) : Int))
def outE (es : List EN) (n : Nat) : List EN := (List.range n).map fun i => ((es.getD i (ByteArray.empty, 0)).1, (i : Int))
theorem outN_length (ns : List NdM) (picks : List Int) (es : List EN) (n : Nat) : (outN ns picks es n).length = n := by simp [outN]
theorem outE_length (es : List EN) (n : Nat) : (outE es n).length = n := by simp [outE]
theorem outN_succ (ns : List NdM) (picks : List Int) (es : List EN) (n : Nat) (h : n < es.length) : outN ns picks es (n + 1) = outN ns picks es n ++ [((nodeOf ns es[n]).1.take (keepOf (nodeOf ns es[n]) picks n), ((keepOf (nodeOf ns es[n]) picks n : Nat) : Int))] := by
  simp [outN, List.range_succ, List.getElem?_eq_getElem h]
theorem outE_succ (es : List EN) (n : Nat) (h : n < es.length) : outE es (n + 1) = outE es n ++ [(es[n].1, (n : Int))] := by
  simp [outE, List.range_succ, List.getElem?_eq_getElem h]
theorem outN_small (ns : List NdM) (picks : List Int) (es : List EN) (n : Nat) (h : ∀ e ∈ ns, e.1.length ≤ 1048576) : ∀ e ∈ outN ns picks es n, e.1.length ≤ 1048576 := by
  intro e he
  unfold outN at he
  obtain ⟨i, _, rfl⟩ := List.mem_map.1 he
  simp only [List.length_take]
  have : (nodeOf ns (es.getD i (ByteArray.empty, 0))).1.length ≤ 1048576 := by
    unfold nodeOf
    rw [List.getD_eq_getElem?_getD]
    cases hg : ns[(es.getD i (ByteArray.empty, 0)).2.toNat]? with
    | none => simp
    | some x => exact h x (List.mem_of_getElem? hg)
  omega
/-- The list of entries of a crash. -/
def crE (D : MDisk) (dirs : Int) : List EN := preE (D.nodes.length : Int) D.kept D.pend dirs.toNat
/-- The disk behind a crash. -/
def crashD (D : MDisk) (dirs : Int) (picks : List Int) : MDisk := ⟨outN D.nodes picks (crE D dirs) (crE D dirs).length, outE (crE D dirs) (crE D dirs).length, outE (crE D dirs) (crE D dirs).length, [], D.quota⟩
def noDisk : MDisk := ⟨[], [], [], [], 0⟩
theorem fine_kept {D : MDisk} (hV : ValidD D) (hM : Modest D) : Fine (D.nodes.length : Int) D.kept := by
  obtain ⟨_, _, _, _, _, h6, _⟩ := hV
  obtain ⟨h1, h2, h3, h4⟩ := okList_apart h6
  exact ⟨h1, h2, h3, hM.s3, h4⟩
theorem fine_pre {D : MDisk} (hV : ValidD D) (hM : Modest D) (k : Nat) : Fine (D.nodes.length : Int) (preE (D.nodes.length : Int) D.kept D.pend k) :=
  preE_fine k hV.2.2.2.2.2.2 hM.s4 (fine_kept hV hM)
theorem ok_node {D : MDisk} (hV : ValidD D) (i : Nat) (h : i < D.nodes.length) : okNode D.nodes[i] = true := by
  obtain ⟨_, _, _, h4, _⟩ := hV
  exact (of_decide_eq_true h4).2.1 i h
end Go.Proofs.Ytledlicandlekab
namespace Go.Proofs.Ytledlicandlekab
open Go.RowKit
/-- A number's digits ahead of s. -/
def dgs (j : Nat) (s : ByteArray) : ByteArray := if _h : j = 0 then s else dgs (j / 10) (strB [48 + j % 10] ++ s)
termination_by j
decreasing_by omega
theorem dgs_zero (s : ByteArray) : dgs 0 s = s := by rw [dgs, dif_pos rfl]
theorem dgs_step (j : Nat) (s : ByteArray) (h : 0 < j) : dgs j s = dgs (j / 10) (strB [48 + j % 10] ++ s) := by rw [dgs, dif_neg (by omega)]
/-- What markText writes. -/
def mtx (k : Nat) : ByteArray := ⟨#[109]⟩ ++ dgs k ⟨#[]⟩
set_option maxRecDepth 20000 in
theorem markText_is (k : Nat) (w : World) (h0 : 0 < k) (hk : k ≤ 4503599627370496) :
    Calls Try.prog 69 #[.int .i64 (k : Int)] w fun e w' => e = .returned (.string (mtx k)) ∧ Below w.heap.size w w' := by
  have hpos : ¬ (k : Int) ≤ 0 := by omega
  go_enter Try.func69, Try.ntmps69
  go_wp2
  go_loopw [0, 3] (fun kv ov wr => ∃ (j : Nat) (s : ByteArray), kv = .int .i64 (j : Int) ∧ ov = .string s ∧ j ≤ k ∧ s.size + j ≤ k ∧ dgs j s = dgs k ⟨#[]⟩ ∧ Below w.heap.size w wr) (fun kv _ _ => (intOf kv).toNat)
  case atStart => exact ⟨k, _, rfl, rfl, Nat.le_refl _, by simp [ByteArray.size], rfl, Below.refl _ _⟩
  case round =>
    obtain ⟨j, s, rfl, rfl, hjk, hs, hd, hb⟩ := hrel
    by_cases hj : 0 < j
    · have hji : (0 : Int) < (j : Int) := by omega
      have hs1 := str_one wr ((48 : Int) + (j : Int) % 10) (48 + j % 10) (by omega)
      have HD := hide ((dgs_step j s hj).symm.trans hd)
      have htz : (strB [48 + j % 10]).size = 1 := by simp [strB, ByteArray.size]
      generalize strB [48 + j % 10] = t at hs1 htz HD
      have HB := hide (hb.alloc hb.size (.cells #[.int .u8 ((48 : Int) + (j : Int) % 10)] 5))
      clear hb hd
      have HZ := hide (show (t ++ s).size + j / 10 ≤ k by rw [ByteArray.size_append]; omega)
      go_wp2
      go_roundw
      case rel => exact ⟨j / 10, t ++ s, by go_num, rfl, by omega, HZ.out, HD.out, HB.out⟩
      case measure => simp [intOf]; omega
    · obtain rfl : j = 0 := by omega
      rw [dgs_zero] at hd
      have HD := hide hd
      have HM := hide (show mtx k = ⟨#[109]⟩ ++ s from by rw [mtx, HD.out])
      clear hd
      go_wp2
      go_ret
      exact ⟨by rw [HM.out]; rfl, hb⟩
end Go.Proofs.Ytledlicandlekab
namespace Go.Proofs.Ytledlicandlekab
open Go.RowKit
/-- What marking writes into a list of entries. -/
def marksE (k n : Nat) : List (ByteArray × Int) := (List.range n).map fun i => (mtx (k + 2 * i), ((k + 2 * i + 1 : Nat) : Int))
theorem marksE_length (k n : Nat) : (marksE k n).length = n := by simp [marksE]
theorem marksE_at (k n i : Nat) (h : i < (marksE k n).length) : (marksE k n)[i] = (mtx (k + 2 * i), ((k + 2 * i + 1 : Nat) : Int)) := by simp [marksE]
theorem marksE_succ (k n : Nat) : marksE k (n + 1) = marksE k n ++ [(mtx (k + 2 * n), ((k + 2 * n + 1 : Nat) : Int))] := by simp [marksE, List.range_succ]
def markedE (k : Nat) (l : List (ByteArray × Int)) (i : Nat) : List (ByteArray × Int) := marksE k i ++ l.drop i
theorem markedE_zero (k : Nat) (l : List (ByteArray × Int)) : markedE k l 0 = l := by simp [markedE, marksE]
theorem markedE_len (k : Nat) (l : List (ByteArray × Int)) : markedE k l l.length = marksE k l.length := by simp [markedE]
theorem markedE_length (k : Nat) (l : List (ByteArray × Int)) (i : Nat) (h : i ≤ l.length) : (markedE k l i).length = l.length := by simp [markedE, marksE_length]; omega
theorem markedE_set (k : Nat) (l : List (ByteArray × Int)) (i : Nat) (h : i < l.length) : (markedE k l i).set i (mtx (k + 2 * i), ((k + 2 * i + 1 : Nat) : Int)) = markedE k l (i + 1) := by
  unfold markedE
  rw [List.set_append_right _ _ (by simp [marksE_length])]
  have e : i - (marksE k i).length = 0 := by simp [marksE_length]
  rw [e, List.drop_eq_getElem_cons h, List.set_cons_zero, marksE_succ]
  simp
theorem OwnE.at0 {w : World} {base : Nat} {a : Option Addr} {n cap : Nat} {es : List (ByteArray × Int)} (h : OwnE w base (.slice a n cap) es) (hp : 0 < es.length) : ∃ g, a = some ⟨g, 0, none⟩ ∧ base ≤ g ∧ g < w.heap.size := by
  rcases h.2 with ⟨_, hn⟩ | ⟨g, cap', cur, h', hb, hg, _⟩
  · simp at hn; simp [hn] at hp
  · simp only [Value.slice.injEq] at h'
    exact ⟨g, h'.1, hb, lt_of_block hg⟩
set_option maxRecDepth 20000 in
set_option maxHeartbeats 1000000 in
theorem markE_own (base : Nat) (a : Option Addr) (cap k : Nat) (l : List (ByteArray × Int)) (w : World) (hk0 : 0 < k) (hk : k + 2 * l.length ≤ 4503599627370000) (hown : OwnE w base (.slice a l.length cap) l) :
    Calls Try.prog 37 #[.slice a l.length cap, .int .i64 (k : Int)] w fun e w' => e = .returned (.int .i64 ((k + 2 * l.length : Nat) : Int)) ∧ OwnE w' base (.slice a l.length cap) (marksE k l.length) ∧ Fr (fun g => (Value.slice a l.length cap).ownBlock = some g) w w' := by
  go_enter Try.func37, Try.ntmps37
  go_wp2
  go_loopw [1, 5] (fun s i wr => ∃ j : Nat, j ≤ l.length ∧ i = .int .i64 j ∧ s = .int .i64 ((k + 2 * j : Nat) : Int) ∧ OwnE wr base (.slice a l.length cap) (markedE k l j) ∧ Fr (fun g => (Value.slice a l.length cap).ownBlock = some g) w wr) (fun _ i _ => l.length - (intOf i).toNat)
  case atStart => exact ⟨0, Nat.zero_le _, rfl, rfl, by rw [markedE_zero]; exact hown, Fr.refl _ _⟩
  case round =>
    obtain ⟨j, hj, rfl, rfl, hown', hf⟩ := hrel
    clear hown
    by_cases hlt : j < l.length
    · have hml := markedE_length k l j hj
      obtain ⟨b, rfl, hb1, hb2⟩ := hown'.at0 (by omega)
      have hset : ((markedE k l j).map entP).set j (.string (mtx (k + 2 * j)), .int .i64 ((k + 2 * j + 1 : Nat) : Int)) = (markedE k l (j + 1)).map entP := by
        rw [← markedE_set k l j hlt, List.map_set]; rfl
      obtain ⟨s', hs'⟩ : ∃ s', s' = k + 2 * j := ⟨_, rfl⟩
      rw [← hs'] at hset ⊢
      have hb' : s' ≤ 4503599627370000 := by omega
      have HO := hide hown'
      have HF := hide hf
      have HJ := hide hs'
      have HS := hide hset
      have h0 : 0 < s' := by omega
      clear hown' hf hs' hset
      go_wp2_with fail
      refine (markText_is s' wr h0 (by omega)).mono ?_
      rintro e w2 ⟨rfl, hb2⟩
      have ho2 : OwnE w2 _ _ _ := HO.out.below hb2
      obtain ⟨hc0, hc1⟩ := Own2.cells ho2 j (by rw [List.length_map]; omega)
      have hf0 := Own2.frozen ho2 (j * 2)
      have hf1 := Own2.frozen ho2 (j * 2 + 1)
      have hst := Own2.store ho2 j (.string (mtx s')) (.int .i64 ((s' + 1 : Nat) : Int))
      rw [HS.out] at hst
      have hfr := ((HF.out.andThen hb2).set (g := b) (j := j * 2) (u := .string (mtx s')) rfl).set (g := b) (j := j * 2 + 1) (u := .int .i64 ((s' + 1 : Nat) : Int)) rfl
      have e1 : ((s' + 1 : Nat) : Int) = (s' : Int) + 1 := by omega
      rw [e1] at hst hfr
      have HX := hide (And.intro hst hfr)
      generalize (((markedE k l j).map entP)[j]'(by rw [List.length_map]; omega)).1 = y0 at hc0
      generalize (((markedE k l j).map entP)[j]'(by rw [List.length_map]; omega)).2 = y1 at hc1
      clear hst hfr ho2 hb2 HO HF HS hml e1
      generalize mtx s' = tx at HX ⊢
      go_wp2
      go_roundw
      case rel => exact ⟨j + 1, by omega, by go_num, by rw [show k + 2 * (j + 1) = s' + 1 + 1 from by have := HJ.out; omega]; go_num, HX.out.1, HX.out.2⟩
      case measure => simp [intOf]; omega
    · obtain rfl : j = l.length := by omega
      rw [markedE_len] at hown'
      have HO := hide hown'
      have HF := hide hf
      clear hown' hf
      go_wp2
      go_ret
      exact ⟨rfl, HO.out, HF.out⟩
set_option maxRecDepth 20000 in
set_option maxHeartbeats 1000000 in
theorem heldE_any (a : Option Addr) (cap k n : Nat) (w : World) (hk0 : 0 < k) (hk : k + 2 * n ≤ 4503599627370000) (hr : EntAt w a (marksE k n)) :
    Calls Try.prog 50 #[.slice a n cap, .int .i64 (k : Int)] w fun e w' => e = .returned (.int .i64 ((k + 2 * n : Nat) : Int)) ∧ Below w.heap.size w w' := by
  go_enter Try.func50, Try.ntmps50
  go_wp2
  go_loopw [1, 5] (fun s i wr => ∃ j : Nat, j ≤ n ∧ i = .int .i64 j ∧ s = .int .i64 ((k + 2 * j : Nat) : Int) ∧ Below w.heap.size w wr) (fun _ i _ => n - (intOf i).toNat)
  case atStart => exact ⟨0, Nat.zero_le _, rfl, rfl, Below.refl _ _⟩
  case round =>
    obtain ⟨j, hj, rfl, rfl, hb⟩ := hrel
    by_cases hlt : j < n
    · have hml := marksE_length k n
      have hr0 := hr.below hb
      have HR := hide hr
      obtain ⟨b, off, rfl, hc⟩ := hr0 (by omega)
      obtain ⟨hc0, hc1⟩ := hc j (by omega)
      rw [marksE_at k n j (by omega)] at hc0 hc1
      simp only [] at hc0 hc1
      obtain ⟨s', hs'⟩ : ∃ s', s' = k + 2 * j := ⟨_, rfl⟩
      rw [← hs'] at hc0 hc1 ⊢
      have e1 : ((s' + 1 : Nat) : Int) = (s' : Int) + 1 := by omega
      rw [e1] at hc1
      have hb' : s' ≤ 4503599627370000 := by omega
      have h0 : 0 < s' := by omega
      have HB := hide hb
      have HJ := hide hs'
      clear hr hc hml e1 hb hs'
      have HT := hide (fun W => markText_is s' W h0 (by omega))
      generalize mtx s' = tx at hc0 HT
      have hbq : (tx.toList == tx.toList) = true := by simp
      go_wp2
      go_region_with (go_at_call 69; refine (HT.out _).mono ?_; rintro e w2 ⟨rfl, hb2⟩; have d0 : w2.cell? ⟨b, off + j * 2, none⟩ = some (.string tx) := (hb2.cell (p := ⟨b, off + j * 2, none⟩) (lt_of_cell0 hc0)).trans hc0)
      all_goals
        have d1 : w2.cell? ⟨b, off + j * 2 + 1, none⟩ = some (.int .i64 ((s' : Int) + 1)) := (hb2.cell (p := ⟨b, off + j * 2 + 1, none⟩) (lt_of_cell0 hc1)).trans hc1
        have HN2 := hide (show Below w.heap.size w w2 from HB.out.drew.trans (hb2.mono HB.out.size))
        clear hc0 hc1 d0 hb2
        go_wp2
        go_roundw
        case rel => exact ⟨j + 1, by omega, by go_num, by rw [show k + 2 * (j + 1) = s' + 1 + 1 from by have := HJ.out; omega]; go_num, HN2.out⟩
        case measure => simp [intOf]; omega
    · obtain rfl : j = n := by omega
      have HB := hide hb
      clear hb
      go_wp2
      go_ret
      exact ⟨rfl, HB.out⟩
end Go.Proofs.Ytledlicandlekab
