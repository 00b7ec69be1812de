import Derived.Test.YtokcdpamcbpaiabEntsMath
import Derived.Test.YtokcdpamcbpaiabSpanMem
import Derived.Test.YtokcdpamcbpaiabDrawQ2
import Derived.Test.YtokcdpamcbpaiabNilQ
import Derived.Test.YtokcdpamcbpaiabSame
namespace Go.Proofs.Ytokcdpamcbpaiab
open Go.RowKit
theorem below_more {w w1 w2 : World} (h : Below w.heap.size w w1) (k : Below w1.heap.size w1 w2) : Below w.heap.size w w2 := h.trans (k.mono h.size)
theorem OwnBV.kept {w w' : World} {lo : Nat} {v : Value} {vs : List Value} {ls : List (List Nat)} {row : Option Nat} (h : OwnBV w lo v vs ls) (hg : w.grownBy w' row) (h1 : v.ownBlock = none ∨ v.ownBlock ≠ row) (h2 : ∀ y ∈ vs, y.ownBlock = none ∨ y.ownBlock ≠ row) : OwnBV w' lo v vs ls := by
  refine ⟨World.ownsRow.kept h.1 hg h1, fun i hi => ?_, h.2.2⟩
  obtain ⟨x, hx, ho⟩ := h.2.1 i hi
  exact ⟨x, hx, World.ownsRow.kept ho hg (h2 x (List.mem_of_getElem? hx))⟩
theorem OwnBV.own {w : World} {lo : Nat} {v y : Value} {vs : List Value} {ls : List (List Nat)} (h : OwnBV w lo v vs ls) (hy : y ∈ vs) : ∃ l, OwnB w lo y l := by
  obtain ⟨i, hi, rfl⟩ := List.getElem_of_mem hy
  have hl : vs.length = ls.length := by have := h.1.1; omega
  obtain ⟨x, hx, ho⟩ := h.2.1 i (by omega)
  rw [List.getElem?_eq_getElem hi] at hx
  simp only [Option.some.injEq] at hx
  rw [hx]
  exact ⟨_, ho⟩
/-- How the first loop stands: the text, the bodies, the ends. -/
structure FQ (w wr : World) (tv bl ev : Value) (vs : List Value) (T : List Nat) (B : List (List Nat)) (E : List Nat) : Prop where
  tx : OwnB wr w.heap.size tv T
  bo : OwnBV wr w.heap.size bl vs B
  en : OwnI wr w.heap.size ev E
  ap : ∀ y ∈ vs, y.ownBlock = none ∨ y.ownBlock ≠ tv.ownBlock
  bel : Below w.heap.size w wr
theorem FQ.below {w wr w' : World} {tv bl ev : Value} {vs : List Value} {T : List Nat} {B : List (List Nat)} {E : List Nat} (h : FQ w wr tv bl ev vs T B E) (hb : Below wr.heap.size wr w') : FQ w w' tv bl ev vs T B E :=
  ⟨h.tx.below hb (Nat.le_refl _), h.bo.below hb (Nat.le_refl _), h.en.below hb (Nat.le_refl _), h.ap, below_more h.bel hb⟩
theorem FQ.start (w : World) : FQ w w (.slice none 0 0) (.slice none 0 0) (.slice none 0 0) [] [] [] [] := ⟨OwnB.nil _ _, OwnBV.nil _ _, OwnI.nil _ _, (fun y hy => by cases hy), Below.refl _ _⟩
theorem FQ.text {w wr w' : World} {tv tv' bl ev : Value} {vs : List Value} {T e : List Nat} {B : List (List Nat)} {E : List Nat} (h : FQ w wr tv bl ev vs T B E) (ho : OwnB w' w.heap.size tv' (T ++ e)) (hg : wr.grownBy w' tv.ownBlock) (hk : tv'.ownBlock = tv.ownBlock ∨ tv'.ownBlock = some wr.heap.size) : FQ w w' tv' bl ev vs (T ++ e) B E := by
  refine ⟨ho, h.bo.kept hg (blocks_apart h.bo.1 h.tx (by decide)) h.ap, World.ownsRow.kept h.en hg (blocks_apart h.en h.tx (by decide)), fun y hy => ?_, h.bel.grown hg h.bel.size (fun g e => (World.ownsRow.lt h.tx g e).1)⟩
  rcases hk with e | e
  · rw [e]; exact h.ap y hy
  · rw [e]
    cases hy' : y.ownBlock with
    | none => exact .inl rfl
    | some g => exact .inr fun e' => by have := h.bo.lt y hy g hy'; simp only [Option.some.injEq] at e'; omega
theorem FQ.ends {w wr w' : World} {tv bl ev ev' : Value} {vs : List Value} {T : List Nat} {B : List (List Nat)} {E : List Nat} {n : Nat} (h : FQ w wr tv bl ev vs T B E) (ho : OwnI w' w.heap.size ev' (E ++ [n])) (hg : wr.grownBy w' ev.ownBlock) : FQ w w' tv bl ev' vs T B (E ++ [n]) :=
  ⟨World.ownsRow.kept h.tx hg (blocks_apart h.tx h.en (by decide)), h.bo.kept hg (blocks_apart h.bo.1 h.en (by decide)) (fun y hy => by obtain ⟨l, hl⟩ := h.bo.own hy; exact blocks_apart hl h.en (by decide)), ho, h.ap, h.bel.grown hg h.bel.size (fun g e => (World.ownsRow.lt h.en g e).1)⟩
theorem FQ.body {w wr w' : World} {tv bl bl' ev y : Value} {vs : List Value} {T l : List Nat} {B : List (List Nat)} {E : List Nat} (h : FQ w wr tv bl ev vs T B E) (hy : y.ownBlock = none ∨ y.ownBlock ≠ tv.ownBlock) (ho : OwnBV w' w.heap.size bl' (vs ++ [y]) (B ++ [l])) (hg : wr.grownBy w' bl.ownBlock) : FQ w w' tv bl' ev (vs ++ [y]) T (B ++ [l]) E := by
  refine ⟨World.ownsRow.kept h.tx hg (blocks_apart h.tx h.bo.1 (by decide)), ho, World.ownsRow.kept h.en hg (blocks_apart h.en h.bo.1 (by decide)), fun z hz => ?_, h.bel.grown hg h.bel.size (fun g e => (World.ownsRow.lt h.bo.1 g e).1)⟩
  rcases List.mem_append.1 hz with hz | hz
  · exact h.ap z hz
  · obtain rfl : z = y := by simpa using hz
    exact hy
def endsOf : Nat → List (List Nat) → List Nat
  | _, [] => []
  | p, b :: r => (p + (entryOf b).length) :: endsOf (p + (entryOf b).length) r
theorem ends_snoc (p : Nat) (bs : List (List Nat)) (b : List Nat) : endsOf p (bs ++ [b]) = endsOf p bs ++ [p + (bs.flatMap entryOf).length + (entryOf b).length] := by
  induction bs generalizing p with
  | nil => simp [endsOf]
  | cons x r ih => simp only [List.cons_append, endsOf, ih, List.flatMap_cons, List.length_append, Nat.add_assoc]
theorem ends_len (p : Nat) (bs : List (List Nat)) : (endsOf p bs).length = bs.length := by
  induction bs generalizing p with
  | nil => rfl
  | cons x r ih => simp [endsOf, ih]
theorem spansE_len (p : Nat) (bs : List (List Nat)) : (spansE p bs).length = bs.length := by
  induction bs generalizing p with
  | nil => rfl
  | cons x r ih => simp [spansE, ih]
/-- Where the k-th entry begins. -/
def stOf (bs : List (List Nat)) (k : Nat) : Nat := ((bs.take k).flatMap entryOf).length
theorem spansE_at (bs : List (List Nat)) : ∀ (p k : Nat) (h : k < bs.length) (h1 : k < (spansE p bs).length) (h2 : k < (endsOf p bs).length), (spansE p bs)[k] = (p + stOf bs k, p + stOf bs (k + 1), fullB bs[k]) ∧ (endsOf p bs)[k] = p + stOf bs (k + 1) := by
  induction bs with
  | nil => intro p k h; simp at h
  | cons x r ih =>
    intro p k h h1 h2
    cases k with
    | zero => simp [spansE, endsOf, stOf]
    | succ k =>
      obtain ⟨i1, i2⟩ := ih (p + (entryOf x).length) k (by simpa using h) (by rw [spansE_len]; simpa using h) (by rw [ends_len]; simpa using h)
      simp only [spansE, endsOf, List.getElem_cons_succ]
      rw [i1, i2]
      simp [stOf, Nat.add_assoc]
theorem ents_len (bs : List (List Nat)) (h : ∀ b ∈ bs, b.length ≤ 1000) : (bs.flatMap entryOf).length ≤ bs.length * 2012 := by
  induction bs with
  | nil => simp
  | cons b r ih =>
    have h1 := ih (fun x hx => h x (List.mem_cons_of_mem _ hx))
    have h2 := entry_len b
    have h3 := h b (List.mem_cons_self ..)
    rw [List.flatMap_cons, List.length_append, List.length_cons]
    omega
theorem drawQuote_n (a : Option Addr) (n cap : Nat) (code : List Nat) (w : World) (hn : code.length = n) (hl : n ≤ 1048576) (hr : RowAt w a code) (hb : ∀ x ∈ code, x < 256) :
    Calls Try.prog 13 #[.slice a n cap] w fun e w' => ∃ v l, e = .returned v ∧ OwnB w' w.heap.size v l ∧ l.length ≤ 2400 ∧ (∀ x ∈ l, x < 256) ∧ Below w.heap.size w w' := by
  subst hn; exact drawQuote_any a cap code w hl hr hb
theorem row_drop {w : World} {b off : Nat} {d : List Nat} (h : RowAt w (some ⟨b, off, none⟩) d) (g : Nat) : RowAt w (some ⟨b, off + g, none⟩) (d.drop g) := fun hp => by
  have hp' : g < d.length := by rw [List.length_drop] at hp; omega
  obtain ⟨b', off', e, hc⟩ := h (by omega)
  simp only [Option.some.injEq, Addr.mk.injEq, and_true] at e
  obtain ⟨rfl, rfl⟩ := e
  refine ⟨b, off + g, rfl, fun i hi => ?_⟩
  have hi' : g + i < d.length := by rw [List.length_drop] at hi; omega
  rw [Nat.add_assoc, hc (g + i) hi']
  simp
theorem OwnB.shorter {w : World} {base : Nat} {a : Option Addr} {cap n : Nat} {l : List Nat} (h : OwnB w base (.slice a l.length cap) l) (hn : n ≤ l.length) (h0 : 0 < n) : OwnB w base (.slice a n cap) (l.take n) := by
  rcases h.2 with ⟨e, hl⟩ | ⟨g, cap', cur, e, hb, hg, hc, hcm, hcs, ht⟩
  · omega
  · simp only [Value.slice.injEq, true_and] at e
    obtain ⟨rfl, rfl⟩ := e
    have hln : (l.take n).length = n := by rw [List.length_take]; omega
    refine ⟨by simp, .inr ⟨g, cap, cur, by rw [hln], hb, hg, by rw [hln]; omega, hcm, hcs, ?_⟩⟩
    rw [hln, List.map_take, Nat.mul_one]
    rw [Nat.mul_one] at ht
    rw [← ht, List.take_take, Nat.min_eq_left hn]
theorem fullB_len (b : List Nat) : (fullB b).length ≤ b.length + 1 := by unfold fullB; split <;> simp
end Go.Proofs.Ytokcdpamcbpaiab
