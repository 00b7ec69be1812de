import Derived.Test.YtokcdpamcbpaiabMem
import Derived.RangeFuncNested
import Derived.RangeFuncBound
import Derived.RangeFuncCalls
import Derived.RangeFuncLeaves
import Derived.Shelf.Abstract
import Derived.Shelf.RegionOpen
import Derived.WalkKit
import Derived.OwnWalkIn
import Derived.TacticsInMore
import Derived.LoopNIn
import Derived.LoopIn
import Derived.Scope
namespace Go.Proofs.Ytokcdpamcbpaiab
open Go.RowKit
/-- What lies behind the book-keeping of a loop and the steps of an iterator that writes its own block bs alone: all cells but those of bs, and all below n₀. -/
structure Calm (n₀ bs : Nat) (W W' : World) : Prop where
  os : W'.os = W.os
  tape : W'.tape = W.tape
  output : W'.output = W.output
  size : W.heap.size ≤ W'.heap.size
  low : ∀ k, k < n₀ → W'.heap[k]? = W.heap[k]?
  cells : ∀ (k : Nat) (o : Obj), W.heap[k]? = some o → o.isCells = true → k ≠ bs → W'.heap[k]? = some o
theorem Calm.alloc (n₀ bs : Nat) (W : World) (hn : n₀ ≤ W.heap.size) (o : Obj) : Calm n₀ bs W (W.alloc o) :=
  ⟨rfl, rfl, rfl, by simp, fun k hk => Below.heap_alloc W o k (by omega), fun k o' hk _ _ => (Below.heap_alloc W o k (Array.getElem?_eq_some_iff.1 hk).1).trans hk⟩
theorem Calm.putObj {n₀ bs l : Nat} {W : World} {o : Obj} (hl : W.heap[l]? = some o) (ho : o.isCells = false) (hn : n₀ ≤ l) (o' : Obj) : Calm n₀ bs W (W.putObj l o') :=
  ⟨rfl, rfl, rfl, by simp, fun k hk => World.putObj_heap_other (by omega), fun k o2 hk h2 _ => (World.putObj_heap_other (fun e => by subst e; rw [hl] at hk; cases hk; rw [ho] at h2; cases h2)).trans hk⟩
theorem Calm.setCell {n₀ bs : Nat} (W : World) (hn : n₀ ≤ bs) (v : Value) : Calm n₀ bs W (W.setCell ⟨bs, 0, none⟩ v) :=
  ⟨rfl, rfl, rfl, by simp, fun k hk => heap_setCell_other W _ k v (by simp; omega), fun k o hk _ hne => (heap_setCell_other W _ k v (by simpa using hne)).trans hk⟩
theorem Calm.drew {n₀ bs : Nat} (W : World) : Calm n₀ bs W W.drew := ⟨rfl, rfl, rfl, Nat.le_refl _, fun _ _ => rfl, fun _ _ h _ _ => h⟩
theorem Calm.below {n₀ bs : Nat} {W W' : World} (h : Calm n₀ bs W W') : Below n₀ W W' := ⟨h.os, h.tape, h.output, h.size, h.low⟩
/-- What a round keeps: what lies below n₀, and the iterator's own block. -/
def Kept (n₀ bs : Nat) (W W' : World) : Prop := Below n₀ W W' ∧ W'.heap[bs]? = W.heap[bs]?
theorem Kept.trans {n₀ bs : Nat} {A B C : World} (h : Kept n₀ bs A B) (k : Kept n₀ bs B C) : Kept n₀ bs A C := ⟨h.1.trans k.1, k.2.trans h.2⟩
theorem Kept.putObj {n₀ bs l : Nat} (W : World) (o' : Obj) (hn : n₀ ≤ l) (hb : bs < l) : Kept n₀ bs W (W.putObj l o') :=
  ⟨⟨rfl, rfl, rfl, by simp, fun k hk => World.putObj_heap_other (by omega)⟩, World.putObj_heap_other (by omega)⟩
/-- How a round's body must end: it goes on. -/
def goesOn {α : Type} (n₀ bs : Nat) (I : List α → World → Prop) (xs : List α) (W : World) : Exit → Act → World → Prop
  | .normal, _, W' => KeepsOthers W W' ∧ Kept n₀ bs W W' ∧ I xs W'
  | _, _, _ => False
variable {F : Fence} {n : Nat} {P : Program}
theorem stepR_scope {b : Frame} {a : Act} {k : List Item} {cs : List Frame} {w : World} {c : Code} : step P (lone (b.atR a (.code (.scope c) :: k)) cs w) = .next (lone (b.atR a (.code c :: .inScope c :: k)) cs w) :=
  step_lone_go (by simp [stepG, stepG.exec, Frame.atR])
theorem stepR_inScope {b : Frame} {a : Act} {k : List Item} {cs : List Frame} {w : World} {c : Code} : step P (lone (b.atR a (.inScope c :: k)) cs w) = .next (lone (b.atR a k) cs w) :=
  step_lone_go (by simp [stepG, stepG.exec, Frame.atR])
/-- A scope whose labels nobody jumps to. -/
theorem wpIn_scope {c : Code} {Q : Exit → Act → World → Prop} {a : Act} {w : World} (h : c.wpIn F n P (Exit.noGoto Q) a w) : (Code.scope c).wpIn F n P Q a w := by
  intro b k cs hro hb hr
  have h0 : (lone (b.atR a (.code (.scope c) :: k)) cs w).fenced P F := fenced_calm hb hr rfl
  obtain ⟨e, a1, w1, hq, harr⟩ := h b (.inScope c :: k) cs hro hb hr
  cases e with
  | normal => exact ⟨.normal, a1, w1, hq, .head h0 stepR_scope (StepsIn.trans harr (.one (fenced_calm hb hr rfl) stepR_inScope))⟩
  | exit id =>
    have hx : exitTo id (.inScope c :: k) = exitTo id k := by simp [exitTo]
    exact ⟨.exit id, a1, w1, hq, fun k' hk => .head h0 stepR_scope (harr.1 k' (by rw [hx]; exact hk)), fun hr' hk => let ⟨k1, h1, h2⟩ := harr.2 hr' (by rw [hx]; exact hk); ⟨k1, h1, .head h0 stepR_scope h2⟩⟩
  | goto l => exact hq.elim
  | ret => exact ⟨_, a1, w1, hq, .of_steps (.one h0 stepR_scope) harr⟩
  | panic ch => exact ⟨_, a1, w1, hq, .of_steps (.one h0 stepR_scope) harr⟩
  | outgrown => exact ⟨_, a1, w1, hq, .of_steps (.one h0 stepR_scope) harr⟩
/-- A range over an iterator that keeps its state in a block of its own, where every round goes on. -/
theorem wpIn_range_on {α : Type} {g : Operand} {ps : Array Tmp} {assign body : Code} {Q : Exit → Act → World → Prop} {a : Act} {w : World} (n₀ bs : Nat) (hbs : bs < w.heap.size) (hn₀ : n₀ ≤ bs)
    (hro : F.round = none) (h1 : 1 ≤ n) {gf : Nat} {lb : Array Value} (hg : a.eval g = .func (.func gf) #[] lb) (hFg : F.fn gf) (eg : ∀ args w, (callFunc gf args).run P w = .ok (.enter gf args) w)
    {encs : α → Array Value} (hps : ∀ x, (encs x).size = ps.size) {S : List α → Prop} (N : Nat)
    (I : List α → World → Prop) (hI : ∀ pre W W', Calm n₀ bs W W' → I pre W → I pre W') (h0 : I [] w) (a₁ : α → Act)
    (hseq : ∀ (l : Nat) (J : List α → World → Prop) (W : World), bs < l → W.heap[bs]? = w.heap[bs]? → Below w.heap.size w W →
      (∀ pre W1 v, J pre W1 → J pre (W1.setCell ⟨bs, 0, none⟩ v)) → (∀ pre W1, J pre W1 → J pre W1.drew) →
      (∀ pre x W1, J pre W1 → pre.length < N → YieldAt F (n - 1 - 1) P l (encs x) W1 fun e W' => e = .returned (.bool true) ∧ J (pre ++ [x]) W' ∧ Kept n₀ bs W1 W') → J [] W →
      CallsIn F (n - 1) P gf (#[.func (.yield l) #[] #[]] ++ lb) W fun e W' => (∃ v, e = .returned v) ∧ ∃ xs, S xs ∧ J xs W')
    (hassign : ∀ (l : Nat) (x : α) (W : World) (K : Act → World → Prop), K (a₁ x) W →
      assign.wpIn (F.inRound l) (n - 1 - 1) P (Exit.then K (fun _ _ _ => False)) { tmps := (ps.zip (encs x)).foldl (fun t (p, v) => t.setIfInBounds p v) a.tmps, defers := [] } W)
    (hbody : ∀ (l : Nat) (pre : List α) (x : α) (W : World), I pre W → pre.length < N → w.heap.size < W.heap.size → body.wpIn (F.inRound l) (n - 1 - 1) P (goesOn n₀ bs I (pre ++ [x]) W) (a₁ x) W)
    (hdone : ∀ (D : Nat) (xs : List α) (W : World), S xs → I xs W → w.heap.size ≤ D → W.heap[D]? = some (.deferred (some [])) → Q .normal { a with defers := { target := .collected D, args := #[] } :: a.defers } W) :
    (Code.rangeFunc g ps assign body).wpIn F n P Q a w := by
  refine wpIn_rangeFunc ?_
  intro fn hfn
  rw [hro]
  generalize hB : w.heap.size = B at hbs hn₀ hseq hbody hdone
  have hrec : ∃ rec : LoopState → Loop, ∀ st, rec st = { state := st, pending := none, fn := fn, tmps := a.tmps, params := ps, assign := assign, body := body, defers := B } := ⟨fun st => _, fun st => rfl⟩
  obtain ⟨rec, hrec⟩ := hrec
  have hW1 : ∃ W1, W1 = (w.alloc (.deferred (some []))).alloc (.loop (rec .ready)) := ⟨_, rfl⟩
  obtain ⟨W1, hW1⟩ := hW1
  have hsz : (w.alloc (.deferred (some []))).heap.size = B + 1 := by rw [World.size_alloc, hB]
  have hl1 : W1.heap[B + 1]? = some (.loop (rec .ready)) := by rw [hW1, ← hsz]; exact heap_alloc_new _ _
  have hd1 : W1.heap[B]? = some (.deferred (some [])) := by rw [hW1, Below.heap_alloc _ _ _ (by rw [hsz]; omega), ← hB]; exact heap_alloc_new _ _
  have hbel : Below w.heap.size w W1 := by rw [hW1]; exact ((Below.refl _ w).alloc (Nat.le_refl _) _).alloc (by rw [hsz, hB]; omega) _
  have hI1 : I [] W1 := by
    rw [hW1]
    exact hI _ _ _ (Calm.alloc n₀ bs _ (by rw [hsz]; omega) _) (hI _ _ _ (Calm.alloc n₀ bs w (by rw [hB]; omega) _) h0)
  refine ⟨B + 1, [{ target := .collected B, args := #[] }], W1, { target := .fn (.func gf) lb, args := #[.func (.yield (B + 1)) #[] #[]] }, W1, gf, #[.func (.yield (B + 1)) #[] #[]] ++ lb, W1, ?_, ?_, ?_, ?_, fun _ => h1, ?_⟩
  · rw [hW1, hrec, ← hB]; exact run_enterLoop_outer _ _ _ _ _
  · simp only [resolve, hg]
    simp [go_sem]
  · intro f' hf'; simp [Target.leads] at hf'; subst hf'; exact hFg
  · simp [invoke, go_sem, eg]
  · refine (hseq (B + 1) (fun pre W => I pre W ∧ W.heap[B + 1]? = some (.loop (rec .ready)) ∧ W.heap[B]? = some (.deferred (some []))) W1 (by omega) (hbel.block bs (by omega)) (by rw [hB] at hbel; exact hbel) ?_ ?_ ?_ ⟨hI1, hl1, hd1⟩).mono ?_
    · rintro pre W v ⟨hi, hl, hd⟩
      exact ⟨hI _ _ _ (Calm.setCell W hn₀ v) hi, (heap_setCell_other W _ _ v (by simp; omega)).trans hl, (heap_setCell_other W _ _ v (by simp; omega)).trans hd⟩
    · rintro pre W ⟨hi, hl, hd⟩
      exact ⟨hI _ _ _ (Calm.drew W) hi, hl, hd⟩
    · rintro pre x W ⟨hi, hl, hd⟩ hN
      have hlt : B + 1 < W.heap.size := (Array.getElem?_eq_some_iff.1 hl).1
      have hy := run_yield (P := P) (args := encs x) hl (by rw [hrec]; exact hps x)
      rw [hrec] at hy
      refine ⟨fn, _, assign, body, hy, roundIn_of_wpIn hfn (hassign _ x W _ ⟨_, run_beginRound hl (by rw [hrec]), ?_⟩)⟩
      have hbusy : ({ rec .ready with state := .busy } : Loop) = rec .busy := by rw [hrec, hrec]
      rw [hbusy]
      have hl2 : (W.putObj (B + 1) (.loop (rec .busy))).heap[B + 1]? = some (.loop (rec .busy)) := World.putObj_heap_same hlt
      have hd2 : (W.putObj (B + 1) (.loop (rec .busy))).heap[B]? = some (.deferred (some [])) := (World.putObj_heap_other (by omega)).trans hd
      have k2 : Kept n₀ bs W (W.putObj (B + 1) (.loop (rec .busy))) := Kept.putObj W _ (by omega) (by omega)
      refine wpIn_mono (hbody _ pre x _ (hI _ _ _ (Calm.putObj hl rfl (by omega) _) hi) hN (by simp; omega)) ?_
      intro e a3 W3 hp
      cases e with
      | normal =>
        obtain ⟨hk3, hkp3, hi3⟩ := hp
        have hl3 := hk3.same _ _ hl2 rfl
        have hd3 := hk3.same _ _ hd2 rfl
        have hr := run_endRound (P := P) none hl3
        have hrdy : ({ rec .busy with state := if (none : Option Code).isNone then .ready else .done, pending := none } : Loop) = rec .ready := by rw [hrec, hrec]; rfl
        rw [hrdy] at hr
        have hlt3 : B + 1 < W3.heap.size := (Array.getElem?_eq_some_iff.1 hl3).1
        exact ⟨_, _, hr, rfl, ⟨hI _ _ _ (Calm.putObj hl3 rfl (by omega) _) hi3, World.putObj_heap_same hlt3, (World.putObj_heap_other (by omega)).trans hd3⟩, (k2.trans hkp3).trans (Kept.putObj W3 _ (by omega) (by omega))⟩
      | ret => exact hp.elim
      | exit id => exact hp.elim
      | goto t => exact hp.elim
      | panic ch => exact hp.elim
      | outgrown => exact hp.elim
    · rintro e W2 ⟨⟨v, rfl⟩, xs, hS, hi, hl, hd⟩
      have hr := run_endLoop (P := P) hl (by rw [hrec]; simp)
      rw [show (rec .ready).pending = none from by rw [hrec]] at hr
      exact ⟨none, _, hr, hdone _ xs _ hS (hI _ _ _ (Calm.putObj hl rfl (by omega) _) hi) (by omega) ((World.putObj_heap_other (by omega)).trans hd)⟩
end Go.Proofs.Ytokcdpamcbpaiab
