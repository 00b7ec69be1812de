import Derived.Test.YtledlicandlekaaDoorPopRd
import Derived.WideMake
namespace Go.Proofs.YtledlicandlekaaDoor
open Go.RowKit
/-- A map of function values, by what was put in. -/
def MapF (w : World) (b : Nat) (es : List (ByteArray × Value)) : Prop := ∃ (ents : Array MapEntry) (clock : Nat), w.heap[b]? = some (.map ents clock) ∧ ents.toList.map (fun e => (e.key, e.val)) = es.map (fun p => (Value.string p.1, p.2))
theorem MapF.lt {w : World} {b : Nat} {es : List (ByteArray × Value)} (h : MapF w b es) : b < w.heap.size := by
  obtain ⟨_, _, h, _⟩ := h
  exact lt_of_block h
theorem MapF.below {w w' : World} {B b : Nat} {es : List (ByteArray × Value)} (h : MapF w b es) (hb : Below B w w') (hB : b < B) : MapF w' b es := by
  obtain ⟨e, c, h, h2⟩ := h
  exact ⟨e, c, (hb.block b hB).trans h, h2⟩
theorem MapF.two {w w' : World} {b1 b2 b : Nat} {es : List (ByteArray × Value)} (h : MapF w b es) (hb : Two b1 b2 w w') (h1 : b ≠ b1) (h2 : b ≠ b2) : MapF w' b es := by
  obtain ⟨e, c, h, h3⟩ := h
  exact ⟨e, c, (hb.block b (lt_of_block h) h1 h2).trans h, h3⟩
theorem mapF_new (w : World) : MapF (w.alloc (.map #[] 0)) w.heap.size [] := ⟨#[], 0, heap_alloc_new w _, rfl⟩
def lookF : List (ByteArray × Value) → ByteArray → Option Value
  | [], _ => none
  | p :: r, k => if k = p.1 then some p.2 else lookF r k
theorem lookF_none {es : List (ByteArray × Value)} {k : ByteArray} (h : (es.all fun p => !decide (k = p.1)) = true) : lookF es k = none := by
  induction es with
  | nil => rfl
  | cons p r ih =>
    rw [List.all_cons, Bool.and_eq_true] at h
    rw [lookF, if_neg (by simpa using h.1)]
    exact ih h.2
theorem findNow_f (k : ByteArray) : ∀ (l : List MapEntry) (es : List (ByteArray × Value)) (i : Nat), l.map (fun e => (e.key, e.val)) = es.map (fun p => (Value.string p.1, p.2)) → ∃ r, Instr.findNow .string (.string k) l i = some r ∧ r.map (·.2) = lookF es k
  | [], es, i, h => by
    have : es = [] := by
      cases es with
      | nil => rfl
      | cons p q => simp at h
    subst this
    exact ⟨none, rfl, rfl⟩
  | e :: l, es, i, h => by
    cases es with
    | nil => simp at h
    | cons p r =>
      simp only [List.map_cons, List.cons.injEq, Prod.mk.injEq] at h
      obtain ⟨⟨h1, h2⟩, h3⟩ := h
      have hs : Instr.sameNow .string (.string k) e.key = some (k == p.1) := by rw [h1]; rfl
      by_cases hk : k = p.1
      · have hb : (k == p.1) = true := (MapKept.bytes_beq k p.1).2 hk
        refine ⟨some (i, e.val), ?_, ?_⟩
        · unfold Instr.findNow
          rw [hs, hb]
        · rw [lookF, if_pos hk, h2]; rfl
      · have hb : (k == p.1) = false := by
          cases e : (k == p.1) with
          | false => rfl
          | true => exact absurd ((MapKept.bytes_beq k p.1).1 e) hk
        obtain ⟨r', h4, h5⟩ := findNow_f k l r (i + 1) h3
        refine ⟨r', ?_, ?_⟩
        · unfold Instr.findNow
          rw [hs, hb]
          exact h4
        · rw [lookF, if_neg hk]; exact h5
theorem wpList_insert_f {P : Program} (w : World) {ops : Array Oper} {rest : List Oper} {o : Oper} {a : Act} {Q : Exit → Act → World → Prop} (hg : o.guard = none) (m x y : Operand) (t et : TypeId) (hop : o.op = Op.insert t m x y)
    (ht : P.underlying t = some (.map 9 et)) (hk : P.underlying 9 = some .string) (b : Nat) (es : List (ByteArray × Value)) (k : ByteArray) (v : Value) (hm : a.eval m = .map (some b)) (hx : a.eval x = .string k) (hy : a.eval y = v)
    (hF : MapF w b es) (hno : lookF es k = none) (h : ∀ w', MapF w' b (es ++ [(k, v)]) → (∀ g, g ≠ b → w'.heap[g]? = w.heap[g]?) → w'.heap.size = w.heap.size → w'.os = w.os ∧ w'.tape = w.tape ∧ w'.output = w.output → wpList P ops Q rest (a.put o.dst (.tuple #[])) w') : wpList P ops Q (o :: rest) a w := by
  refine wpList_plain hg fun K' hK' => ?_
  obtain ⟨ents, clock, hb, hes⟩ := hF
  obtain ⟨r, hf, hr⟩ := findNow_f k ents.toList es 0 hes
  rw [hno] at hr
  have hr' : r = none := by cases r with | none => rfl | some q => simp at hr
  subst hr'
  have hc : (Instr.checkKey false 10000 9 (.string k)).run P w = .ok () w := MapKept.run_checkKey (k := .string k) hk (by simp [MapKept.IsKey]) false 9999
  have hrun : (Instr.mapUpdate t (.map (some b)) (.string k) v).run P w = .ok () { w with heap := w.heap.setIfInBounds b (.map (ents.push { key := .string k, val := v, born := clock }) (clock + 1)) } := by
    simp [Instr.mapUpdate, run_underlying ht, MapKept.run_getObj_map hb, hc, MapKept.run_findKey hk hf, MapKept.run_setObj_map _ hb, Result.andThen]
  have hw := h { w with heap := w.heap.setIfInBounds b (.map (ents.push { key := .string k, val := v, born := clock }) (clock + 1)) } ⟨ents.push { key := .string k, val := v, born := clock }, clock + 1, by simp [lt_of_block hb], by rw [Array.toList_push, List.map_append, List.map_append, hes]; rfl⟩ (fun g hg => by simp [Ne.symm hg]) (by simp) ⟨rfl, rfl, rfl⟩
  unfold Oper.wp
  simp [execOp, hop, hm, hx, hy, hrun, Result.andThen]
  exact hK' _ _ hw
theorem wpList_lookup_f {P : Program} (w : World) {ops : Array Oper} {rest : List Oper} {o : Oper} {a : Act} {Q : Exit → Act → World → Prop} (hg : o.guard = none) (m x : Operand) (t et : TypeId) (hop : o.op = Op.lookup t m x false)
    (ht : P.underlying t = some (.map 9 et)) (hk : P.underlying 9 = some .string) (hz : (zeroValue et).run P w = .ok .nilFunc w) (b : Nat) (es : List (ByteArray × Value)) (k : ByteArray) (hm : a.eval m = .map (some b)) (hx : a.eval x = .string k)
    (hF : MapF w b es) (h : wpList P ops Q rest (a.put o.dst ((lookF es k).getD .nilFunc)) w) : wpList P ops Q (o :: rest) a w := by
  refine wpList_plain hg fun K' hK' => ?_
  obtain ⟨ents, clock, hb, hes⟩ := hF
  obtain ⟨r, hf, hr⟩ := findNow_f k ents.toList es 0 hes
  have hc : ∀ e, (Instr.checkKey e 10000 9 (.string k)).run P w = .ok () w := fun e => MapKept.run_checkKey (k := .string k) hk (by simp [MapKept.IsKey]) e 9999
  have hrun : (Instr.lookup t (.map (some b)) (.string k) false).run P w = .ok ((lookF es k).getD .nilFunc) w := by
    rw [← hr]
    cases r with
    | none => simp [Instr.lookup, run_underlying ht, MapKept.run_getObj_map hb, hc, MapKept.run_findKey hk hf, hz, Result.andThen]
    | some q => simp [Instr.lookup, run_underlying ht, MapKept.run_getObj_map hb, hc, MapKept.run_findKey hk hf, Result.andThen]
  unfold Oper.wp
  simp [execOp, hop, hm, hx, hrun, Result.andThen]
  exact hK' _ _ h
end Go.Proofs.YtledlicandlekaaDoor
