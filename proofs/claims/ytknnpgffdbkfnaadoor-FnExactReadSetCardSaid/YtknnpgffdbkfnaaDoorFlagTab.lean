import Derived.Test.YtknnpgffdbkfnaaDoorPairs
import Derived.Deep.WholeRow
namespace Go.Proofs.YtknnpgffdbkfnaaDoor
open Go.RowKit
/-- The letter and the bit of row i of the table. -/
def fLet : Nat → Nat
  | 0 => 68
  | 1 => 70
  | 2 => 82
  | 3 => 83
  | 4 => 84
  | i => 92 + i
def fBit : Nat → Nat
  | 0 => 4
  | 1 => 1
  | 2 => 0
  | 3 => 3
  | 4 => 2
  | i => i
def rowV (i : Nat) : Value × Value := (.int .i32 (fLet i : Int), .int .u64 (fBit i : Int))
/-- The table when its first k rows are laid. -/
def tabRows (k : Nat) : List (Value × Value) := (List.range 31).map fun i => if i < k then rowV i else (.int .i32 0, .int .u64 0)
def tabA (k : Nat) : Array Value := (two (tabRows k)).toArray
theorem Tryd.infoTab : (Tryd.prog.info? 71).map (fun i => (i.zero, i.size)) = some (some (.agg (tabA 0)), 62) := by kernel_rfl
theorem tabRows_length (k : Nat) : (tabRows k).length = 31 := by simp [tabRows]
theorem tabA_size (k : Nat) : (tabA k).size = 62 := by simp [tabA, two_length, tabRows_length]
theorem tabRows_set (k : Nat) : (tabRows k).set k (rowV k) = tabRows (k + 1) := by
  apply List.ext_getElem
  · simp [tabRows]
  · intro i h1 h2
    rw [List.getElem_set]
    simp only [tabRows, List.getElem_map, List.getElem_range]
    by_cases e : k = i
    · subst e; simp
    · rw [if_neg e]
      by_cases h' : i < k
      · rw [if_pos h', if_pos (by omega)]
      · rw [if_neg h', if_neg (by omega)]
theorem tabA_set (k : Nat) : ((tabA k).setIfInBounds (k * 2) (.int .i32 (fLet k : Int))).setIfInBounds (k * 2 + 1) (.int .u64 (fBit k : Int)) = tabA (k + 1) := by
  unfold tabA
  rw [← tabRows_set k, ← show two ((tabRows k).set k (rowV k)) = _ from rfl]
  rw [show rowV k = (Value.int .i32 (fLet k : Int), Value.int .u64 (fBit k : Int)) from rfl, ← two_set]
  simp
theorem tabA_one (k : Nat) : ∀ v ∈ (tabA k), v.oneCell' = true := by
  intro v hv
  simp only [tabA, List.mem_toArray, two, List.mem_flatMap] at hv
  obtain ⟨p, hp, hv⟩ := hv
  simp only [tabRows, List.mem_map] at hp
  obtain ⟨i, _, rfl⟩ := hp
  split at hv <;> simp [rowV] at hv <;> rcases hv with rfl | rfl <;> rfl
theorem run_alloc_tab (w : World) : (Instr.alloc 71 true (.tuple #[])).run Tryd.prog w = .ok (.pointer (some ⟨w.heap.size, 0, none⟩)) (w.alloc (.cells (tabA 0) 71)) := by
  have h := (zero_of_info Tryd.infoTab).1
  simp [Instr.alloc, h, newVar, Value.cells]
  rfl
/-- A block that holds the table's first k rows. -/
def TabAt (w : World) (g k : Nat) : Prop := w.heap[g]? = some (.cells (tabA k) 71 (0, 0))
theorem TabAt.cell {w : World} {g k : Nat} (h : TabAt w g k) (j : Nat) (hj : j < 62) : ∃ v, w.cell? ⟨g, j, none⟩ = some v := by
  rw [cell_of_row w g j _ _ _ h]
  exact ⟨_, Array.getElem?_eq_getElem (by rw [tabA_size]; exact hj)⟩
theorem TabAt.frozen {w : World} {g k : Nat} (h : TabAt w g k) (j : Nat) : w.frozen? ⟨g, j, none⟩ = false := by
  unfold TabAt at h
  simp [World.frozen?, h]
theorem TabAt.next {w : World} {g k : Nat} (h : TabAt w g k) : TabAt ((w.setCell ⟨g, k * 2, none⟩ (.int .i32 (fLet k : Int))).setCell ⟨g, k * 2 + 1, none⟩ (.int .u64 (fBit k : Int))) g (k + 1) := by
  unfold TabAt
  rw [setCell_eq_setRow w g (k * 2) _ _ _ _ h, setCell_eq_setRow _ g (k * 2 + 1) _ _ _ _ (setRow_heap w g _ _ _ _ h), setRow_setRow, setRow_heap w g _ _ _ _ h, tabA_set]
theorem wpList_alloc_tab {ops : Array Oper} {rest : List Oper} {o : Oper} {act : Act} {Q : Exit → Act → World → Prop} (w : World) (hgd : o.guard = none) (ho : o.op = .alloc 71)
    (h : ∀ w', TabAt w' w.heap.size 0 → Below w.heap.size w w' → wpList Tryd.prog ops Q rest (act.put o.dst (.pointer (some ⟨w.heap.size, 0, none⟩))) w') : wpList Tryd.prog ops Q (o :: rest) act w := by
  refine wpList_plain hgd fun K hK => ?_
  unfold Oper.wp execOp
  simp only [ho, Sem.run_bind, run_alloc_tab, Result.andThen_ok]
  exact hK _ _ (h _ (heap_alloc_new w _) ((Below.refl _ _).alloc (Nat.le_refl _) _))
theorem wpList_build_tab {ops : Array Oper} {rest : List Oper} {o : Oper} {act : Act} {Q : Exit → Act → World → Prop} (w : World) (hgd : o.guard = none) (parts : Array (Nat × Operand)) (ho : o.op = .build 71 parts)
    (hb : Tryd.prog.built 71 (parts.map fun (i, x) => (i, act.eval x)).toList = some (tabA 5))
    (h : wpList Tryd.prog ops Q rest (act.put o.dst (.agg (tabA 5))) w) : wpList Tryd.prog ops Q (o :: rest) act w := by
  refine wpList_build hgd _ parts ho (by rw [hb]; rfl) ?_
  rw [hb]; exact h
theorem wpList_store_tab {ops : Array Oper} {rest : List Oper} {o : Oper} {act : Act} {Q : Exit → Act → World → Prop} (w : World) (g j k : Nat) (hgd : o.guard = none) (x y : Operand) (ho : o.op = .store 71 x y)
    (hx : act.eval x = .pointer (some ⟨g, 0, none⟩)) (hy : act.eval y = .agg (tabA k)) (hg : TabAt w g j)
    (h : ∀ w', TabAt w' g k → w.grownBy w' (some g) → wpList Tryd.prog ops Q rest (act.put o.dst undef) w') : wpList Tryd.prog ops Q (o :: rest) act w := by
  refine wpList_store_row hgd _ x y ho g (tabA k) hx hy _ _ hg (by rw [tabA_size]; exact (zero_of_info Tryd.infoTab).2) (by rw [tabA_size, tabA_size]) (Array.all_eq_true_iff_forall_mem.2 (tabA_one k)) (h _ (setRow_heap w g _ _ _ _ hg) ?_)
  exact ⟨rfl, rfl, rfl, by simp, fun i _ hi => setRow_other w g i _ (fun e => hi (by rw [e]))⟩
theorem wpList_load_tab {ops : Array Oper} {rest : List Oper} {o : Oper} {act : Act} {Q : Exit → Act → World → Prop} (w : World) (g k : Nat) (hgd : o.guard = none) (x : Operand) (ho : o.op = .load 71 x)
    (hx : act.eval x = .pointer (some ⟨g, 0, none⟩)) (hg : TabAt w g k)
    (h : wpList Tryd.prog ops Q rest (act.put o.dst (.agg (tabA k))) w) : wpList Tryd.prog ops Q (o :: rest) act w :=
  wpList_load_row hgd _ x ho g hx _ _ _ _ hg Tryd.underlying71 rfl (by rw [tabA_size]; exact (zero_of_info Tryd.infoTab).2) h
theorem built2 (n m : Int) : Tryd.prog.built 70 [(0, .int .i32 n), (1, .int .u64 m)] = some #[.int .i32 n, .int .u64 m] := by kernel_rfl
theorem wpList_build_row {ops : Array Oper} {rest : List Oper} {o : Oper} {act : Act} {Q : Exit → Act → World → Prop} (w : World) (hgd : o.guard = none) (x y : Operand) (n m : Int) (ho : o.op = .build 70 #[(0, x), (1, y)])
    (hx : act.eval x = .int .i32 n) (hy : act.eval y = .int .u64 m)
    (h : wpList Tryd.prog ops Q rest (act.put o.dst (.agg #[.int .i32 n, .int .u64 m])) w) : wpList Tryd.prog ops Q (o :: rest) act w := by
  have hb : Tryd.prog.built 70 ((#[(0, x), (1, y)] : Array (Nat × Operand)).map fun (i, x) => (i, act.eval x)).toList = some #[.int .i32 n, .int .u64 m] := by
    simp [hx, hy, built2]
  refine wpList_build hgd _ _ ho (by rw [hb]; rfl) ?_
  rw [hb]; exact h
theorem fLet_key (k : Nat) : fLet (5 + k) = 97 + k := by rw [Nat.add_comm]; simp only [fLet]; omega
theorem fBit_key (k : Nat) : fBit (5 + k) = 5 + k := by rw [Nat.add_comm]; simp only [fBit]
theorem TabAt.below {w w' : World} {g k : Nat} (h : TabAt w g k) (hb : Below w.heap.size w w') : TabAt w' g k := (hb.block g (lt_of_block h)).trans h
theorem TabAt.grown {w w' : World} {g k : Nat} {r : Option Nat} (h : TabAt w g k) (hb : w.grownBy w' r) (hr : some g ≠ r) : TabAt w' g k := (hb.block g (lt_of_block h) hr).trans h
theorem TabAt.other {w : World} {g g' k p q : Nat} {u v : Value} (h : TabAt w g k) (hg : g ≠ g') : TabAt ((w.setCell ⟨g', p, none⟩ u).setCell ⟨g', q, none⟩ v) g k := by
  unfold TabAt
  rw [heap_setCell_other _ ⟨g', q, none⟩ g v (by simpa using hg), heap_setCell_other _ ⟨g', p, none⟩ g u (by simpa using hg)]
  exact h
set_option linter.unusedSimpArgs false in
set_option maxHeartbeats 4000000 in
set_option maxRecDepth 20000 in
theorem flagTable_any (w : World) :
    Calls Tryd.prog 35 #[] w fun e w' => e = .returned (.agg (tabA 31)) ∧ Below w.heap.size w w' := by
  go_enter Tryd.func35, Tryd.ntmps35
  refine wp_seq (wp_region_list ?_)
  refine wpList_alloc_tab _ rfl rfl ?_
  intro w1 ht1 hb1
  refine wpList_nil ?_
  simp only [Act.put, List.setIfInBounds_toArray, List.set_cons_succ, List.set_cons_zero]
  refine wp_seq (wp_region_list ?_)
  refine wpList_build_row _ rfl _ _ _ _ rfl rfl rfl ?_
  simp only [Act.put, List.setIfInBounds_toArray, List.set_cons_succ, List.set_cons_zero]
  refine wpList_build_row _ rfl _ _ _ _ rfl rfl rfl ?_
  simp only [Act.put, List.setIfInBounds_toArray, List.set_cons_succ, List.set_cons_zero]
  refine wpList_build_row _ rfl _ _ _ _ rfl rfl rfl ?_
  simp only [Act.put, List.setIfInBounds_toArray, List.set_cons_succ, List.set_cons_zero]
  refine wpList_build_row _ rfl _ _ _ _ rfl rfl rfl ?_
  simp only [Act.put, List.setIfInBounds_toArray, List.set_cons_succ, List.set_cons_zero]
  refine wpList_build_row _ rfl _ _ _ _ rfl rfl rfl ?_
  simp only [Act.put, List.setIfInBounds_toArray, List.set_cons_succ, List.set_cons_zero]
  refine wpList_build_tab _ rfl _ rfl (by kernel_rfl) ?_
  simp only [Act.put, List.setIfInBounds_toArray, List.set_cons_succ, List.set_cons_zero]
  refine wpList_alloc_tab _ rfl rfl ?_
  intro w2 ht2 hb2
  simp only [Act.put, List.setIfInBounds_toArray, List.set_cons_succ, List.set_cons_zero]
  refine wpList_store_tab _ w1.heap.size 0 5 rfl _ _ rfl rfl rfl ht2 ?_
  intro w3 ht3 hg3
  refine wpList_nil ?_
  simp only [Act.put]
  have hlt1 : w.heap.size < w1.heap.size := lt_of_block ht1
  have hb3 : Below w.heap.size w w3 := (hb1.trans (hb2.mono (by omega))).grown hg3 (by have := hb1.size; have := hb2.size; omega) (fun k h => by cases h; omega)
  have ht13 : TabAt w3 w.heap.size 0 := (ht1.below hb2).grown hg3 (by simp; omega)
  clear ht1 hb1 ht2 hb2 hg3
  generalize w1.heap.size = g at ht3 hlt1 ⊢
  clear w1 w2
  have hB := hide hb3
  have hT1 := hide ht13
  have hT3 := hide ht3
  clear hb3 ht13 ht3
  generalize tabA 5 = t5
  go_wp2
  go_loopw [2, 3, 10] (fun _ _ i wr => ∃ k : Nat, k ≤ 26 ∧ i = .int .i64 (k : Int) ∧ TabAt wr g (5 + k) ∧ TabAt wr w.heap.size 0 ∧ Below w.heap.size w wr) (fun _ _ i _ => 26 - (intOf i).toNat)
  case atStart => exact ⟨0, by omega, rfl, hT3.out, hT1.out, hB.out⟩
  case round =>
    obtain ⟨k, hk, rfl, ht, ht0, hb⟩ := hrel
    clear hB hT1 hT3
    by_cases hlt : k < 26
    · obtain ⟨v0, hc0⟩ := ht.cell ((5 + k) * 2) (by omega)
      obtain ⟨v1, hc1⟩ := ht.cell ((5 + k) * 2 + 1) (by omega)
      have hf0 := ht.frozen ((5 + k) * 2)
      have hf1 := ht.frozen ((5 + k) * 2 + 1)
      have hn := ht.next
      rw [fLet_key, fBit_key] at hn
      have HX := hide (And.intro hn (And.intro (ht0.other (u := .int .i32 ((97 + k : Nat) : Int)) (v := .int .u64 ((5 + k : Nat) : Int)) (p := (5 + k) * 2) (q := (5 + k) * 2 + 1) (by omega : w.heap.size ≠ g)) ((hb.setCell (p := ⟨g, (5 + k) * 2, none⟩) (by simp; omega) (.int .i32 ((97 + k : Nat) : Int))).setCell (p := ⟨g, (5 + k) * 2 + 1, none⟩) (by simp; omega) (.int .u64 ((5 + k : Nat) : Int)))))
      clear hn ht ht0 hb
      go_wp2
      go_roundw
      case rel => exact ⟨k + 1, by omega, by go_num, HX.out.1, HX.out.2.1, HX.out.2.2⟩
      case measure => simp [intOf]; omega
    · obtain rfl : k = 26 := by omega
      have ht : TabAt wr g 31 := ht
      go_wp2_with (first
        | (refine wpList_load_tab _ g 31 rfl _ rfl rfl ht ?_)
        | (refine wpList_store_tab _ w.heap.size 0 31 rfl _ _ rfl rfl rfl ht0 ?_; intro w4 ht4 hg4))
      refine bodyPost_ret (results_cell_row (P := Tryd.prog) rfl _ _ w.heap.size _ _ _ _ rfl ht4 Tryd.underlying71 rfl (by rw [tabA_size]; exact (zero_of_info Tryd.infoTab).2)) rfl ?_
      exact ⟨rfl, hb.grown hg4 hb.size (fun k h => by cases h; omega)⟩
end Go.Proofs.YtknnpgffdbkfnaaDoor
