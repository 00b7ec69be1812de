import Derived.Test.YtpedmebigcchnaaGreatDoorPki
import Derived.Test.YtpedmebigcchnaaGreatDoorPkd
import Derived.Test.YtpedmebigcchnaaGreatDoorPkf
import Derived.Laws.Runes
namespace Go.Proofs.YtpedmebigcchnaaGreatDoor
open Go.RowKit
theorem tab_at (k : Nat) (hk : k < 31) : (tabA 31).extract (k * 2) (k * 2 + 2) = #[.int .i32 (fLet k : Int), .int .u64 (fBit k : Int)] := by
  have h0 := two_get0 (tabRows 31) k (by rw [tabRows_length]; exact hk)
  have h1 := two_get1 (tabRows 31) k (by rw [tabRows_length]; exact hk)
  have hr : (tabRows 31)[k]'(by rw [tabRows_length]; exact hk) = rowV k := by simp [tabRows, hk]
  rw [hr] at h0 h1
  apply Array.ext_getElem?
  intro i
  rw [Array.getElem?_extract]
  rcases i with _ | _ | i
  · simp only [tabA, Nat.add_zero, List.getElem?_toArray]
    rw [h0]; simp [rowV, two_length, tabRows_length]; omega
  · simp only [tabA, List.getElem?_toArray]
    rw [h1]; simp [rowV, two_length, tabRows_length]; omega
  · rw [if_neg (by rw [tabA_size]; omega)]; simp
theorem fLet_lt (k : Nat) (hk : k < 31) : fLet k < 128 := by
  have h : ∀ k, k < 31 → fLet k < 128 := by decide
  exact h k hk
theorem fBit_lt (k : Nat) (hk : k < 31) : fBit k < 31 := by
  have h : ∀ k, k < 31 → fBit k < 31 := by decide
  exact h k hk
theorem letters_lt (f k : Nat) (hk : k ≤ 31) : ∀ x ∈ lettersTo f k, x < 256 := by
  intro x hx
  simp only [lettersTo, List.mem_map, List.mem_filter, List.mem_range] at hx
  obtain ⟨i, ⟨hi, _⟩, rfl⟩ := hx
  have := fLet_lt i (by omega)
  omega
theorem bit_test (f b : Nat) (hf : f < 4294967296) (hb : b < 31) : (bits .and .u32 (f : Int) ((2 ^ b : Nat) : Int) != 0) = f.testBit b := by
  rw [u32_and_nat f (2 ^ b) hf (pow_lt31 hb)]
  by_cases h : f.testBit b = true
  · rw [h]
    have : f &&& 2 ^ b ≠ 0 := fun e => by rw [(and_pow f b).1 e] at h; cases h
    simp; omega
  · simp only [Bool.not_eq_true] at h
    rw [h, (and_pow f b).2 h]; rfl
end Go.Proofs.YtpedmebigcchnaaGreatDoor
namespace Go.Proofs.YtpedmebigcchnaaGreatDoor
open Go.RowKit
/-- The name of flag i, as bytes. -/
def nameL : Nat → List Nat
  | 0 => [92, 65, 110, 115, 119, 101, 114, 101, 100]
  | 1 => [92, 70, 108, 97, 103, 103, 101, 100]
  | 2 => [92, 68, 101, 108, 101, 116, 101, 100]
  | 3 => [92, 83, 101, 101, 110]
  | 4 => [92, 68, 114, 97, 102, 116]
  | i => [92 + i]
def nameV (i : Nat) : Value := .string (strB (nameL i))
/-- The names when the first k are laid. -/
def namL (k : Nat) : List Value := (List.range 31).map fun i => if i < k then nameV i else .string ⟨#[]⟩
def namA (k : Nat) : Array Value := (namL k).toArray
theorem Tryz.infoNam : (Tryz.prog.info? 106).map (fun i => (i.zero, i.size)) = some (some (.agg (namA 0)), 31) := by kernel_rfl
theorem namL_length (k : Nat) : (namL k).length = 31 := by simp [namL]
theorem namA_size (k : Nat) : (namA k).size = 31 := by simp [namA, namL_length]
theorem namA_set (k : Nat) : (namA k).setIfInBounds k (nameV k) = namA (k + 1) := by
  unfold namA
  rw [List.setIfInBounds_toArray]
  congr 1
  apply List.ext_getElem
  · simp [namL]
  · intro i h1 h2
    rw [List.getElem_set]
    simp only [namL, List.getElem_map, List.getElem_range]
    by_cases e : k = i
    · subst e; simp
    · rw [if_neg e]
      by_cases h' : i < k
      · rw [if_pos h', if_pos (by omega)]
      · rw [if_neg h', if_neg (by omega)]
theorem namA_one (k : Nat) : ∀ v ∈ (namA k), v.oneCell' = true := by
  intro v hv
  simp only [namA, List.mem_toArray, namL, List.mem_map] at hv
  obtain ⟨i, _, rfl⟩ := hv
  split <;> rfl
theorem run_alloc_nam (w : World) : (Instr.alloc 106 true (.tuple #[])).run Tryz.prog w = .ok (.pointer (some ⟨w.heap.size, 0, none⟩)) (w.alloc (.cells (namA 0) 106)) := by
  have h := (zero_of_info Tryz.infoNam).1
  simp [Instr.alloc, h, newVar, Value.cells]
  rfl
/-- A block that holds the first k names. -/
def NamAt (w : World) (g k : Nat) : Prop := w.heap[g]? = some (.cells (namA k) 106 (0, 0))
theorem NamAt.cell {w : World} {g k : Nat} (h : NamAt w g k) (j : Nat) (hj : j < 31) : ∃ v, w.cell? ⟨g, j, none⟩ = some v := by
  rw [cell_of_row w g j _ _ _ h]
  exact ⟨_, Array.getElem?_eq_getElem (by rw [namA_size]; exact hj)⟩
theorem NamAt.frozen {w : World} {g k : Nat} (h : NamAt w g k) (j : Nat) : w.frozen? ⟨g, j, none⟩ = false := by
  unfold NamAt at h
  simp [World.frozen?, h]
theorem NamAt.next {w : World} {g k : Nat} (h : NamAt w g k) : NamAt (w.setCell ⟨g, k, none⟩ (nameV k)) g (k + 1) := by
  unfold NamAt
  rw [setCell_eq_setRow w g k _ _ _ _ h, setRow_heap w g _ _ _ _ h, namA_set]
theorem wpList_alloc_nam {ops : Array Oper} {rest : List Oper} {o : Oper} {act : Act} {Q : Exit → Act → World → Prop} (w : World) (hgd : o.guard = none) (ho : o.op = .alloc 106)
    (h : ∀ w', NamAt w' w.heap.size 0 → Below w.heap.size w w' → wpList Tryz.prog ops Q rest (act.put o.dst (.pointer (some ⟨w.heap.size, 0, none⟩))) w') : wpList Tryz.prog ops Q (o :: rest) act w := by
  refine wpList_plain hgd fun K hK => ?_
  unfold Oper.wp execOp
  simp only [ho, Sem.run_bind, run_alloc_nam, Result.andThen_ok]
  exact hK _ _ (h _ (heap_alloc_new w _) ((Below.refl _ _).alloc (Nat.le_refl _) _))
theorem wpList_build_nam {ops : Array Oper} {rest : List Oper} {o : Oper} {act : Act} {Q : Exit → Act → World → Prop} (w : World) (hgd : o.guard = none) (parts : Array (Nat × Operand)) (ho : o.op = .build 106 parts)
    (hb : Tryz.prog.built 106 (parts.map fun (i, x) => (i, act.eval x)).toList = some (namA 5))
    (h : wpList Tryz.prog ops Q rest (act.put o.dst (.agg (namA 5))) w) : wpList Tryz.prog ops Q (o :: rest) act w := by
  refine wpList_build hgd _ parts ho (by rw [hb]; rfl) ?_
  rw [hb]; exact h
theorem wpList_store_nam {ops : Array Oper} {rest : List Oper} {o : Oper} {act : Act} {Q : Exit → Act → World → Prop} (w : World) (g j k : Nat) (hgd : o.guard = none) (x y : Operand) (ho : o.op = .store 106 x y)
    (hx : act.eval x = .pointer (some ⟨g, 0, none⟩)) (hy : act.eval y = .agg (namA k)) (hg : NamAt w g j)
    (h : ∀ w', NamAt w' g k → w.grownBy w' (some g) → wpList Tryz.prog ops Q rest (act.put o.dst undef) w') : wpList Tryz.prog ops Q (o :: rest) act w := by
  refine wpList_store_row hgd _ x y ho g (namA k) hx hy _ _ hg (by rw [namA_size]; exact (zero_of_info Tryz.infoNam).2) (by rw [namA_size, namA_size]) (Array.all_eq_true_iff_forall_mem.2 (namA_one k)) (h _ (setRow_heap w g _ _ _ _ hg) ?_)
  exact ⟨rfl, rfl, rfl, by simp, fun i _ hi => setRow_other w g i _ (fun e => hi (by rw [e]))⟩
theorem wpList_load_nam {ops : Array Oper} {rest : List Oper} {o : Oper} {act : Act} {Q : Exit → Act → World → Prop} (w : World) (g k : Nat) (hgd : o.guard = none) (x : Operand) (ho : o.op = .load 106 x)
    (hx : act.eval x = .pointer (some ⟨g, 0, none⟩)) (hg : NamAt w g k)
    (h : wpList Tryz.prog ops Q rest (act.put o.dst (.agg (namA k))) w) : wpList Tryz.prog ops Q (o :: rest) act w :=
  wpList_load_row hgd _ x ho g hx _ _ _ _ hg Tryz.underlying106 rfl (by rw [namA_size]; exact (zero_of_info Tryz.infoNam).2) h
theorem nameL_key (k : Nat) : nameL (5 + k) = [97 + k] := by rw [Nat.add_comm]; simp only [nameL]; congr 1; omega
theorem nameV_key (k : Nat) (hk : k < 26) : nameV (5 + k) = .string (Utf8.encode ((97 : Int) + (k : Int))) := by
  have h : ∀ k, k < 26 → nameV (5 + k) = .string (Utf8.encode ((97 : Int) + (k : Int))) := by
    intro k hk
    unfold nameV
    rw [nameL_key]
    have : Utf8.encode ((97 : Int) + (k : Int)) = strB [97 + k] := by
      have e : (97 : Int) + (k : Int) = ((97 + k : Nat) : Int) := by omega
      rw [e]
      have h1 : Utf8.valid ((97 + k : Nat) : Int) = true := by unfold Utf8.valid; simp; omega
      unfold Utf8.encode
      simp only [h1, if_true, Int.toNat_natCast]
      rw [if_pos (by omega)]
      rfl
    rw [this]
  exact h k hk
theorem NamAt.below {w w' : World} {g k : Nat} (h : NamAt w g k) (hb : Below w.heap.size w w') : NamAt w' g k := (hb.block g (lt_of_block h)).trans h
theorem NamAt.grown {w w' : World} {g k : Nat} {r : Option Nat} (h : NamAt w g k) (hb : w.grownBy w' r) (hr : some g ≠ r) : NamAt w' g k := (hb.block g (lt_of_block h) hr).trans h
theorem NamAt.other {w : World} {g g' k p : Nat} {u : Value} (h : NamAt w g k) (hg : g ≠ g') : NamAt (w.setCell ⟨g', p, none⟩ u) g k := by
  unfold NamAt
  rw [heap_setCell_other _ ⟨g', p, none⟩ g u (by simpa using hg)]
  exact h
set_option linter.unusedSimpArgs false in
set_option maxHeartbeats 4000000 in
set_option maxRecDepth 20000 in
theorem flagNames_any (w : World) :
    Calls Tryz.prog 86 #[] w fun e w' => e = .returned (.agg (namA 31)) ∧ Below w.heap.size w w' := by
  go_enter Tryz.func86, Tryz.ntmps86
  refine wp_seq (wp_region_list ?_)
  refine wpList_alloc_nam _ rfl rfl ?_
  intro w1 ht1 hb1
  refine wpList_nil ?_
  simp only [Act.put, List.setIfInBounds_toArray, List.set_cons_succ, List.set_cons_zero]
  refine wp_seq (wp_region_list ?_)
  refine wpList_build_nam _ rfl _ rfl (by kernel_rfl) ?_
  simp only [Act.put, List.setIfInBounds_toArray, List.set_cons_succ, List.set_cons_zero]
  refine wpList_alloc_nam _ rfl rfl ?_
  intro w2 ht2 hb2
  simp only [Act.put, List.setIfInBounds_toArray, List.set_cons_succ, List.set_cons_zero]
  refine wpList_store_nam _ w1.heap.size 0 5 rfl _ _ rfl rfl rfl ht2 ?_
  intro w3 ht3 hg3
  refine wpList_nil ?_
  simp only [Act.put]
  have hlt1 : w.heap.size < w1.heap.size := lt_of_block ht1
  have hb3 : Below w.heap.size w w3 := (hb1.trans (hb2.mono (by omega))).grown hg3 (by have := hb1.size; have := hb2.size; omega) (fun k h => by cases h; omega)
  have ht13 : NamAt w3 w.heap.size 0 := (ht1.below hb2).grown hg3 (by simp; omega)
  clear ht1 hb1 ht2 hb2 hg3
  generalize w1.heap.size = g at ht3 hlt1 ⊢
  clear w1 w2
  have hB := hide hb3
  have hT1 := hide ht13
  have hT3 := hide ht3
  clear hb3 ht13 ht3
  generalize namA 5 = t5
  go_wp2
  go_loopw [2, 4] (fun _ i wr => ∃ k : Nat, k ≤ 26 ∧ i = .int .i64 (k : Int) ∧ NamAt wr g (5 + k) ∧ NamAt wr w.heap.size 0 ∧ Below w.heap.size w wr) (fun _ i _ => 26 - (intOf i).toNat)
  case atStart => exact ⟨0, by omega, rfl, hT3.out, hT1.out, hB.out⟩
  case round =>
    obtain ⟨k, hk, rfl, ht, ht0, hb⟩ := hrel
    clear hB hT1 hT3
    by_cases hlt : k < 26
    · obtain ⟨v0, hc0⟩ := ht.cell (5 + k) (by omega)
      have hf0 := ht.frozen (5 + k)
      have hn := ht.next
      rw [nameV_key k hlt] at hn
      have HX := hide (And.intro hn (And.intro (ht0.other (u := .string (Utf8.encode ((97 : Int) + (k : Int)))) (p := 5 + k) (by omega : w.heap.size ≠ g)) (hb.setCell (p := ⟨g, 5 + k, none⟩) (by simp; omega) (.string (Utf8.encode ((97 : Int) + (k : Int)))))))
      clear hn ht ht0 hb
      go_wp2
      go_roundw
      case rel => exact ⟨k + 1, by omega, by go_num, HX.out.1, HX.out.2.1, HX.out.2.2⟩
      case measure => simp [intOf]; omega
    · obtain rfl : k = 26 := by omega
      have ht : NamAt wr g 31 := ht
      go_wp2_with (first
        | (refine wpList_load_nam _ g 31 rfl _ rfl rfl ht ?_)
        | (refine wpList_store_nam _ w.heap.size 0 31 rfl _ _ rfl rfl rfl ht0 ?_; intro w4 ht4 hg4))
      refine bodyPost_ret (results_cell_row (P := Tryz.prog) rfl _ _ w.heap.size _ _ _ _ rfl ht4 Tryz.underlying106 rfl (by rw [namA_size]; exact (zero_of_info Tryz.infoNam).2)) rfl ?_
      exact ⟨rfl, hb.grown hg4 hb.size (fun k h => by cases h; omega)⟩
end Go.Proofs.YtpedmebigcchnaaGreatDoor
namespace Go.Proofs.YtpedmebigcchnaaGreatDoor
open Go.RowKit
/-- Does a word name flag k. -/
def fits (w : List Nat) (k : Nat) : Bool := decide (w = nameL k) || (decide (k < 5) && decide (w.map loN = (nameL k).map loN))
def findK (w : List Nat) : Option Nat := (List.range 31).find? (fits w)
theorem fits_one {w : List Nat} {i j : Nat} (hi : i < 31) (hj : j < 31) (h1 : fits w i = true) (h2 : fits w j = true) : i = j := by
  have key : ∀ i, i < 31 → ∀ j, j < 31 → (nameL i).map loN = (nameL j).map loN → i = j := by decide
  have lo : ∀ {k}, fits w k = true → w.map loN = (nameL k).map loN := by
    intro k h
    unfold fits at h
    simp only [Bool.or_eq_true, decide_eq_true_eq, Bool.and_eq_true] at h
    rcases h with h | h
    · rw [h]
    · exact h.2
  exact key i hi j hj ((lo h1).symm.trans (lo h2))
theorem findK_some {w : List Nat} {k : Nat} (hk : k < 31) (h : fits w k = true) : findK w = some k := by
  unfold findK
  cases e : (List.range 31).find? (fits w) with
  | none => exact absurd h (by have := List.find?_eq_none.1 e k (List.mem_range.2 hk); simpa using this)
  | some j =>
    have h1 := List.find?_some e
    have h2 := List.mem_range.1 (List.mem_of_find?_eq_some e)
    rw [fits_one h2 hk h1 h]
theorem findK_none {w : List Nat} (h : ∀ k, k < 31 → fits w k = false) : findK w = none := by
  unfold findK
  rw [List.find?_eq_none]
  intro k hk
  rw [h k (List.mem_range.1 hk)]
  decide
theorem findK_lt {w : List Nat} {k : Nat} (h : findK w = some k) : k < 31 := List.mem_range.1 (List.mem_of_find?_eq_some h)
end Go.Proofs.YtpedmebigcchnaaGreatDoor
