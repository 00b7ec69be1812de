import Derived.Test.YtknnpgffdbkfnaaDoorSetMem
import Derived.Test.YtknnpgffdbkfnaaDoorSpecSet1
import Derived.Test.YtknnpgffdbkfnaaDoorImplRd
import Derived.Laws.ResultCell
namespace Go.Proofs.YtknnpgffdbkfnaaDoor
open Go.RowKit
theorem results_ct_row {P : Program} {fn : Func} {p u : Tmp} {ty : TypeId} (h : fn.results = #[.cell p ty, .tmp u]) (tmps : Array Value) (w : World) (g : Nat) (t : TypeId) (cs : Array Value) (fr : Nat × Nat) (d : TypeDesc)
    (hp : tmps.getD p undef = .pointer (some ⟨g, 0, none⟩)) (hg : w.heap[g]? = some (.cells cs t fr))
    (hu : P.underlying ty = some d) (hd : (match d with | .struct _ | .array _ _ => true | _ => false) = true) (hi : (P.info? ty).map (·.size) = some cs.size) (x : Value) (hx : tmps.getD u undef = x) :
    (results fn tmps).run P w = .ok (.tuple #[.agg cs, x]) w := by
  rw [results_cell_tmp h, hp, hx]
  simp [asAddr, run_loadVar_row w g t ty cs fr d hg hu hd hi]
theorem cut_no {t : List UInt8} {b : UInt8} (h : b ∉ t) : Lib.cut t [b] = (t, [], false) := by
  have h1 : (Lib.cut t [b]).2.2 = false := by
    cases e : (Lib.cut t [b]).2.2 with
    | false => rfl
    | true =>
      have e2 := cut_true e
      exact absurd (by rw [e2]; simp) h
  unfold Lib.cut at h1 ⊢
  split at h1
  · cases h1
  · next hi => rw [if_neg hi]
theorem prOf_no {t : List UInt8} (h : (58 : UInt8) ∉ t) : prOf t = both (plOf t) (plOf t) := by
  unfold prOf; rw [splitOf_no h]
theorem prOf_yes {a c : List UInt8} (h : (58 : UInt8) ∉ a) : prOf (a ++ 58 :: c) = both (plOf a) (plOf c) := by
  unfold prOf
  rw [splitOf_at h]
  by_cases hm : (58 : UInt8) ∈ c
  · have hn : plOf c = none := by
      cases e : plOf c with
      | none => rfl
      | some n => exact absurd hm (plOf_len e).2.2
    obtain ⟨x, y, e, hx⟩ := List.eq_append_cons_of_mem hm
    rw [hn]
    have : splitOf 58 c = x :: splitOf 58 y := by rw [e, splitOf_at hx]
    rw [this]
    cases hy : splitOf 58 y with
    | nil => exact absurd hy (splitOf_ne _ _)
    | cons z r => simp only; cases plOf a <;> rfl
  · rw [splitOf_no hm]
/-- What strings.Cut at a colon gives of a part. -/
theorem pr_cut (t : List UInt8) : prOf t = both (plOf (Lib.cut t [58]).1) (plOf (if (Lib.cut t [58]).2.2 then (Lib.cut t [58]).2.1 else (Lib.cut t [58]).1)) ∧ (Lib.cut t [58]).1.length ≤ t.length ∧ (Lib.cut t [58]).2.1.length ≤ t.length := by
  by_cases hm : (58 : UInt8) ∈ t
  · obtain ⟨a, c, e, hn⟩ := List.eq_append_cons_of_mem hm
    subst e
    have hc := cut_first a c 58 [] hn
    rw [show a ++ ([58] ++ c) = a ++ 58 :: c from rfl] at hc
    rw [hc, prOf_yes hn]
    exact ⟨rfl, by simp, by simp; omega⟩
  · rw [cut_no hm, prOf_no hm]
    exact ⟨rfl, by simp, by simp⟩
set_option maxRecDepth 20000 in
theorem readPlace_any (s : ByteArray) (w : World) (hE : Env w) (hs : s.size ≤ 1048576) :
    Calls Tryd.prog 64 #[.string s] w (PlPost s w) := by
  by_cases h0 : s.data.toList = [42]
  · have h0' : (s.toList == [42]) = true := by rw [ByteArray.toList_eq, h0]; rfl
    go_enter Tryd.func64, Tryd.ntmps64
    go_wp2
    go_ret2
    exact ⟨0, true, rfl, Or.inl ⟨rfl, by rw [h0]; rfl⟩, Below.refl _ _⟩
  · have h0' : (s.toList == [42]) = false := by rw [ByteArray.toList_eq]; exact beq_eq_false_iff_ne.2 h0
    have H0 := hide h0
    clear h0
    go_enter Tryd.func64, Tryd.ntmps64
    go_wp2_with fail
    refine (readDecimal_any s 1 4294967295 w hE hs (by omega)).mono ?_
    rintro e w1 ⟨n, ok, rfl, hN, hb⟩
    have HB := hide hb
    have HN := hide hN
    clear hb hN
    go_wp2
    go_ret2
    refine ⟨n % 4294967296, ok, by simp, ?_, HB.out⟩
    rcases HN.out with ⟨rfl, h1, h2, h3⟩ | ⟨rfl, rfl, h⟩
    · refine Or.inl ⟨rfl, ?_⟩
      rw [Nat.mod_eq_of_lt (by omega)]
      exact plOf_num h1 h2 h3
    · exact Or.inr ⟨rfl, plOf_none H0.out h⟩
/-- What readPair answers. -/
def PrPost (t : List UInt8) (w : World) (e : Ending) (w' : World) : Prop := ∃ (n1 n2 : Nat) (ok : Bool), e = .returned (.tuple #[.agg #[.int .u32 (n1 : Int), .int .u32 (n2 : Int)], .bool ok]) ∧ ((ok = true ∧ prOf t = some (n1, n2)) ∨ (ok = false ∧ prOf t = none)) ∧ Below w.heap.size w w'
def BlkP (w : World) (g : Nat) (x y : Value) : Prop := w.heap[g]? = some (.cells #[x, y] 86 (0, 0))
theorem BlkP.c0 {w : World} {g : Nat} {x y : Value} (h : BlkP w g x y) : w.cell? ⟨g, 0, none⟩ = some x := by rw [cell_of_row w g 0 _ _ (0, 0) h]; rfl
theorem BlkP.c1 {w : World} {g : Nat} {x y : Value} (h : BlkP w g x y) : w.cell? ⟨g, 1, none⟩ = some y := by rw [cell_of_row w g 1 _ _ (0, 0) h]; rfl
theorem BlkP.fz {w : World} {g : Nat} {x y : Value} (h : BlkP w g x y) (j : Nat) : w.frozen? ⟨g, j, none⟩ = false := frozen_of_row w g j _ _ h
theorem BlkP.set0 {w : World} {g : Nat} {x y : Value} (h : BlkP w g x y) (u : Value) : BlkP (w.setCell ⟨g, 0, none⟩ u) g u y := heap_setCell_same w g 0 _ _ u h
theorem BlkP.set1 {w : World} {g : Nat} {x y : Value} (h : BlkP w g x y) (u : Value) : BlkP (w.setCell ⟨g, 1, none⟩ u) g x u := heap_setCell_same w g 1 _ _ u h
theorem BlkP.lt {w : World} {g : Nat} {x y : Value} (h : BlkP w g x y) : g < w.heap.size := lt_of_block h
theorem BlkP.below {w w' : World} {B g : Nat} {x y : Value} (h : BlkP w g x y) (hb : Below B w w') (hg : g < B) : BlkP w' g x y := (hb.block g hg).trans h
theorem both_ok {a b : Option Nat} {n1 n2 : Nat} {ok1 ok2 : Bool} (h1 : (ok1 = true ∧ a = some n1) ∨ (ok1 = false ∧ a = none)) (h2 : (ok2 = true ∧ b = some n2) ∨ (ok2 = false ∧ b = none)) : ((ok1 && ok2) = true ∧ both a b = some (n1, n2)) ∨ ((ok1 && ok2) = false ∧ both a b = none) := by
  rcases h1 with ⟨rfl, rfl⟩ | ⟨rfl, rfl⟩ <;> rcases h2 with ⟨rfl, rfl⟩ | ⟨rfl, rfl⟩
  · exact Or.inl ⟨rfl, rfl⟩
  · exact Or.inr ⟨rfl, rfl⟩
  · exact Or.inr ⟨rfl, rfl⟩
  · exact Or.inr ⟨rfl, rfl⟩
set_option maxRecDepth 20000 in
set_option maxHeartbeats 1000000 in
theorem readPair_any (s : ByteArray) (w : World) (hE : Env w) (hs : s.size ≤ 1048576) :
    Calls Tryd.prog 43 #[.string s] w (PrPost s.data.toList w) := by
  have hx0 : BlkP (w.alloc (.cells #[.int .u32 0, .int .u32 0] 86)) w.heap.size (.int .u32 0) (.int .u32 0) := heap_alloc_new w _
  have hb0 := (Below.refl w.heap.size w).alloc (Nat.le_refl _) (.cells #[.int .u32 0, .int .u32 0] 86)
  have hE0 := hE.below hb0
  obtain ⟨hpr, hl1, hl2⟩ := pr_cut s.data.toList
  have hsl : s.data.toList.length = s.size := rfl
  go_enter Tryd.func43, Tryd.ntmps43
  go_wp2_with fail
  have hz0 : (w.alloc (.cells #[.int .u32 0, .int .u32 0] 86)).heap.size = w.heap.size + 1 := World.size_alloc ..
  generalize w.alloc (.cells #[.int .u32 0, .int .u32 0] 86) = W0 at hx0 hb0 hE0 hz0 ⊢
  obtain ⟨m, hm⟩ := hE0.max
  refine (Tryd.strings_Cut s ⟨#[58]⟩ m W0 (by omega) hm).mono ?_
  rintro e W1 ⟨rfl, n, hW1⟩
  have hb1 : Below W0.heap.size W0 W1 := by rw [hW1]; exact below_drewN (Below.refl _ _) n
  have HX1 := hide (hx0.below hb1 hx0.lt)
  have HB1 := hide (hb0.trans (hb1.mono hb0.size))
  have HE1 := hide (hE0.below hb1)
  rw [show Lib.cut s.data.toList (⟨#[58]⟩ : ByteArray).data.toList = Lib.cut s.data.toList [58] from rfl]
  obtain ⟨⟨a, c, d⟩, hc1⟩ : ∃ x, x = Lib.cut s.data.toList [58] := ⟨_, rfl⟩
  rw [← hc1] at hpr hl1 hl2 ⊢
  have HPR := hide hpr
  simp only [] at hl1 hl2 ⊢
  have hza : (⟨a.toArray⟩ : ByteArray).size ≤ 1048576 := by show a.toArray.size ≤ _; simp; omega
  have hzc : (⟨c.toArray⟩ : ByteArray).size ≤ 1048576 := by show c.toArray.size ≤ _; simp; omega
  have HPA := hide (fun W h => readPlace_any ⟨a.toArray⟩ W h hza)
  have HPC := hide (fun W h => readPlace_any ⟨c.toArray⟩ W h hzc)
  have HEND := hide (show ∀ (W : World) (n1 n2 : Nat) (ok1 ok2 : Bool), BlkP W w.heap.size (.int .u32 0) (.int .u32 0) → Below w.heap.size w W → ((ok1 && ok2) = true ∧ prOf s.data.toList = some (n1, n2)) ∨ ((ok1 && ok2) = false ∧ prOf s.data.toList = none) → PrPost s.data.toList w (.returned (.tuple #[.agg #[.int .u32 (n1 : Int), .int .u32 (n2 : Int)], .bool (ok1 && ok2)])) ((W.setCell ⟨w.heap.size, 0, none⟩ (.int .u32 (n1 : Int))).setCell ⟨w.heap.size, 1, none⟩ (.int .u32 (n2 : Int))) from fun W n1 n2 ok1 ok2 _ hb h => ⟨n1, n2, _, rfl, h, (hb.setCell (p := ⟨w.heap.size, 0, none⟩) (Nat.le_refl _) _).setCell (p := ⟨w.heap.size, 1, none⟩) (Nat.le_refl _) _⟩)
  clear hpr hc1 hx0 hb0 hE0 hE hb1 hW1 hm hl1 hl2 hza hzc
  cases d with
  | false =>
    go_wp2_with fail
    refine (HPA.out W1 HE1.out).mono ?_
    rintro e W2 ⟨n1, ok1, rfl, h1, hb2⟩
    have HX2 := hide (HX1.out.below hb2 HX1.out.lt)
    have HB2 := hide (HB1.out.trans (hb2.mono HB1.out.size))
    have HE2 := hide (HE1.out.below hb2)
    have H1 := hide h1
    clear h1 hb2
    go_wp2_with fail
    refine (HPA.out W2 HE2.out).mono ?_
    rintro e W3 ⟨n2, ok2, rfl, h2, hb3⟩
    have HX3 := hide (HX2.out.below hb3 HX2.out.lt)
    have HB3 := hide (HB2.out.trans (hb3.mono HB2.out.size))
    have H2 := hide h2
    have HF := hide (show ((ok1 && ok2) = true ∧ prOf s.data.toList = some (n1, n2)) ∨ ((ok1 && ok2) = false ∧ prOf s.data.toList = none) by rw [HPR.out]; exact both_ok H1.out H2.out)
    have p0 := HX3.out.c0
    have p1 := HX3.out.c1
    have f0 := HX3.out.fz 0
    have f1 := HX3.out.fz 1
    clear h2 hb3 HX1 HX2 HB1 HB2 HE1 HE2 H1 H2 HPR HPA HPC
    cases ok1 <;> cases ok2
    all_goals
      go_wp2
      exact bodyPost_ret (results_ct_row (P := Tryd.prog) (p := 2) (u := 3) rfl _ _ w.heap.size _ _ _ _ rfl ((HX3.out.set0 _).set1 _) Tryd.underlying86 rfl (by kernel_rfl) _ rfl) rfl (HEND.out W3 n1 n2 _ _ HX3.out HB3.out HF.out)
  | true =>
    go_wp2_with fail
    refine (HPA.out W1 HE1.out).mono ?_
    rintro e W2 ⟨n1, ok1, rfl, h1, hb2⟩
    have HX2 := hide (HX1.out.below hb2 HX1.out.lt)
    have HB2 := hide (HB1.out.trans (hb2.mono HB1.out.size))
    have HE2 := hide (HE1.out.below hb2)
    have H1 := hide h1
    clear h1 hb2
    go_wp2_with fail
    refine (HPC.out W2 HE2.out).mono ?_
    rintro e W3 ⟨n2, ok2, rfl, h2, hb3⟩
    have HX3 := hide (HX2.out.below hb3 HX2.out.lt)
    have HB3 := hide (HB2.out.trans (hb3.mono HB2.out.size))
    have H2 := hide h2
    have HF := hide (show ((ok1 && ok2) = true ∧ prOf s.data.toList = some (n1, n2)) ∨ ((ok1 && ok2) = false ∧ prOf s.data.toList = none) by rw [HPR.out]; exact both_ok H1.out H2.out)
    have p0 := HX3.out.c0
    have p1 := HX3.out.c1
    have f0 := HX3.out.fz 0
    have f1 := HX3.out.fz 1
    clear h2 hb3 HX1 HX2 HB1 HB2 HE1 HE2 H1 H2 HPR HPA HPC
    cases ok1 <;> cases ok2
    all_goals
      go_wp2
      exact bodyPost_ret (results_ct_row (P := Tryd.prog) (p := 2) (u := 3) rfl _ _ w.heap.size _ _ _ _ rfl ((HX3.out.set0 _).set1 _) Tryd.underlying86 rfl (by kernel_rfl) _ rfl) rfl (HEND.out W3 n1 n2 _ _ HX3.out HB3.out HF.out)
end Go.Proofs.YtknnpgffdbkfnaaDoor
