import Derived.Test.YtpedmebigcchnaaGreatDoorPkm
import Derived.Test.YtpedmebigcchnaaGreatDoorPkp
import Derived.Test.YtpedmebigcchnaaGreatDoorPkf
import Derived.Test.YtpedmebigcchnaaGreatDoorPkj
import Derived.Laws.ResultCell
namespace Go.Proofs.YtpedmebigcchnaaGreatDoor
open Go.RowKit
theorem results_ct_row {P : Program} {fn : Func} {p u : Tmp} {ty : TypeId} (h : fn.results = #[.cell p ty, .tmp u]) (tmps : Array Value) (w : World) (g : Nat) (t : TypeId) (cs : Array Value) (fr : Nat × Nat) (d : TypeDesc)
    (hp : tmps.getD p undef = .pointer (some ⟨g, 0, none⟩)) (hg : w.heap[g]? = some (.cells cs t fr))
    (hu : P.underlying ty = some d) (hd : (match d with | .struct _ | .array _ _ => true | _ => false) = true) (hi : (P.info? ty).map (·.size) = some cs.size) (x : Value) (hx : tmps.getD u undef = x) :
    (results fn tmps).run P w = .ok (.tuple #[.agg cs, x]) w := by
  rw [results_cell_tmp h, hp, hx]
  simp [asAddr, run_loadVar_row w g t ty cs fr d hg hu hd hi]
theorem cut_no {t : List UInt8} {b : UInt8} (h : b ∉ t) : Lib.cut t [b] = (t, [], false) := by
  have h1 : (Lib.cut t [b]).2.2 = false := by
    cases e : (Lib.cut t [b]).2.2 with
    | false => rfl
    | true =>
      have e2 := cut_true e
      exact absurd (by rw [e2]; simp) h
  unfold Lib.cut at h1 ⊢
  split at h1
  · cases h1
  · next hi => rw [if_neg hi]
theorem prOf_no {t : List UInt8} (h : (58 : UInt8) ∉ t) : prOf t = both (plOf t) (plOf t) := by
  unfold prOf; rw [splitOf_no h]
theorem prOf_yes {a c : List UInt8} (h : (58 : UInt8) ∉ a) : prOf (a ++ 58 :: c) = both (plOf a) (plOf c) := by
  unfold prOf
  rw [splitOf_at h]
  by_cases hm : (58 : UInt8) ∈ c
  · have hn : plOf c = none := by
      cases e : plOf c with
      | none => rfl
      | some n => exact absurd hm (plOf_len e).2.2
    obtain ⟨x, y, e, hx⟩ := List.eq_append_cons_of_mem hm
    rw [hn]
    have : splitOf 58 c = x :: splitOf 58 y := by rw [e, splitOf_at hx]
    rw [this]
    cases hy : splitOf 58 y with
    | nil => exact absurd hy (splitOf_ne _ _)
    | cons z r => simp only; cases plOf a <;> rfl
  · rw [splitOf_no hm]
/-- What strings.Cut at a colon gives of a part. -/
theorem pr_cut (t : List UInt8) : prOf t = both (plOf (Lib.cut t [58]).1) (plOf (if (Lib.cut t [58]).2.2 then (Lib.cut t [58]).2.1 else (Lib.cut t [58]).1)) ∧ (Lib.cut t [58]).1.length ≤ t.length ∧ (Lib.cut t [58]).2.1.length ≤ t.length := by
  by_cases hm : (58 : UInt8) ∈ t
  · obtain ⟨a, c, e, hn⟩ := List.eq_append_cons_of_mem hm
    subst e
    have hc := cut_first a c 58 [] hn
    rw [show a ++ ([58] ++ c) = a ++ 58 :: c from rfl] at hc
    rw [hc, prOf_yes hn]
    exact ⟨rfl, by simp, by simp; omega⟩
  · rw [cut_no hm, prOf_no hm]
    exact ⟨rfl, by simp, by simp⟩
set_option maxRecDepth 20000 in
theorem readPlace_any (s : ByteArray) (w : World) (hE : Env w) (hs : s.size ≤ 1048576) :
    Calls Tryz.prog 89 #[.string s] w (PlPost s w) := by
  by_cases h0 : s.data.toList = [42]
  · have h0' : (s.toList == [42]) = true := by rw [ByteArray.toList_eq, h0]; rfl
    go_enter Tryz.func89, Tryz.ntmps89
    go_wp2
    go_ret2
    exact ⟨0, true, rfl, Or.inl ⟨rfl, by rw [h0]; rfl⟩, Below.refl _ _⟩
  · have h0' : (s.toList == [42]) = false := by rw [ByteArray.toList_eq]; exact beq_eq_false_iff_ne.2 h0
    have H0 := hide h0
    clear h0
    go_enter Tryz.func89, Tryz.ntmps89
    go_wp2_with fail
    refine (readDecimal_any s 1 4294967295 w hE hs (by omega)).mono ?_
    rintro e w1 ⟨n, ok, rfl, hN, hb⟩
    have HB := hide hb
    have HN := hide hN
    clear hb hN
    go_wp2
    go_ret2
    refine ⟨n % 4294967296, ok, by simp, ?_, HB.out⟩
    rcases HN.out with ⟨rfl, h1, h2, h3⟩ | ⟨rfl, rfl, h⟩
    · refine Or.inl ⟨rfl, ?_⟩
      rw [Nat.mod_eq_of_lt (by omega)]
      exact plOf_num h1 h2 h3
    · exact Or.inr ⟨rfl, plOf_none H0.out h⟩
/-- What readPair answers. -/
def PrPost (t : List UInt8) (w : World) (e : Ending) (w' : World) : Prop := ∃ (n1 n2 : Nat) (ok : Bool), e = .returned (.tuple #[.agg #[.int .u32 (n1 : Int), .int .u32 (n2 : Int)], .bool ok]) ∧ ((ok = true ∧ prOf t = some (n1, n2)) ∨ (ok = false ∧ prOf t = none)) ∧ Below w.heap.size w w'
def BlkP (w : World) (g : Nat) (x y : Value) : Prop := w.heap[g]? = some (.cells #[x, y] 79 (0, 0))
theorem BlkP.c0 {w : World} {g : Nat} {x y : Value} (h : BlkP w g x y) : w.cell? ⟨g, 0, none⟩ = some x := by rw [cell_of_row w g 0 _ _ (0, 0) h]; rfl
theorem BlkP.c1 {w : World} {g : Nat} {x y : Value} (h : BlkP w g x y) : w.cell? ⟨g, 1, none⟩ = some y := by rw [cell_of_row w g 1 _ _ (0, 0) h]; rfl
theorem BlkP.fz {w : World} {g : Nat} {x y : Value} (h : BlkP w g x y) (j : Nat) : w.frozen? ⟨g, j, none⟩ = false := frozen_of_row w g j _ _ h
theorem BlkP.set0 {w : World} {g : Nat} {x y : Value} (h : BlkP w g x y) (u : Value) : BlkP (w.setCell ⟨g, 0, none⟩ u) g u y := heap_setCell_same w g 0 _ _ u h
theorem BlkP.set1 {w : World} {g : Nat} {x y : Value} (h : BlkP w g x y) (u : Value) : BlkP (w.setCell ⟨g, 1, none⟩ u) g x u := heap_setCell_same w g 1 _ _ u h
theorem BlkP.lt {w : World} {g : Nat} {x y : Value} (h : BlkP w g x y) : g < w.heap.size := lt_of_block h
theorem BlkP.below {w w' : World} {B g : Nat} {x y : Value} (h : BlkP w g x y) (hb : Below B w w') (hg : g < B) : BlkP w' g x y := (hb.block g hg).trans h
theorem both_ok {a b : Option Nat} {n1 n2 : Nat} {ok1 ok2 : Bool} (h1 : (ok1 = true ∧ a = some n1) ∨ (ok1 = false ∧ a = none)) (h2 : (ok2 = true ∧ b = some n2) ∨ (ok2 = false ∧ b = none)) : ((ok1 && ok2) = true ∧ both a b = some (n1, n2)) ∨ ((ok1 && ok2) = false ∧ both a b = none) := by
  rcases h1 with ⟨rfl, rfl⟩ | ⟨rfl, rfl⟩ <;> rcases h2 with ⟨rfl, rfl⟩ | ⟨rfl, rfl⟩
  · exact Or.inl ⟨rfl, rfl⟩
  · exact Or.inr ⟨rfl, rfl⟩
  · exact Or.inr ⟨rfl, rfl⟩
  · exact Or.inr ⟨rfl, rfl⟩
set_option maxRecDepth 20000 in
set_option maxHeartbeats 1000000 in
theorem readPair_any (s : ByteArray) (w : World) (hE : Env w) (hs : s.size ≤ 1048576) :
    Calls Tryz.prog 83 #[.string s] w (PrPost s.data.toList w) := by
  have hx0 : BlkP (w.alloc (.cells #[.int .u32 0, .int .u32 0] 79)) w.heap.size (.int .u32 0) (.int .u32 0) := heap_alloc_new w _
  have hb0 := (Below.refl w.heap.size w).alloc (Nat.le_refl _) (.cells #[.int .u32 0, .int .u32 0] 79)
  have hE0 := hE.below hb0
  obtain ⟨hpr, hl1, hl2⟩ := pr_cut s.data.toList
  have hsl : s.data.toList.length = s.size := rfl
  go_enter Tryz.func83, Tryz.ntmps83
  go_wp2_with fail
  have hz0 : (w.alloc (.cells #[.int .u32 0, .int .u32 0] 79)).heap.size = w.heap.size + 1 := World.size_alloc ..
  generalize w.alloc (.cells #[.int .u32 0, .int .u32 0] 79) = W0 at hx0 hb0 hE0 hz0 ⊢
  obtain ⟨m, hm⟩ := hE0.max
  refine (Tryz.strings_Cut s ⟨#[58]⟩ m W0 (by omega) hm).mono ?_
  rintro e W1 ⟨rfl, n, hW1⟩
  have hb1 : Below W0.heap.size W0 W1 := by rw [hW1]; exact below_drewN (Below.refl _ _) n
  have HX1 := hide (hx0.below hb1 hx0.lt)
  have HB1 := hide (hb0.trans (hb1.mono hb0.size))
  have HE1 := hide (hE0.below hb1)
  rw [show Lib.cut s.data.toList (⟨#[58]⟩ : ByteArray).data.toList = Lib.cut s.data.toList [58] from rfl]
  obtain ⟨⟨a, c, d⟩, hc1⟩ : ∃ x, x = Lib.cut s.data.toList [58] := ⟨_, rfl⟩
  rw [← hc1] at hpr hl1 hl2 ⊢
  have HPR := hide hpr
  simp only [] at hl1 hl2 ⊢
  have hza : (⟨a.toArray⟩ : ByteArray).size ≤ 1048576 := by show a.toArray.size ≤ _; simp; omega
  have hzc : (⟨c.toArray⟩ : ByteArray).size ≤ 1048576 := by show c.toArray.size ≤ _; simp; omega
  have HPA := hide (fun W h => readPlace_any ⟨a.toArray⟩ W h hza)
  have HPC := hide (fun W h => readPlace_any ⟨c.toArray⟩ W h hzc)
  have HEND := hide (show ∀ (W : World) (n1 n2 : Nat) (ok1 ok2 : Bool), BlkP W w.heap.size (.int .u32 0) (.int .u32 0) → Below w.heap.size w W → ((ok1 && ok2) = true ∧ prOf s.data.toList = some (n1, n2)) ∨ ((ok1 && ok2) = false ∧ prOf s.data.toList = none) → PrPost s.data.toList w (.returned (.tuple #[.agg #[.int .u32 (n1 : Int), .int .u32 (n2 : Int)], .bool (ok1 && ok2)])) ((W.setCell ⟨w.heap.size, 0, none⟩ (.int .u32 (n1 : Int))).setCell ⟨w.heap.size, 1, none⟩ (.int .u32 (n2 : Int))) from fun W n1 n2 ok1 ok2 _ hb h => ⟨n1, n2, _, rfl, h, (hb.setCell (p := ⟨w.heap.size, 0, none⟩) (Nat.le_refl _) _).setCell (p := ⟨w.heap.size, 1, none⟩) (Nat.le_refl _) _⟩)
  clear hpr hc1 hx0 hb0 hE0 hE hb1 hW1 hm hl1 hl2 hza hzc
  cases d with
  | false =>
    go_wp2_with fail
    refine (HPA.out W1 HE1.out).mono ?_
    rintro e W2 ⟨n1, ok1, rfl, h1, hb2⟩
    have HX2 := hide (HX1.out.below hb2 HX1.out.lt)
    have HB2 := hide (HB1.out.trans (hb2.mono HB1.out.size))
    have HE2 := hide (HE1.out.below hb2)
    have H1 := hide h1
    clear h1 hb2
    go_wp2_with fail
    refine (HPA.out W2 HE2.out).mono ?_
    rintro e W3 ⟨n2, ok2, rfl, h2, hb3⟩
    have HX3 := hide (HX2.out.below hb3 HX2.out.lt)
    have HB3 := hide (HB2.out.trans (hb3.mono HB2.out.size))
    have H2 := hide h2
    have HF := hide (show ((ok1 && ok2) = true ∧ prOf s.data.toList = some (n1, n2)) ∨ ((ok1 && ok2) = false ∧ prOf s.data.toList = none) by rw [HPR.out]; exact both_ok H1.out H2.out)
    have p0 := HX3.out.c0
    have p1 := HX3.out.c1
    have f0 := HX3.out.fz 0
    have f1 := HX3.out.fz 1
    clear h2 hb3 HX1 HX2 HB1 HB2 HE1 HE2 H1 H2 HPR HPA HPC
    cases ok1 <;> cases ok2
    all_goals
      go_wp2
      exact bodyPost_ret (results_ct_row (P := Tryz.prog) (p := 2) (u := 3) rfl _ _ w.heap.size _ _ _ _ rfl ((HX3.out.set0 _).set1 _) Tryz.underlying79 rfl (by kernel_rfl) _ rfl) rfl (HEND.out W3 n1 n2 _ _ HX3.out HB3.out HF.out)
  | true =>
    go_wp2_with fail
    refine (HPA.out W1 HE1.out).mono ?_
    rintro e W2 ⟨n1, ok1, rfl, h1, hb2⟩
    have HX2 := hide (HX1.out.below hb2 HX1.out.lt)
    have HB2 := hide (HB1.out.trans (hb2.mono HB1.out.size))
    have HE2 := hide (HE1.out.below hb2)
    have H1 := hide h1
    clear h1 hb2
    go_wp2_with fail
    refine (HPC.out W2 HE2.out).mono ?_
    rintro e W3 ⟨n2, ok2, rfl, h2, hb3⟩
    have HX3 := hide (HX2.out.below hb3 HX2.out.lt)
    have HB3 := hide (HB2.out.trans (hb3.mono HB2.out.size))
    have H2 := hide h2
    have HF := hide (show ((ok1 && ok2) = true ∧ prOf s.data.toList = some (n1, n2)) ∨ ((ok1 && ok2) = false ∧ prOf s.data.toList = none) by rw [HPR.out]; exact both_ok H1.out H2.out)
    have p0 := HX3.out.c0
    have p1 := HX3.out.c1
    have f0 := HX3.out.fz 0
    have f1 := HX3.out.fz 1
    clear h2 hb3 HX1 HX2 HB1 HB2 HE1 HE2 H1 H2 HPR HPA HPC
    cases ok1 <;> cases ok2
    all_goals
      go_wp2
      exact bodyPost_ret (results_ct_row (P := Tryz.prog) (p := 2) (u := 3) rfl _ _ w.heap.size _ _ _ _ rfl ((HX3.out.set0 _).set1 _) Tryz.underlying79 rfl (by kernel_rfl) _ rfl) rfl (HEND.out W3 n1 n2 _ _ HX3.out HB3.out HF.out)
end Go.Proofs.YtpedmebigcchnaaGreatDoor
namespace Go.Proofs.YtpedmebigcchnaaGreatDoor
open Go.RowKit
/-- How the loop of impl.ReadSet stands. -/
structure ISL (w wr : World) (ws : List ByteArray) (v : Value) (ps : List (Int × Int)) : Prop where
  b0 : BlkQ wr w.heap.size (.bool false) (.slice none 0 0)
  wd : ∀ j (h : j < ws.length), wr.cell? ⟨w.heap.size + 1, j, none⟩ = some (.string ws[j])
  ow : OwnP wr (w.heap.size + 2) v ps
  bel : Below w.heap.size w wr
  sz : w.heap.size + 2 ≤ wr.heap.size
theorem ISL.below {w wr W : World} {ws : List ByteArray} {v : Value} {ps : List (Int × Int)} (h : ISL w wr ws v ps) (hb : Below wr.heap.size wr W) : ISL w W ws v ps :=
  ⟨h.b0.below hb h.b0.lt, fun j hj => by rw [hb.cell (p := ⟨w.heap.size + 1, j, none⟩) (lt_of_cell0 (h.wd j hj))]; exact h.wd j hj, h.ow.below hb (Nat.le_refl _), h.bel.trans (hb.mono h.bel.size), Nat.le_trans h.sz hb.size⟩
theorem ISL.push {w wr W : World} {ws : List ByteArray} {v v' : Value} {ps : List (Int × Int)} {e : Int × Int} (h : ISL w wr ws v ps) (ho : OwnP W (w.heap.size + 2) v' (ps ++ [e])) (hg : wr.grownBy W v.ownBlock) :
    ISL w W ws v' (ps ++ [e]) := by
  have hlo : ∀ b, v.ownBlock = some b → w.heap.size + 2 ≤ b := fun b hb => (World.ownsRow.lt h.ow b hb).1
  have ne : ∀ b, b < w.heap.size + 2 → some b ≠ v.ownBlock := fun b hb e => by have := hlo b e.symm; omega
  refine ⟨h.b0.grown hg (ne _ (by omega)), fun j hj => ?_, ho, h.bel.grown hg (by have := h.bel.size; omega) (fun k e => by have := hlo k e; omega), by have := hg.size; have := h.sz; omega⟩
  have hc := h.wd j hj
  have hb : W.heap[w.heap.size + 1]? = wr.heap[w.heap.size + 1]? := hg.block _ (lt_of_cell0 hc) (ne _ (by omega))
  rw [← hc]
  unfold World.cell?
  simp only [hb]
set_option maxRecDepth 20000 in
set_option maxHeartbeats 1000000 in
theorem implSet_any (s : ByteArray) (w : World) (hE : Env w) (hs : s.size ≤ 1048576) :
    Calls Tryz.prog 73 #[.string s] w (SetPost s.data.toList w) := by
  have hsl : s.data.toList.length = s.size := rfl
  have hx0 := blkQ_new w (.bool false) (.slice none 0 0)
  have hb0 := (Below.refl w.heap.size w).alloc (Nat.le_refl _) (.cells #[.bool false, .slice none 0 0] 65)
  have hE0 := hE.below hb0
  have hz0 : (w.alloc (.cells #[.bool false, .slice none 0 0] 65)).heap.size = w.heap.size + 1 := World.size_alloc ..
  have HEN := hide (fun (W : World) (h : Below w.heap.size w W) => hE.below h)
  clear hE
  go_enter Tryz.func73, Tryz.ntmps73
  go_wp2_with fail
  generalize w.alloc (.cells #[.bool false, .slice none 0 0] 65) = W0 at hx0 hb0 hE0 hz0 ⊢
  obtain ⟨m, hm⟩ := hE0.max
  have hsp := Tryz.strings_Split s ⟨#[44]⟩ m W0 (by omega) hm (by decide)
  have hsb := splitB_of 44 s.size s (Nat.le_refl _)
  have hsa := Lib.splitB_all ⟨#[44]⟩ (by decide) 0 (Lib.countB s ⟨#[44]⟩) s rfl
  generalize Lib.splitB ⟨#[44]⟩ 0 (Lib.countB s ⟨#[44]⟩) s = ws at hsp hsb hsa
  rw [← hsa] at hsp
  have hlen : (splitOf 44 s.data.toList).length = ws.length := by rw [← hsb, List.length_map]
  have hwl : ws.length ≤ 1048577 := by
    have h2 := splitOf_len 44 s.data.toList
    omega
  have hwsz : ∀ y ∈ ws, y.size ≤ 1048576 := fun y hy => by
    have hmem : y.data.toList ∈ splitOf 44 s.data.toList := by rw [← hsb]; exact List.mem_map.2 ⟨y, hy, rfl⟩
    have h1 := splitOf_mem hmem
    have h2 : y.data.toList.length = y.size := rfl
    omega
  have hS1 : ISL w (W0.alloc (.cells (ws.map Value.string).toArray 9)) ws (.slice none 0 0) [] :=
    ⟨hx0.alloc _, fun j hj => by rw [← hz0, cell_of_row _ _ _ _ _ _ (heap_alloc_new W0 _)]; simp [hj], OwnP.nil _ _, hb0.alloc (by omega) _, by rw [World.size_alloc]; omega⟩
  have HAT := hide (show ∀ k (h : k < ws.length), (splitOf 44 s.data.toList)[k]'(Nat.lt_of_lt_of_eq h hlen.symm) = ws[k].data.toList from fun k h => by simp only [← hsb, List.getElem_map])
  have HWZ := hide hwsz
  refine hsp.mono ?_
  rintro e W1 ⟨rfl, hW1⟩
  rw [← hW1] at hS1
  rw [hz0]
  have HS1 := hide hS1
  clear hsp hsb hsa hS1 hW1 hwsz hx0 hb0 hE0 hz0 hm
  have p0 := HS1.out.b0.c0
  have p1 := HS1.out.b0.c1
  have f0 := HS1.out.b0.fz 0
  have f1 := HS1.out.b0.fz 1
  by_cases h50 : 50 < ws.length
  · have h50' : (50 : Int) < (ws.length : Int) := by omega
    have HN := hide (setOf_many (t := s.data.toList) (by omega))
    go_wp2
    exact bodyPost_ret (ret_set w.heap.size _ _ _ rfl rfl ((HS1.out.b0.set0 _).set1 _)) rfl (set_no HN.out ((HS1.out.bel.setCell (p := ⟨w.heap.size, 0, none⟩) (Nat.le_refl _) _).setCell (p := ⟨w.heap.size, 1, none⟩) (Nat.le_refl _) _))
  · have h50' : ¬ (50 : Int) < (ws.length : Int) := by omega
    clear p0 p1 f0 f1
    go_wp2
    go_loopw [4, 6, 7, 8, 17] (fun v _ _ _ i wr => ∃ (k : Nat), k ≤ ws.length ∧ i = .int .i64 (k : Int) ∧ (∀ x ∈ (splitOf 44 s.data.toList).take k, isPr x = true) ∧ ISL w wr ws v (((splitOf 44 s.data.toList).take k).map fun x => prI (prV x))) (fun _ _ _ _ i _ => ws.length - (intOf i).toNat)
    case atStart => exact ⟨0, Nat.zero_le _, rfl, (fun x h => by simp at h), HS1.out⟩
    case round =>
      obtain ⟨k, hk, rfl, hall, hS⟩ := hrel
      clear HS1
      by_cases hlt : k < ws.length
      · have hcell := hS.wd k hlt
        have hysz := HWZ.out _ (List.getElem_mem hlt)
        have HE := hide (HAT.out k hlt)
        have HBAD := hide (fun (h : isPr ws[k].data.toList = false) => setOf_bad (t := s.data.toList) (i := k) (by omega) (by rw [HAT.out k hlt]; exact h))
        have HNEXT := hide (fun (h : isPr ws[k].data.toList = true) => And.intro (allP_next (parts := splitOf 44 s.data.toList) (k := k) (by omega) hall (by rw [HAT.out k hlt]; exact h)) (mapP_next (parts := splitOf 44 s.data.toList) (k := k) (by omega)))
        generalize ws[k] = y at hcell hysz HE HBAD HNEXT
        have HS := hide hS
        clear hS hall
        go_wp2_with fail
        refine (readPair_any y wr (HEN.out wr HS.out.bel) (by omega)).mono ?_
        rintro e w2 ⟨n1, n2, ok, rfl, hor, hb2⟩
        have hS2 := HS.out.below hb2
        have hS3 := hS2.below ((Below.refl w2.heap.size w2).alloc (Nat.le_refl _) (.cells #[.int .u32 (n1 : Int), .int .u32 (n2 : Int)] 79))
        have HS2 := hide hS2
        have HS3 := hide hS3
        clear hS2 hS3 hb2 HS hcell
        rcases hor with ⟨rfl, hpv⟩ | ⟨rfl, hpv⟩
        · have HN := hide (HNEXT.out (by unfold isPr; rw [hpv]; rfl))
          have HPV := hide (show prI (prV ((splitOf 44 s.data.toList)[k]'(by omega))) = ((n1 : Int), (n2 : Int)) by rw [HE.out]; unfold prV; rw [hpv]; rfl)
          clear hpv HBAD HNEXT
          generalize hps : List.map (fun x => prI (prV x)) ((splitOf 44 s.data.toList).take k) = ps at HS2 HS3 HN
          have hpl : ps.length ≤ 1048576 := by rw [← hps, List.length_map, List.length_take]; omega
          clear hps
          have HS4 := hide (HS3.out.below ((Below.refl _ _).alloc (Nat.le_refl _) (.cells #[.int .u32 (n1 : Int), .int .u32 (n2 : Int)] 79)))
          have hc4 := heap_alloc_new (w2.alloc (.cells #[.int .u32 (n1 : Int), .int .u32 (n2 : Int)] 79)) (.cells #[.int .u32 (n1 : Int), .int .u32 (n2 : Int)] 79)
          rw [World.size_alloc] at hc4
          have HC0 := hide (show ((w2.alloc (.cells #[.int .u32 (n1 : Int), .int .u32 (n2 : Int)] 79)).alloc (.cells #[.int .u32 (n1 : Int), .int .u32 (n2 : Int)] 79)).cell? ⟨w2.heap.size + 1, 0, none⟩ = some (.int .u32 (n1 : Int)) by rw [cell_of_row _ _ _ _ _ _ hc4]; rfl)
          have HC1 := hide (show ((w2.alloc (.cells #[.int .u32 (n1 : Int), .int .u32 (n2 : Int)] 79)).alloc (.cells #[.int .u32 (n1 : Int), .int .u32 (n2 : Int)] 79)).cell? ⟨w2.heap.size + 1, 1, none⟩ = some (.int .u32 (n2 : Int)) by rw [cell_of_row _ _ _ _ _ _ hc4]; rfl)
          clear hc4
          go_wp2_with (first
            | (at_builtin; refine wpList_append_pair _ rfl (.tmp 29) (.tmp 31) rfl (w.heap.size + 2) u4 ps ((n1 : Int), (n2 : Int)) (w2.heap.size + 1) 1 rfl rfl ?_ ?_ ?_ hpl ?_ ?_; (exact HS4.out.ow); (exact HC0.out); (exact HC1.out); (exact HS4.out.sz); intro v7 w7 ho7 hg7; have HP7 := hide (HS4.out.push ho7 hg7); clear ho7 hg7)
            | go_in)
          exact ⟨⟨k + 1, by omega, by go_num, HN.out.1, by rw [HN.out.2, HPV.out]; exact HP7.out⟩, by simp [intOf]; omega⟩
        · have HN := hide (HBAD.out (by unfold isPr; rw [hpv]; rfl))
          have p0 := HS3.out.b0.c0
          have p1 := HS3.out.b0.c1
          have f0 := HS3.out.b0.fz 0
          have f1 := HS3.out.b0.fz 1
          clear hpv HBAD HNEXT
          go_wp2
          exact bodyPost_ret (ret_set w.heap.size _ _ _ rfl rfl ((HS3.out.b0.set0 _).set1 _)) rfl (set_no HN.out ((HS3.out.bel.setCell (p := ⟨w.heap.size, 0, none⟩) (Nat.le_refl _) _).setCell (p := ⟨w.heap.size, 1, none⟩) (Nat.le_refl _) _))
      · obtain rfl : k = ws.length := by omega
        have ht : (splitOf 44 s.data.toList).take ws.length = splitOf 44 s.data.toList := List.take_of_length_le (by omega)
        rw [ht] at hall hS
        obtain ⟨va, vc, hve⟩ := hS.ow.slice
        rw [List.length_map, hlen] at hve
        subst hve
        have HS := hide hS
        have p0 := hS.b0.c0
        have p1 := hS.b0.c1
        have f0 := hS.b0.fz 0
        have f1 := hS.b0.fz 1
        have HY := hide (setOf_good (t := s.data.toList) (by omega) hall)
        clear hS ht hall
        go_wp2
        exact bodyPost_ret (ret_set w.heap.size _ _ _ rfl rfl ((HS.out.b0.set0 _).set1 _)) rfl (set_yes HY.out (by rw [List.map_map]; exact ((HS.out.ow.other (show w.heap.size < w.heap.size + 2 by omega) _).other (show w.heap.size < w.heap.size + 2 by omega) _).mono (by omega)) ((HS.out.bel.setCell (p := ⟨w.heap.size, 0, none⟩) (Nat.le_refl _) _).setCell (p := ⟨w.heap.size, 1, none⟩) (Nat.le_refl _) _))
end Go.Proofs.YtpedmebigcchnaaGreatDoor
namespace Go.Proofs.YtpedmebigcchnaaGreatDoor
open Go.RowKit
theorem run_index_nam (w : World) (k : Nat) (hk : k < 31) : (Instr.index 106 (.agg (namA 31)) (.int .i64 (k : Int))).run Tryz.prog w = .ok (nameV k) w := by
  have hu := run_underlying Tryz.underlying106
  have he : (namA 31)[k]? = some (nameV k) := by simp [namA, namL, hk]
  simp [Instr.index, asIntOf, hu, part, he, hk]
theorem wpList_index_nam {ops : Array Oper} {rest : List Oper} {o : Oper} {act : Act} {Q : Exit → Act → World → Prop} (w : World) (k : Nat) (hgd : o.guard = none) (x y : Operand) (ho : o.op = .index 106 x y)
    (hx : act.eval x = .agg (namA 31)) (hy : act.eval y = .int .i64 (k : Int)) (hk : k < 31)
    (h : wpList Tryz.prog ops Q rest (act.put o.dst (.string (strB (nameL k)))) w) : wpList Tryz.prog ops Q (o :: rest) act w := by
  refine wpList_plain hgd fun K hK => ?_
  unfold Oper.wp execOp
  simp only [ho, hx, hy, Sem.run_bind, run_index_nam w k hk, Result.andThen_ok]
  exact hK _ _ h
end Go.Proofs.YtpedmebigcchnaaGreatDoor
