import Derived.Test.YtokcdpamcbpaiabSplitMath
import Derived.Deep.RegionLaw
namespace Go.Proofs.Ytokcdpamcbpaiab
open Go.RowKit
/-- A block that holds Spans. -/
def BlkS (w : World) (g : Nat) (x y : Value) : Prop := w.heap[g]? = some (.cells #[x, y] 31 (0, 0))
theorem BlkS.c0 {w : World} {g : Nat} {x y : Value} (h : BlkS w g x y) : w.cell? ⟨g, 0, none⟩ = some x := by rw [cell_of_row w g 0 _ _ (0, 0) h]; rfl
theorem BlkS.c1 {w : World} {g : Nat} {x y : Value} (h : BlkS w g x y) : w.cell? ⟨g, 1, none⟩ = some y := by rw [cell_of_row w g 1 _ _ (0, 0) h]; rfl
theorem BlkS.fz {w : World} {g : Nat} {x y : Value} (h : BlkS w g x y) (j : Nat) : w.frozen? ⟨g, j, none⟩ = false := frozen_of_row w g j _ _ h
theorem BlkS.set0 {w : World} {g : Nat} {x y : Value} (h : BlkS w g x y) (u : Value) : BlkS (w.setCell ⟨g, 0, none⟩ u) g u y := heap_setCell_same w g 0 _ _ u h
theorem BlkS.set1 {w : World} {g : Nat} {x y : Value} (h : BlkS w g x y) (u : Value) : BlkS (w.setCell ⟨g, 1, none⟩ u) g x u := heap_setCell_same w g 1 _ _ u h
theorem BlkS.other {w : World} {g g' j : Nat} {x y : Value} (h : BlkS w g x y) (hne : g ≠ g') (u : Value) : BlkS (w.setCell ⟨g', j, none⟩ u) g x y := by
  unfold BlkS
  rw [Below.heap_setCell w ⟨g', j, none⟩ u g hne]
  exact h
theorem BlkS.lt {w : World} {g : Nat} {x y : Value} (h : BlkS w g x y) : g < w.heap.size := lt_of_block h
theorem BlkS.below {w w' : World} {B g : Nat} {x y : Value} (h : BlkS w g x y) (hb : Below B w w') (hg : g < B) : BlkS w' g x y := (hb.block g hg).trans h
theorem BlkS.grown {w w' : World} {g : Nat} {x y : Value} {row : Option Nat} (h : BlkS w g x y) (hg : w.grownBy w' row) (hne : some g ≠ row) : BlkS w' g x y := (hg.block g h.lt hne).trans h
theorem ret_spans {fn : Func} {tmps : Array Value} {p : Tmp} (B : Nat) (W : World) (x y : Value) (hf : fn.results = #[.cell p 31]) (hp : tmps.getD p undef = .pointer (some ⟨B, 0, none⟩)) (hb : BlkS W B x y) :
    (results fn tmps).run Try.prog W = .ok (.agg #[x, y]) W :=
  results_cell_row (P := Try.prog) hf _ _ B _ _ _ _ hp hb Try.underlying31 rfl (by kernel_rfl)
/-- What MboxSplit leaves. -/
def SplIs (w' : World) (lo : Nat) (v : Value) : Option (List (Nat × Nat × List Nat)) → Prop
  | none => v = .agg #[.bool false, .slice none 0 0]
  | some l => ∃ lv vs, v = .agg #[.bool true, lv] ∧ vs.map (fun x : S3 => (x.1, x.2.1)) = l.map (fun x => (x.1, x.2.1)) ∧ OwnS w' lo lv vs (l.map (·.2.2))
def SplPost (d : List Nat) (w : World) (e : Ending) (w' : World) : Prop := ∃ v, e = .returned v ∧ SplIs w' w.heap.size v (splitOf d) ∧ Below w.heap.size w w'
structure Spl (w wr : World) (lo2 : Nat) (sv v : Value) (R : List Nat) (vs : List S3) (ls : List (List Nat)) : Prop where
  b0 : BlkS wr w.heap.size (.bool false) (.slice none 0 0)
  b1 : BlkS wr (w.heap.size + 1) (.bool true) v
  st : OwnI wr (w.heap.size + 2) sv R
  stlt : ∀ g, sv.ownBlock = some g → g < lo2
  os : OwnS wr lo2 v vs ls
  bel : Below w.heap.size w wr
  sz : lo2 ≤ wr.heap.size
  lo : w.heap.size + 2 ≤ lo2
theorem Spl.below {w W W' : World} {lo2 : Nat} {sv v : Value} {R : List Nat} {vs : List S3} {ls : List (List Nat)} (h : Spl w W lo2 sv v R vs ls) (hb : Below W.heap.size W W') : Spl w W' lo2 sv v R vs ls :=
  ⟨h.b0.below hb h.b0.lt, h.b1.below hb h.b1.lt, h.st.below hb (Nat.le_refl _), h.stlt, h.os.below hb (Nat.le_refl _), h.bel.trans (hb.mono h.bel.size), Nat.le_trans h.sz hb.size, h.lo⟩
theorem split_none {d : List Nat} (h : 40000 < d.length ∨ (0 < d.length ∧ (startsFrom (fromsOf d)).head? ≠ some 0) ∨ ∃ k, k < (startsFrom (fromsOf d)).length ∧ okEntry (entB d (startsFrom (fromsOf d)) k) = false) : splitOf d = none := by unfold splitOf; rw [if_pos h]
theorem split_some {d : List Nat} (hd : d.length ≤ 40000) (h1 : ¬ (0 < d.length ∧ (startsFrom (fromsOf d)).head? ≠ some 0)) (h2 : ∀ k, k < (startsFrom (fromsOf d)).length → okEntry (entB d (startsFrom (fromsOf d)) k) = true) : splitOf d = some ((List.range (startsFrom (fromsOf d)).length).map (spanAt d (startsFrom (fromsOf d)))) := by
  unfold splitOf
  rw [if_neg]
  rintro (h | h | ⟨k, hk, h⟩)
  · omega
  · exact h1 h
  · rw [h2 k hk] at h; cases h
theorem implSplit_long (b off cap : Nat) (d : List Nat) (w : World) (hl : 40000 < d.length) (hd : d.length ≤ 1048576) :
    Calls Try.prog 17 #[.slice (some ⟨b, off, none⟩) d.length cap] w (SplPost d w) := by
  have hi : (40000 : Int) < (d.length : Int) := by omega
  have hb0 : BlkS (w.alloc (.cells #[.bool false, .slice none 0 0] 31)) w.heap.size (.bool false) (.slice none 0 0) := heap_alloc_new w _
  go_enter Try.func17, Try.ntmps17
  go_wp2
  exact bodyPost_ret (ret_spans w.heap.size _ _ _ rfl rfl hb0) rfl ⟨_, rfl, by rw [split_none (Or.inl hl)]; exact rfl, (Below.refl _ _).alloc (Nat.le_refl _) _⟩
/-- What stands beside the list when it has grown. -/
structure SpRest (w w3 : World) (lo2 : Nat) (sv v : Value) (R : List Nat) : Prop where
  b0 : BlkS w3 w.heap.size (.bool false) (.slice none 0 0)
  b1 : BlkS w3 (w.heap.size + 1) (.bool true) v
  st : OwnI w3 (w.heap.size + 2) sv R
  bel : Below w.heap.size w w3
  sz : lo2 ≤ w3.heap.size
theorem heap_ownK {w w' : World} {base e k n : Nat} {v : Value} {xs : List Value} (h : w.ownsRow base e k v n xs) (hh : w'.heap = w.heap) : w'.ownsRow base e k v n xs := own_keepK h fun g _ _ => by rw [hh]
theorem heap_ownS {w w' : World} {lo : Nat} {v : Value} {vs : List S3} {ls : List (List Nat)} (h : OwnS w lo v vs ls) (hh : w'.heap = w.heap) : OwnS w' lo v vs ls := by
  refine ⟨h.len, heap_ownK h.row hh, fun i hi => ?_, h.apart⟩
  obtain ⟨x, hx, ho⟩ := h.body i hi
  exact ⟨x, hx, heap_ownK ho hh⟩
def SpOk (w w2 : World) (lo2 : Nat) (sv v u : Value) (p q : Nat) (R : List Nat) (vs : List S3) (ls : List (List Nat)) (U : List Nat) : Prop :=
  ∀ Y : World, Y.heap = (w2.alloc (.cells #[.int .i64 (p : Int), .int .i64 (q : Int), u] 34)).heap → Y.os = w2.os → Y.tape = w2.tape → Y.output = w2.output →
    OwnS Y lo2 v vs ls ∧ Y.cell? ⟨w2.heap.size, 0, none⟩ = some (iv p) ∧ Y.cell? ⟨w2.heap.size, 1, none⟩ = some (iv q) ∧ Y.cell? ⟨w2.heap.size, 2, none⟩ = some u ∧ OwnB Y lo2 u U ∧ lo2 ≤ Y.heap.size ∧ ∀ w3, Y.grownBy w3 v.ownBlock → SpRest w w3 lo2 sv v R
theorem sp_next {w w2 Y w3 : World} {lo2 : Nat} {sv v u : Value} {p q : Nat} {R : List Nat} {vs : List S3} {ls : List (List Nat)} {U : List Nat} (h : SpOk w w2 lo2 sv v u p q R vs ls U) (hg : Y.grownBy w3 v.ownBlock) (h1 : Y.heap = (w2.alloc (.cells #[.int .i64 (p : Int), .int .i64 (q : Int), u] 34)).heap := by rfl) (h2 : Y.os = w2.os := by rfl) (h3 : Y.tape = w2.tape := by rfl) (h4 : Y.output = w2.output := by rfl) : SpRest w w3 lo2 sv v R :=
  (h Y h1 h2 h3 h4).2.2.2.2.2.2 w3 hg
theorem sp_done {w w3 : World} {lo2 : Nat} {sv v v3 : Value} {R : List Nat} {vs : List S3} {ls : List (List Nat)} (h : SpRest w w3 lo2 sv v R) (hl : w.heap.size + 2 ≤ lo2) (hs : ∀ g, sv.ownBlock = some g → g < lo2) (ho : OwnS w3 lo2 v3 vs ls) : Spl w (w3.setCell ⟨w.heap.size + 1, 1, none⟩ v3) lo2 sv v3 R vs ls :=
  ⟨h.b0.other (show w.heap.size ≠ w.heap.size + 1 by omega) _, h.b1.set1 _, ownsRow_setCell_below h.st (show w.heap.size + 1 < w.heap.size + 2 by omega) _, hs, ho.other (show w.heap.size + 1 < lo2 by omega) _, h.bel.setCell (p := ⟨w.heap.size + 1, 1, none⟩) (by simp) _, by simpa using h.sz, hl⟩
theorem unq_at {w W0 : World} {lo2 : Nat} {sv v : Value} {R : List Nat} {vs : List S3} {ls : List (List Nat)} (S : Spl w W0 lo2 sv v R vs ls) (b o n c p q : Nat) (U : List Nat) (hn : U.length = n) (hU : U.length ≤ 1048576) (hc : U.length ≤ c) (hcm : c ≤ 9223372036854775807) (hT : TextAt W0 b o U) (hbw : b < W0.heap.size) (hb : ∀ x ∈ U, x < 256) :
    ∀ W : World, W.heap = W0.heap → W.os = W0.os → W.tape = W0.tape → W.output = W0.output → Calls Try.prog 9 #[.slice (some ⟨b, o, none⟩) n c] W fun e w2 => ∃ a2 c2, e = .returned (.slice a2 (unquoteOf U).length c2) ∧ (∀ y ∈ vs, y.2.2.ownBlock = none ∨ y.2.2.ownBlock ≠ (Value.slice a2 (unquoteOf U).length c2).ownBlock) ∧
      SpOk w w2 lo2 sv v (.slice a2 (unquoteOf U).length c2) p q R vs ls (unquoteOf U) ∧ w2.cell? ⟨w.heap.size + 1, 1, none⟩ = some v ∧ w.heap.size + 1 < w2.heap.size := by
  intro W e1 e2 e3 e4
  subst hn
  have hT' : TextAt W b o U := fun i hi => by rw [← hT i hi]; exact World.cell?_of_block (by rw [e1])
  refine (implUnquote_any b o c U W hU hc hcm hT' (by rw [e1]; exact hbw) hb).mono ?_
  rintro e w2 ⟨v2, rfl, ho2, hb2⟩
  obtain ⟨a2, c2, rfl⟩ := ho2.slice
  rw [e1] at ho2
  have hB : Below W0.heap.size W0 w2 := ⟨hb2.os.trans e2, hb2.tape.trans e3, hb2.output.trans e4, by rw [← e1]; exact hb2.size, fun k hk => by rw [← e1]; exact hb2.block k (by rw [e1]; exact hk)⟩
  have S2 := S.below hB
  have hsz := hB.size
  refine ⟨a2, c2, rfl, S.os.ne_new ho2, ?_, S2.b1.c1, S2.b1.lt⟩
  have hal := (Below.refl w2.heap.size w2).alloc (Nat.le_refl _) (.cells #[.int .i64 (p : Int), .int .i64 (q : Int), .slice a2 (unquoteOf U).length c2] 34)
  have S3' := S2.below hal
  have ho3 : OwnB _ lo2 (.slice a2 (unquoteOf U).length c2) (unquoteOf U) := (ho2.below hal (Nat.le_refl _)).mono S.sz
  have hx3 := heap_alloc_new w2 (.cells #[.int .i64 (p : Int), .int .i64 (q : Int), .slice a2 (unquoteOf U).length c2] 34)
  intro Y y1 y2 y3 y4
  have hxY : Y.heap[w2.heap.size]? = some (.cells #[.int .i64 (p : Int), .int .i64 (q : Int), .slice a2 (unquoteOf U).length c2] 34 (0, 0)) := by rw [y1]; exact hx3
  have hv2 : ∀ g, v.ownBlock = some g → lo2 ≤ g := fun g hg => (World.ownsRow.lt S2.os.row g hg).1
  refine ⟨heap_ownS S3'.os y1, by rw [cell_of_row _ _ _ _ _ _ hxY]; rfl, by rw [cell_of_row _ _ _ _ _ _ hxY]; rfl, by rw [cell_of_row _ _ _ _ _ _ hxY]; rfl, heap_ownK ho3 y1, by rw [y1]; exact S3'.sz, fun w3 hg => ?_⟩
  have c0 : BlkS Y w.heap.size (.bool false) (.slice none 0 0) := by unfold BlkS; rw [y1]; exact S3'.b0
  have c1 : BlkS Y (w.heap.size + 1) (.bool true) v := by unfold BlkS; rw [y1]; exact S3'.b1
  have c2' : OwnI Y (w.heap.size + 2) sv R := heap_ownK S3'.st y1
  have hlo := S.lo
  refine ⟨c0.grown hg (fun e => by have := hv2 _ e.symm; omega), c1.grown hg (fun e => by have := hv2 _ e.symm; omega), World.ownsRow.kept c2' hg ?_, ?_, Nat.le_trans (by rw [y1]; exact S3'.sz) hg.size⟩
  · cases hb' : sv.ownBlock with
    | none => exact .inl rfl
    | some g => exact .inr fun e => by have := hv2 g e.symm; have := S.stlt g hb'; omega
  · have hbY : Below w.heap.size w Y := ⟨y2.trans S2.bel.os, y3.trans S2.bel.tape, y4.trans S2.bel.output, by rw [y1]; exact S3'.bel.size, fun k hk => by rw [y1]; exact S3'.bel.block k hk⟩
    exact hbY.grown hg (by have := hbY.size; omega) (fun g hg' => by have := hv2 g hg'; omega)
theorem run_unq (v : Value) (w : World) : (callFunc 9 #[v]).run Try.prog w = .ok (.enter 9 #[v]) w := by
  kernel_rfl
theorem step_call_unq {ops : Array Oper} {o : Oper} {act : Act} {w : World} {K : Act → World → Prop} {Q : Exit → Act → World → Prop} {E : Prop} (x : Operand) (ts : Array TypeId) (hgd : o.guard = none)
    (ho : o.op = .call { callee := .value (.func 9), args := #[x], argTypes := ts }) (v : Value) (hx : act.eval x = v) (h : Calls Try.prog 9 #[v] w fun e w' => ∃ u, e = .returned u ∧ K (act.put o.dst u) w') :
    if Region.wanted o (yielded ops act.tmps) = true then Oper.wp Try.prog o act w K Q else E := by
  have hw : Region.wanted o (yielded ops act.tmps) = true := by simp [Region.wanted, hgd]
  rw [if_pos hw]
  obtain ⟨dst, op, ty, pos, after, guard⟩ := o
  simp only at ho hgd
  subst ho
  unfold Oper.wp
  rw [execOp_call_go]
  simp only [List.map_toArray, List.map_cons, List.map_nil, hx, List.append_toArray, List.nil_append, List.append_nil, run_unq, Oper.upon_enter]
  refine h.mono ?_
  rintro e w' ⟨u, rfl, hk⟩
  exact hk
set_option maxRecDepth 20000 in
set_option maxHeartbeats 2000000 in
theorem implSplit_any (b off cap : Nat) (d : List Nat) (w : World) (hd : d.length ≤ 40000) (hcap : d.length ≤ cap) (hcm : cap ≤ 9223372036854775807) (hT : TextAt w b off d) (hbw : b < w.heap.size) (hb : ∀ x ∈ d, x < 256) :
    Calls Try.prog 17 #[.slice (some ⟨b, off, none⟩) d.length cap] w (SplPost d w) := by
  have hi : ¬ (40000 : Int) < (d.length : Int) := by omega
  have b0 : BlkS ((w.alloc (.cells #[.bool false, .slice none 0 0] 31)).alloc (.cells #[.bool true, .slice none 0 0] 31)) w.heap.size (.bool false) (.slice none 0 0) := (Below.heap_alloc _ _ _ (by simp)).trans (heap_alloc_new w _)
  have b1 : BlkS ((w.alloc (.cells #[.bool false, .slice none 0 0] 31)).alloc (.cells #[.bool true, .slice none 0 0] 31)) (w.heap.size + 1) (.bool true) (.slice none 0 0) := by
    have h := heap_alloc_new (w.alloc (.cells #[.bool false, .slice none 0 0] 31)) (.cells #[.bool true, .slice none 0 0] 31)
    simpa [BlkS] using h
  have bw : Below w.heap.size w ((w.alloc (.cells #[.bool false, .slice none 0 0] 31)).alloc (.cells #[.bool true, .slice none 0 0] 31)) := ((Below.refl _ _).alloc (Nat.le_refl _) _).alloc (by simp) _
  have hz : ((w.alloc (.cells #[.bool false, .slice none 0 0] 31)).alloc (.cells #[.bool true, .slice none 0 0] 31)).heap.size = w.heap.size + 2 := by simp
  go_enter Try.func17, Try.ntmps17
  go_wp2_with fail
  generalize (w.alloc (.cells #[.bool false, .slice none 0 0] 31)).alloc (.cells #[.bool true, .slice none 0 0] 31) = W1 at b0 b1 bw hz ⊢
  refine (entryStarts_any b off cap d W1 (by omega) hcap hcm (hT.below bw hbw) hb).mono ?_
  rintro e W2 ⟨sv, rfl, hst, hb2⟩
  obtain ⟨sa, sc, rfl⟩ := hst.slice
  have hsz2 := hb2.size
  have S0 : Spl w W2 W2.heap.size (.slice sa (startsFrom (fromsOf d)).length sc) (.slice none 0 0) (startsFrom (fromsOf d)) [] [] :=
    ⟨b0.below hb2 b0.lt, b1.below hb2 b1.lt, by rw [hz] at hst; exact hst, fun g hg => (World.ownsRow.lt hst g hg).2, OwnS.nil _ _, bw.trans (hb2.mono bw.size), Nat.le_refl _, by omega⟩
  have hRn : (startsFrom (fromsOf d)).length ≤ 40000 := Nat.le_trans (startsFrom_len _) (Nat.le_trans (froms_len d) hd)
  have hrise := starts_rise d
  have HNONE := hide (fun h : 0 < d.length ∧ (startsFrom (fromsOf d)).head? ≠ some 0 => split_none (d := d) (Or.inr (Or.inl h)))
  have HBADK := hide (fun (k : Nat) (hk : k < (startsFrom (fromsOf d)).length) (h : okEntry (entB d (startsFrom (fromsOf d)) k) = false) => split_none (d := d) (Or.inr (Or.inr ⟨k, hk, h⟩)))
  have HSOME := hide (split_some (d := d) hd)
  clear b0 b1 bw hz hst hb2 hsz2
  generalize hR : startsFrom (fromsOf d) = R at S0 hRn hrise HNONE HBADK HSOME ⊢
  clear hR
  have p0 := S0.b0.c0
  have p1 := S0.b0.c1
  have f0 := S0.b0.fz 0
  have f1 := S0.b0.fz 1
  have q0 := S0.b1.c0
  have q1 := S0.b1.c1
  have HS0 := hide S0
  by_cases hpos : 0 < d.length
  · have hpos' : (0 : Int) < (d.length : Int) := by omega
    cases hRc : R with
    | nil =>
      subst hRc
      have HX := hide (HNONE.out ⟨hpos, by simp⟩)
      clear HNONE HBADK HSOME S0 hrise
      go_wp2
      exact bodyPost_ret (ret_spans w.heap.size _ _ _ rfl rfl ((HS0.out.b0.set0 _).set1 _)) rfl ⟨_, rfl, by rw [HX.out]; exact rfl, (HS0.out.bel.setCell (p := ⟨w.heap.size, 0, none⟩) (Nat.le_refl _) _).setCell (p := ⟨w.heap.size, 1, none⟩) (Nat.le_refl _) _⟩
    | cons r0 rs =>
      subst hRc
      obtain ⟨g1, rfl⟩ : ∃ g1, sa = some ⟨g1, 0, none⟩ := by
        rcases S0.st.2 with ⟨h', hn⟩ | ⟨g, cap', cur, h', _⟩
        · simp at hn
        · simp only [Value.slice.injEq] at h'; exact ⟨g, h'.1⟩
      have s0 : W2.cell? ⟨g1, 0, none⟩ = some (.int .i64 (r0 : Int)) := S0.st.cell 0 (by simp)
      have hlen0 : ((rs.length : Int) + 1 == 0) = false := by simp; omega
      by_cases hr0 : r0 = 0
      · subst hr0
        clear S0 HNONE p0 p1 f0 f1 q0 q1
        obtain ⟨R, hR⟩ : ∃ R, R = 0 :: rs := ⟨_, rfl⟩
        have hRl : R.length = rs.length + 1 := by rw [hR]; rfl
        have hRh : R.head? = some 0 := by rw [hR]; rfl
        rw [← hR] at HS0 HBADK HSOME hrise hRn
        go_wp2
        clear s0 hR
        go_loopw [5, 6, 7, 8, 9, 34] (fun _ _ _ _ _ i wr => ∃ (k : Nat) (v : Value) (vs : List S3) (ls : List (List Nat)), k ≤ R.length ∧ i = .int .i64 (k : Int) ∧ Spl w wr W2.heap.size (.slice (some ⟨g1, 0, none⟩) R.length sc) v R vs ls ∧ Hid (vs.map (fun x : S3 => (x.1, x.2.1)) = (List.range k).map (entAt R d.length)) ∧ Hid (ls = (List.range k).map (fun j => unquoteOf (innerOf (entB d R j)))) ∧ Hid (∀ j, j < k → okEntry (entB d R j) = true)) (fun _ _ _ _ _ i _ => R.length - (intOf i).toNat)
        case atStart => exact ⟨0, _, [], [], Nat.zero_le _, rfl, HS0.out, rfl, rfl, fun j hj => absurd hj (Nat.not_lt_zero _)⟩
        case round =>
          obtain ⟨k, v, vs, ls, hk, rfl, S, HV, HL, HO⟩ := hrel
          obtain ⟨va, vc, rfl⟩ := S.os.slice
          clear HS0
          by_cases hlt : k < R.length
          · obtain ⟨hpq, hqn⟩ := hrise k hlt
            have sk := S.st.cell k hlt
            have hpk : (entAt R d.length k).1 = R[k] := by unfold entAt; simp [List.getD, hlt]
            rw [← hpk] at sk
            have sk1 : ∀ h : k + 1 < R.length, wr.cell? ⟨g1, k + 1, none⟩ = some (.int .i64 ((entAt R d.length k).2 : Int)) := fun h => by
              have hq : (entAt R d.length k).2 = R[k + 1] := by unfold entAt; simp [List.getD, h]
              rw [hq]; exact S.st.cell (k + 1) h
            have hq2 : ¬ k + 1 < R.length → (entAt R d.length k).2 = d.length := fun h => by unfold entAt; simp [h]
            have hel : (entB d R k).length = (entAt R d.length k).2 - (entAt R d.length k).1 := by unfold entB; rw [List.length_take, List.length_drop]; omega
            have hTk := text_slice (hT.below S.bel hbw) (entAt R d.length k).1 ((entAt R d.length k).2 - (entAt R d.length k).1)
            have heb : (d.drop (entAt R d.length k).1).take ((entAt R d.length k).2 - (entAt R d.length k).1) = entB d R k := rfl
            rw [heb] at hTk
            have hbk : ∀ x ∈ entB d R k, x < 256 := fun x hx => hb x (List.mem_of_mem_drop (List.mem_of_mem_take hx))
            have HSP := hide (show spanAt d R k = ((entAt R d.length k).1, (entAt R d.length k).2, unquoteOf (innerOf (entB d R k))) from rfl)
            have HE := hide (show entAt R d.length k = ((entAt R d.length k).1, (entAt R d.length k).2) from rfl)
            generalize (entAt R d.length k).1 = p at hpq hpk sk hel hTk HSP HE heb
            generalize (entAt R d.length k).2 = q at hpq hqn sk1 hq2 hel hTk HSP HE heb
            have HS := hide S
            clear hpk heb S
            have hki : (k : Int) < (rs.length : Int) + 1 := by omega
            have hpi : (p : Int) ≤ (q : Int) := by omega
            have hqi : (q : Int) ≤ (cap : Int) := by omega
            have hne : ¬ cap = p := by omega
            by_cases h1 : k + 1 < R.length
            · have sk2 := sk1 h1
              have h1i : (k : Int) + 1 < (rs.length : Int) + 1 := by omega
              clear sk1 hq2
              go_wp2_with fail
              by_cases hok : okEntry (entB d R k) = true
              · have IG := inner_good b (off + p) (cap - p) (entB d R k) wr (by omega) (by omega) hTk (by have := HS.out.bel.size; omega) hbk hok
                rw [hel] at IG
                refine IG.mono ?_
                rintro e W3 ⟨rfl, hb3⟩
                have HS3 := hide (HS.out.below hb3)
                have h11 := (okEntry_parts hok).1
                have hin : innerOf (entB d R k) = ((entB d R k).drop 10).take ((entB d R k).length - 11) := rfl
                have hTi : TextAt W3 b (off + p + 10) (innerOf (entB d R k)) := by
                  have h := (text_slice (hTk.drop 10) 0 ((entB d R k).length - 11)).below hb3 (by have := HS.out.bel.size; omega)
                  rw [hin]
                  simpa using h
                have hil : (innerOf (entB d R k)).length = q - p - 10 - 1 := by rw [hin, List.length_take, List.length_drop, hel]; omega
                have hbi : ∀ x ∈ innerOf (entB d R k), x < 256 := fun x hx => hbk x (List.mem_of_mem_drop (List.mem_of_mem_take hx))
                have hcl := unq_at HS3.out b (off + p + 10) (q - p - 10 - 1) (cap - p - 10) p q (innerOf (entB d R k)) hil (by omega) (by omega) (by omega) hTi (by have := HS3.out.bel.size; omega) hbi
                have HN := hide (show (∀ j, j < k + 1 → okEntry (entB d R j) = true) from fun j hj => by
                  by_cases e : j < k
                  · exact HO.out j e
                  · obtain rfl : j = k := by omega
                    exact hok)
                have hlr : ls.length ≤ 1048576 := by have := congrArg List.length HL.out; rw [List.length_map, List.length_range] at this; omega
                have q1 := HS3.out.b1.c1
                generalize hUU : unquoteOf (innerOf (entB d R k)) = U at hcl
                have HU := hide hUU
                clear hUU hbi hil hTi hin IG hb3 hTk hbk hel HS HO hok sk h11
                go_wp2
                go_region_law (first
                  | (refine step_call_unq (.tmp 66) #[22] (by rfl) (by rfl) (.slice (some ⟨b, off + p + 10, none⟩) (q - p - 10 - 1) (cap - p - 10)) (by rfl) ?_; refine (hcl _ ?_ ?_ ?_ ?_).mono ?_; (exact rfl); (exact rfl); (exact rfl); (exact rfl); rintro e w2 ⟨a2, c2, rfl, hkn, ha, p1, l2⟩; have HKN := hide hkn; have HA := hide ha; clear hkn ha; refine ⟨_, rfl, ?_⟩)
                  | (refine step_append_span _ (by rfl) (.tmp 63) (.tmp 69) (by rfl) W2.heap.size (.slice va ls.length vc) vs ls p q (.slice a2 U.length c2) U w2.heap.size 1 (by rfl) (by rfl) ?_ ?_ ?_ ?_ ?_ ?_ ?_ ?_ ?_; (refine (HA.out _ ?_ ?_ ?_ ?_).1 <;> rfl); (refine (HA.out _ ?_ ?_ ?_ ?_).2.1 <;> rfl); (refine (HA.out _ ?_ ?_ ?_ ?_).2.2.1 <;> rfl); (refine (HA.out _ ?_ ?_ ?_ ?_).2.2.2.1 <;> rfl); (refine (HA.out _ ?_ ?_ ?_ ?_).2.2.2.2.1 <;> rfl); (exact HKN.out); (exact hlr); (refine (HA.out _ ?_ ?_ ?_ ?_).2.2.2.2.2.1 <;> rfl); intro v3 w3 ho3 hg3; have hz := sp_next HA.out hg3; obtain ⟨a3, c3, rfl⟩ := ho3.slice; have p3 := hz.b1.c0; have f3 := hz.b1.fz 0; have p4 := hz.b1.c1; have f4 := hz.b1.fz 1))
                all_goals
                  have hd3 := sp_done hz HS3.out.lo HS3.out.stlt ho3
                  rw [show (ls ++ [U]).length = ls.length + 1 from by simp] at hd3
                  go_wp2
                  go_roundw
                  case rel =>
                    refine ⟨k + 1, _, _, _, by omega, by go_num, hd3, ?_, ?_, HN.out⟩
                    · show _ = _
                      rw [List.range_succ, List.map_append, List.map_append, HV.out, List.map_singleton, List.map_singleton, HE.out]
                    · show _ = _
                      rw [List.range_succ, List.map_append, ← HL.out, List.map_singleton, HU.out]
                  case measure => simp [intOf]; omega
              · have IB := inner_bad b (off + p) (cap - p) (entB d R k) wr (by omega) (by omega) hTk (by have := HS.out.bel.size; omega) hbk (by simpa using hok)
                rw [hel] at IB
                refine IB.mono ?_
                rintro e W3 ⟨v3, rfl, hb3⟩
                have HS3 := hide (HS.out.below hb3)
                have HX := hide (HBADK.out k hlt (by simpa using hok))
                have p0 := HS3.out.b0.c0
                have p1 := HS3.out.b0.c1
                have f0 := HS3.out.b0.fz 0
                have f1 := HS3.out.b0.fz 1
                clear IB hb3 hTk hbk hel HS HO hok sk HBADK HSOME HV HL hrise
                go_wp2
                exact bodyPost_ret (ret_spans w.heap.size _ _ _ rfl rfl ((HS3.out.b0.set0 _).set1 _)) rfl ⟨_, rfl, by rw [HX.out]; exact rfl, (HS3.out.bel.setCell (p := ⟨w.heap.size, 0, none⟩) (Nat.le_refl _) _).setCell (p := ⟨w.heap.size, 1, none⟩) (Nat.le_refl _) _⟩
            · have hqd := hq2 h1
              subst hqd
              have h1i : ¬ (k : Int) + 1 < (rs.length : Int) + 1 := by omega
              clear sk1 hq2
              go_wp2_with fail
              by_cases hok : okEntry (entB d R k) = true
              · have IG := inner_good b (off + p) (cap - p) (entB d R k) wr (by omega) (by omega) hTk (by have := HS.out.bel.size; omega) hbk hok
                rw [hel] at IG
                refine IG.mono ?_
                rintro e W3 ⟨rfl, hb3⟩
                have HS3 := hide (HS.out.below hb3)
                have h11 := (okEntry_parts hok).1
                have hin : innerOf (entB d R k) = ((entB d R k).drop 10).take ((entB d R k).length - 11) := rfl
                have hTi : TextAt W3 b (off + p + 10) (innerOf (entB d R k)) := by
                  have h := (text_slice (hTk.drop 10) 0 ((entB d R k).length - 11)).below hb3 (by have := HS.out.bel.size; omega)
                  rw [hin]
                  simpa using h
                have hil : (innerOf (entB d R k)).length = d.length - p - 10 - 1 := by rw [hin, List.length_take, List.length_drop, hel]; omega
                have hbi : ∀ x ∈ innerOf (entB d R k), x < 256 := fun x hx => hbk x (List.mem_of_mem_drop (List.mem_of_mem_take hx))
                have hcl := unq_at HS3.out b (off + p + 10) (d.length - p - 10 - 1) (cap - p - 10) p d.length (innerOf (entB d R k)) hil (by omega) (by omega) (by omega) hTi (by have := HS3.out.bel.size; omega) hbi
                have HN := hide (show (∀ j, j < k + 1 → okEntry (entB d R j) = true) from fun j hj => by
                  by_cases e : j < k
                  · exact HO.out j e
                  · obtain rfl : j = k := by omega
                    exact hok)
                have hlr : ls.length ≤ 1048576 := by have := congrArg List.length HL.out; rw [List.length_map, List.length_range] at this; omega
                have q1 := HS3.out.b1.c1
                generalize hUU : unquoteOf (innerOf (entB d R k)) = U at hcl
                have HU := hide hUU
                clear hUU hbi hil hTi hin IG hb3 hTk hbk hel HS HO hok sk h11
                go_wp2
                go_region_law (first
                  | (refine step_call_unq (.tmp 66) #[22] (by rfl) (by rfl) (.slice (some ⟨b, off + p + 10, none⟩) (d.length - p - 10 - 1) (cap - p - 10)) (by rfl) ?_; refine (hcl _ ?_ ?_ ?_ ?_).mono ?_; (exact rfl); (exact rfl); (exact rfl); (exact rfl); rintro e w2 ⟨a2, c2, rfl, hkn, ha, p1, l2⟩; have HKN := hide hkn; have HA := hide ha; clear hkn ha; refine ⟨_, rfl, ?_⟩)
                  | (refine step_append_span _ (by rfl) (.tmp 63) (.tmp 69) (by rfl) W2.heap.size (.slice va ls.length vc) vs ls p d.length (.slice a2 U.length c2) U w2.heap.size 1 (by rfl) (by rfl) ?_ ?_ ?_ ?_ ?_ ?_ ?_ ?_ ?_; (refine (HA.out _ ?_ ?_ ?_ ?_).1 <;> rfl); (refine (HA.out _ ?_ ?_ ?_ ?_).2.1 <;> rfl); (refine (HA.out _ ?_ ?_ ?_ ?_).2.2.1 <;> rfl); (refine (HA.out _ ?_ ?_ ?_ ?_).2.2.2.1 <;> rfl); (refine (HA.out _ ?_ ?_ ?_ ?_).2.2.2.2.1 <;> rfl); (exact HKN.out); (exact hlr); (refine (HA.out _ ?_ ?_ ?_ ?_).2.2.2.2.2.1 <;> rfl); intro v3 w3 ho3 hg3; have hz := sp_next HA.out hg3; obtain ⟨a3, c3, rfl⟩ := ho3.slice; have p3 := hz.b1.c0; have f3 := hz.b1.fz 0; have p4 := hz.b1.c1; have f4 := hz.b1.fz 1))
                all_goals
                  have hd3 := sp_done hz HS3.out.lo HS3.out.stlt ho3
                  rw [show (ls ++ [U]).length = ls.length + 1 from by simp] at hd3
                  go_wp2
                  go_roundw
                  case rel =>
                    refine ⟨k + 1, _, _, _, by omega, by go_num, hd3, ?_, ?_, HN.out⟩
                    · show _ = _
                      rw [List.range_succ, List.map_append, List.map_append, HV.out, List.map_singleton, List.map_singleton, HE.out]
                    · show _ = _
                      rw [List.range_succ, List.map_append, ← HL.out, List.map_singleton, HU.out]
                  case measure => simp [intOf]; omega
              · have IB := inner_bad b (off + p) (cap - p) (entB d R k) wr (by omega) (by omega) hTk (by have := HS.out.bel.size; omega) hbk (by simpa using hok)
                rw [hel] at IB
                refine IB.mono ?_
                rintro e W3 ⟨v3, rfl, hb3⟩
                have HS3 := hide (HS.out.below hb3)
                have HX := hide (HBADK.out k hlt (by simpa using hok))
                have p0 := HS3.out.b0.c0
                have p1 := HS3.out.b0.c1
                have f0 := HS3.out.b0.fz 0
                have f1 := HS3.out.b0.fz 1
                clear IB hb3 hTk hbk hel HS HO hok sk HBADK HSOME HV HL hrise
                go_wp2
                exact bodyPost_ret (ret_spans w.heap.size _ _ _ rfl rfl ((HS3.out.b0.set0 _).set1 _)) rfl ⟨_, rfl, by rw [HX.out]; exact rfl, (HS3.out.bel.setCell (p := ⟨w.heap.size, 0, none⟩) (Nat.le_refl _) _).setCell (p := ⟨w.heap.size, 1, none⟩) (Nat.le_refl _) _⟩
          · obtain rfl : k = R.length := by omega
            have HX := hide (HSOME.out (by rw [hRh]; simp) HO.out)
            have p0 := S.b0.c0
            have p1 := S.b0.c1
            have f0 := S.b0.fz 0
            have f1 := S.b0.fz 1
            have q0 := S.b1.c0
            have q1 := S.b1.c1
            have HS := hide S
            have hki : ¬ (R.length : Int) < (rs.length : Int) + 1 := by omega
            clear HSOME HBADK S hrise
            go_wp2
            refine bodyPost_ret (ret_spans w.heap.size _ _ _ rfl rfl ((HS.out.b0.set0 _).set1 _)) rfl ⟨_, rfl, ?_, (HS.out.bel.setCell (p := ⟨w.heap.size, 0, none⟩) (Nat.le_refl _) _).setCell (p := ⟨w.heap.size, 1, none⟩) (Nat.le_refl _) _⟩
            rw [HX.out]
            refine ⟨_, vs, rfl, ?_, ?_⟩
            · rw [HV.out, List.map_map]
              rfl
            · have hlm : ((List.range R.length).map (spanAt d R)).map (·.2.2) = ls := by rw [HL.out, List.map_map]; rfl
              rw [hlm]
              have hlo := HS.out.lo
              exact ((HS.out.os.other (show w.heap.size < W2.heap.size by omega) _).other (show w.heap.size < W2.heap.size by omega) _).mono (by omega)
      · have hr0' : ((r0 : Int) != 0) = true := by simp; omega
        have HX := hide (HNONE.out ⟨hpos, by simp; exact hr0⟩)
        clear HNONE HBADK HSOME S0 hrise
        go_wp2
        exact bodyPost_ret (ret_spans w.heap.size _ _ _ rfl rfl ((HS0.out.b0.set0 _).set1 _)) rfl ⟨_, rfl, by rw [HX.out]; exact rfl, (HS0.out.bel.setCell (p := ⟨w.heap.size, 0, none⟩) (Nat.le_refl _) _).setCell (p := ⟨w.heap.size, 1, none⟩) (Nat.le_refl _) _⟩
  · have hpos' : ¬ (0 : Int) < (d.length : Int) := by omega
    have hR0 : R = [] := by
      cases R with
      | nil => rfl
      | cons r0 rs => have := hrise 0 (by simp); omega
    subst hR0
    have HX := hide (HSOME.out (by omega) (fun k hk => by simp at hk))
    clear HNONE HBADK HSOME S0 hrise
    go_wp2
    go_loopw [34] (fun i wr => i = .int .i64 0 ∧ wr = W2) (fun _ _ => 0)
    case atStart => exact ⟨rfl, rfl⟩
    case round =>
      obtain ⟨rfl, rfl⟩ := hrel
      go_wp2
      refine bodyPost_ret (ret_spans w.heap.size _ _ _ rfl rfl ((HS0.out.b0.set0 _).set1 _)) rfl ⟨_, rfl, ?_, (HS0.out.bel.setCell (p := ⟨w.heap.size, 0, none⟩) (Nat.le_refl _) _).setCell (p := ⟨w.heap.size, 1, none⟩) (Nat.le_refl _) _⟩
      rw [HX.out]
      exact ⟨_, [], rfl, rfl, OwnS.nil _ _⟩
end Go.Proofs.Ytokcdpamcbpaiab
