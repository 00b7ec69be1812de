import Derived.Test.YtpccongphchagaaGreatDoorPko
import Derived.Test.YtpccongphchagaaGreatDoorShelfI
import Derived.Maps.RangeWalk
namespace Go.Proofs.YtpccongphchagaaGreatDoor
open Go.RowKit
/-- A row of strings of the call's own. -/
def OwnS (w : World) (base : Nat) (v : Value) (xs : List ByteArray) : Prop := w.ownsRow base 9 1 v xs.length (xs.map Value.string)
theorem OwnS.at {w : World} {base : Nat} {a : Option Addr} {n cap : Nat} {xs : List ByteArray} (h : OwnS w base (.slice a n cap) xs) : StrAt w a xs := fun hp => by
  rcases h.2 with ⟨_, hn⟩ | ⟨g, cap', cur, h', _, hg, _, _, _, hx⟩
  · omega
  · simp only [Value.slice.injEq] at h'
    refine ⟨g, 0, h'.1, fun i hi => ?_⟩
    rw [cell_of_row w g _ _ _ (0, 0) hg]
    have h3 : (cur.toList.take (xs.length * 1))[i]? = some (.string xs[i]) := by rw [hx]; simp [hi]
    rw [List.getElem?_take_of_lt (by omega)] at h3
    simpa using h3
/-- What slices.Insert of one string, in a block of its own, is asked to do. -/
def InsertLaw : Prop := ∀ (base : Nat) (a : Option Addr) (cap i : Nat) (xs : List ByteArray) (t : ByteArray) (w : World), xs.length ≤ 1048576 → i ≤ xs.length → base ≤ w.heap.size → OwnS w base (.slice a xs.length cap) xs →
    Calls Tryz.prog 83 #[.slice a xs.length cap, .int .i64 (i : Int), .slice (some ⟨w.heap.size, 0, none⟩) 1 1] (w.alloc (.cells #[.string t] 9)) fun e w' => ∃ v, e = .returned v ∧ OwnS w' base v (xs.take i ++ t :: xs.drop i) ∧ Below base w w'
set_option maxRecDepth 20000 in
set_option maxHeartbeats 1000000 in
theorem insOrd_any (hI : InsertLaw) (base : Nat) (a : Option Addr) (cap : Nat) (xs : List ByteArray) (t : ByteArray) (w : World) (hn : xs.length ≤ 1048576) (hb : base ≤ w.heap.size) (ho : OwnS w base (.slice a xs.length cap) xs) (hso : xs.Pairwise fun x y => Op.bytesLess x.toList y.toList = true) :
    Calls Tryz.prog 63 #[.slice a xs.length cap, .string t] w fun e w' => ∃ v i, e = .returned v ∧ OwnS w' base v (xs.take i ++ t :: xs.drop i) ∧ (∀ k (h : k < xs.length), k < i → Op.bytesLess xs[k].toList t.toList = true) ∧ (∀ k (h : k < xs.length), i ≤ k → Op.bytesLess xs[k].toList t.toList = false) ∧ Below base w w' := by
  have HB := hide (bsearch_any a cap xs t w hn ho.at hso)
  clear hso
  go_enter Tryz.func63, Tryz.ntmps63
  go_wp2_with fail
  refine HB.out.mono ?_
  rintro e w1 ⟨⟨i, f, rfl, hi, hlo, hhi⟩, rfl⟩
  have HLO := hide hlo
  have HHI := hide hhi
  clear hlo hhi HB
  go_wp2_with fail
  refine (hI base a cap i xs t w1 hn hi hb ho).mono ?_
  rintro e w2 ⟨v, rfl, hv, hw⟩
  have HV := hide hv
  have HW := hide hw
  clear hv hw
  go_wp2
  go_ret
  exact ⟨v, i, rfl, HV.out, HLO.out, HHI.out, HW.out⟩
end Go.Proofs.YtpccongphchagaaGreatDoor
namespace Go.Proofs.YtpccongphchagaaGreatDoor
open Go.RowKit
theorem setCells_row {b : Nat} {t : TypeId} : ∀ (vs : List Value) (o : Nat) (w : World) (cur : Array Value), w.heap[b]? = some (.cells cur t (0, 0)) → ∃ cur', (w.setCells b o vs).heap[b]? = some (.cells cur' t (0, 0)) ∧ cur'.size = cur.size ∧ ∀ j, j < cur.size → cur'[j]? = if o ≤ j ∧ j < o + vs.length then vs[j - o]? else cur[j]?
  | [], o, w, cur, h => ⟨cur, h, rfl, fun j hj => by rw [if_neg (by simp)]⟩
  | v :: r, o, w, cur, h => by
    obtain ⟨c2, h2, hs, hc⟩ := setCells_row r (o + 1) (w.setCell ⟨b, o, none⟩ v) (cur.setIfInBounds o v) (heap_setCell_same w b o _ _ v h)
    refine ⟨c2, h2, by rw [hs]; simp, fun j hj => ?_⟩
    rw [hc j (by simpa using hj)]
    by_cases e : o = j
    · subst e
      rw [if_neg (by omega), if_pos (by simp)]
      simp [hj]
    · rw [Array.getElem?_setIfInBounds_ne e]
      by_cases e2 : o + 1 ≤ j ∧ j < o + 1 + r.length
      · rw [if_pos e2, if_pos (by simp; omega), show j - o = (j - (o + 1)) + 1 by omega, List.getElem?_cons_succ]
      · rw [if_neg e2, if_neg (by simp; omega)]
/-- A row told cell by cell is a row of the call's own. -/
theorem ownS_of {w : World} {base g cap : Nat} {cur : Array Value} {ys : List ByteArray} (hb : base ≤ g) (hg : w.heap[g]? = some (.cells cur 9 (0, 0))) (hn : ys.length ≤ cap) (hm : cap ≤ maxLen) (hs : cur.size = cap) (hc : ∀ j (h : j < ys.length), cur[j]? = some (.string ys[j])) : OwnS w base (.slice (some ⟨g, 0, none⟩) ys.length cap) ys := by
  refine ⟨by simp, .inr ⟨g, cap, cur, rfl, hb, hg, hn, hm, by omega, ?_⟩⟩
  apply List.ext_getElem?
  intro j
  by_cases hj : j < ys.length
  · rw [List.getElem?_take_of_lt (by omega)]
    simp [hj, hc j hj]
  · rw [List.getElem?_eq_none (by simp; omega), List.getElem?_eq_none (by simp; omega)]
theorem ins_at (xs : List ByteArray) (t : ByteArray) (i : Nat) (hi : i ≤ xs.length) (j : Nat) : (xs.take i ++ t :: xs.drop i)[j]? = if j < i then xs[j]? else if j = i then some t else xs[j - 1]? := by
  by_cases h1 : j < i
  · rw [if_pos h1, List.getElem?_append_left (by simp; omega), List.getElem?_take_of_lt h1]
  · rw [if_neg h1, List.getElem?_append_right (by simp; omega)]
    have hl : (xs.take i).length = i := by simp; omega
    rw [hl]
    by_cases h2 : j = i
    · rw [if_pos h2, h2]; simp
    · rw [if_neg h2, show j - i = (j - i - 1) + 1 by omega, List.getElem?_cons_succ, List.getElem?_drop, show i + (j - i - 1) = j - 1 by omega]
end Go.Proofs.YtpccongphchagaaGreatDoor
namespace Go.Proofs.YtpccongphchagaaGreatDoor
open Go.RowKit
theorem one_str (xs : List ByteArray) : ∀ v ∈ xs.map Value.string, v.oneCell' = true := by
  intro v hv
  obtain ⟨x, _, rfl⟩ := List.mem_map.1 hv
  rfl
/-- The row that slices.Insert at the end makes anew. -/
theorem grown_row (W : World) (base cap : Nat) (xs : List ByteArray) (t : ByteArray) (hn : xs.length ≤ 1048576) (hb : base ≤ W.heap.size) :
    OwnS (W.drew.alloc (.cells ((xs.map Value.string ++ [Value.string t]).toArray ++ Builtin.zeroCells (Value.string ⟨#[]⟩).cells (grownCap W (xs.length + 1) cap 9 - (xs.length + 1))) 9)) base (.slice (some ⟨W.heap.size, 0, none⟩) (xs.length + 1) (grownCap W (xs.length + 1) cap 9)) (xs.take xs.length ++ t :: xs.drop xs.length) := by
  have hge := grownCap_ge W (xs.length + 1) cap 9
  have hcm : grownCap W (xs.length + 1) cap 9 ≤ maxLen := grownCap_le_maxLen W _ _ 9 (by unfold maxLen; omega)
  have e : xs.take xs.length ++ t :: xs.drop xs.length = xs ++ [t] := by simp
  rw [e]
  refine ⟨by simp, .inr ⟨W.heap.size, _, _, by simp, hb, heap_alloc_new W.drew _, by simpa using hge, hcm, ?_, ?_⟩⟩
  · simp [size_zeroCells, Value.cells]; omega
  · rw [Array.toList_append, List.map_append]
    exact List.take_left' (by simp)
theorem below_cells {B b : Nat} {a : World} (hb : B ≤ b) : ∀ (vs : List Value) (o : Nat) (w : World), Below B a w → Below B a (w.setCells b o vs)
  | [], _, _, h => h
  | v :: r, o, _, h => below_cells hb r (o + 1) _ (h.setCell (p := ⟨b, o, none⟩) hb v)
theorem ins_own {w : World} {base g cap i : Nat} {cur : Array Value} {xs : List ByteArray} {t : ByteArray} (hi : i ≤ xs.length) (hb : base ≤ g) (hg : w.heap[g]? = some (.cells cur 9 (0, 0))) (hn : xs.length + 1 ≤ cap) (hm : cap ≤ maxLen) (hs : cur.size = cap)
    (hc : ∀ j, j < xs.length + 1 → cur[j]? = if j < i then xs[j]?.map Value.string else if j = i then some (.string t) else xs[j - 1]?.map Value.string) : OwnS w base (.slice (some ⟨g, 0, none⟩) (xs.length + 1) cap) (xs.take i ++ t :: xs.drop i) := by
  have hl : (xs.take i ++ t :: xs.drop i).length = xs.length + 1 := by simp; omega
  have h := ownS_of (ys := xs.take i ++ t :: xs.drop i) hb hg (by omega) hm hs (fun j hj => by
    have h1 := hc j (by omega)
    have h2 := ins_at xs t i hi j
    rw [List.getElem?_eq_getElem hj] at h2
    rw [h1]
    have h3 := congrArg (Option.map Value.string) h2
    rw [Option.map_some] at h3
    rw [h3]
    split
    · rfl
    · split <;> rfl)
  rw [hl] at h
  exact h
set_option maxRecDepth 20000 in
set_option maxHeartbeats 1000000 in
theorem insert_holds : InsertLaw := by
  intro base a cap i xs t w hn hi hb ho
  have hone : ∀ v ∈ [Value.string t], v.oneCell' = true := by simp [Value.oneCell']
  have hx1 := one_str xs
  have hnew : (w.alloc (.cells #[.string t] 9)).heap[w.heap.size]? = some (.cells #[.string t] 9 (0, 0)) := heap_alloc_new w _
  have hvs : ∀ j v, [Value.string t][j]? = some v → (w.alloc (.cells #[.string t] 9)).cell? ⟨w.heap.size, 0 + j, none⟩ = some v := by
    intro j v h
    rw [cell_of_row _ w.heap.size (0 + j) _ _ (0, 0) hnew]
    rcases j with _ | j
    · simpa using h
    · simp at h
  have hbel : Below base w (w.alloc (.cells #[.string t] 9)) := (Below.refl base w).alloc hb _
  have hbs : base ≤ (w.alloc (.cells #[.string t] 9)).heap.size := by simp; omega
  rcases ho.2 with ⟨hv, h0⟩ | ⟨g, cap', cur, hv, hbg, hg, hnc, hcm, hcs, hcur⟩
  · obtain rfl : xs = [] := List.length_eq_zero_iff.1 h0
    simp only [Value.slice.injEq] at hv
    obtain ⟨rfl, -, rfl⟩ := hv
    obtain rfl : i = 0 := by simpa using hi
    refine (Any2.slices_Insert_string_end_grow Tryz.laysNm222 none 0 0 w.heap.size 0 1 1 [] [.string t] _ (by omega) (by omega) (by omega) (by omega) rfl rfl (fun _ => rfl) (fun _ h => by cases h) hvs hone).mono ?_
    rintro e w' ⟨rfl, rfl⟩
    exact ⟨_, rfl, grown_row _ base 0 [] t hn hbs, (below_drewN hbel 1).alloc hbs _⟩
  · simp only [Value.slice.injEq] at hv
    obtain ⟨rfl, -, rfl⟩ := hv
    have hgl : g < w.heap.size := by
      rcases Nat.lt_or_ge g w.heap.size with h' | h'
      · exact h'
      · rw [Array.getElem?_eq_none h'] at hg; cases hg
    have hg1 : (w.alloc (.cells #[.string t] 9)).heap[g]? = some (.cells cur 9 (0, 0)) := (heap_alloc_old w _ hgl).trans hg
    have hcx : ∀ j v, (xs.map Value.string)[j]? = some v → (w.alloc (.cells #[.string t] 9)).cell? ⟨g, 0 + j, none⟩ = some v := by
      intro j v h
      rw [cell_of_row _ g (0 + j) _ _ (0, 0) hg1, Nat.zero_add]
      rw [← hcur] at h
      have hj : j < xs.length := by
        rcases Nat.lt_or_ge j xs.length with h' | h'
        · exact h'
        · rw [List.getElem?_eq_none (by simp; omega)] at h; cases h
      rw [List.getElem?_take_of_lt (by omega)] at h
      simpa using h
    have hcl : ∀ j, j < xs.length → cur[j]? = xs[j]?.map Value.string := by
      intro j hj
      have h := congrArg (fun l => l[j]?) hcur
      simp only [List.getElem?_map] at h
      rw [List.getElem?_take_of_lt (by omega)] at h
      simpa using h
    by_cases hroom : xs.length + 1 ≤ cap
    · have hsp : ∀ j, j < xs.length + 1 → ((w.alloc (.cells #[.string t] 9)).cell? ⟨g, 0 + j, none⟩).isSome = true := by
        intro j hj
        rw [cell_of_row _ g (0 + j) _ _ (0, 0) hg1]
        simp; omega
      have hfz : ∀ j, (w.alloc (.cells #[.string t] 9)).frozen? ⟨g, j, none⟩ = false := fun j => by simp [World.frozen?, hg1]
      have hfn : ∀ j, (w.alloc (.cells #[.string t] 9)).frozen? ⟨w.heap.size, j, none⟩ = false := fun j => by simp only [World.frozen?, hnew]; simp
      have hsg : (w.alloc (.cells #[.string t] 9)).shape? g = some (9, cur.size) := by simp [World.shape?, hg1]
      have hsn : (w.alloc (.cells #[.string t] 9)).shape? w.heap.size = some (9, 1) := by simp only [World.shape?, hnew]; simp
      have hmx : cap ≤ 9223372036854775807 := by unfold maxLen at hcm; omega
      by_cases hie : i = xs.length
      · subst hie
        refine (Any2.slices_Insert_string_end_room Tryz.laysNm222 g 0 xs.length cap w.heap.size 0 1 1 [.string t] _ (by omega) hroom hmx rfl (fun j hj => by rw [Nat.add_assoc]; exact hsp _ (by omega)) (fun j hj => hfz _) hvs hone).mono ?_
        rintro e w' ⟨rfl, rfl⟩
        obtain ⟨c2, h2, hs2, hc2⟩ := setCells_row [.string t] (0 + xs.length) _ cur hg1
        refine ⟨_, rfl, ins_own (Nat.le_refl _) hbg h2 hroom hcm (by omega) (fun j hj => ?_), below_cells hbg _ _ _ hbel⟩
        rw [hc2 j (by omega)]
        by_cases h4 : j < xs.length
        · rw [if_neg (by omega), if_pos h4, hcl j h4]
        · obtain rfl : j = xs.length := by omega
          simp
      · refine (Any2.slices_Insert_string_shift Tryz.laysNm222 g 0 xs.length cap i w.heap.size 0 1 1 (xs.map .string) [.string t] _ (by omega) (by omega) hroom hmx (by omega) (by simp) rfl hcx hsp (fun j _ => hfz _) hvs hx1 hone 9 9 1 cur.size hsn hsg (by omega) (hfn _) (hfn _)).mono ?_
        rintro e w' ⟨rfl, rfl⟩
        obtain ⟨c2, h2, hs2, hc2⟩ := setCells_row ((xs.map Value.string).drop i) (0 + (i + 1)) (w.alloc (.cells #[.string t] 9)).drew cur hg1
        obtain ⟨c3, h3, hs3, hc3⟩ := setCells_row [.string t] (0 + i) _ c2 h2
        refine ⟨_, rfl, ins_own hi hbg h3 hroom hcm (by omega) (fun j hj => ?_), below_cells hbg _ _ _ (below_cells hbg _ _ _ (below_drewN hbel 1))⟩
        rw [hc3 j (by omega), hc2 j (by omega)]
        by_cases h4 : j < i
        · rw [if_neg (by omega), if_neg (by omega), if_pos h4, hcl j (by omega)]
        · by_cases h5 : j = i
          · subst h5; simp
          · rw [if_neg (by simp; omega), if_pos (by simp; omega), if_neg h4, if_neg h5, List.getElem?_drop, List.getElem?_map, show i + (j - (0 + (i + 1))) = j - 1 by omega]
    · by_cases hie : i = xs.length
      · subst hie
        refine (Any2.slices_Insert_string_end_grow Tryz.laysNm222 (some ⟨g, 0, none⟩) xs.length cap w.heap.size 0 1 1 (xs.map .string) [.string t] _ (by omega) hnc (by omega) (by omega) (by simp) rfl (fun h => by cases h) (fun a h j v hj => by cases h; rw [Addr.add_lit]; exact hcx j v hj) hvs hone).mono ?_
        rintro e w' ⟨rfl, rfl⟩
        exact ⟨_, rfl, grown_row _ base cap xs t hn hbs, (below_drewN hbel 1).alloc hbs _⟩
      · refine (Any2.slices_Insert_string_grow Tryz.laysNm222 g 0 xs.length cap i w.heap.size 0 1 1 (xs.map .string) [.string t] _ (by omega) (by omega) hnc (by omega) (by omega) (by simp) rfl hcx hvs hx1 hone).mono ?_
        rintro e w' ⟨rfl, rfl⟩
        have hge := grownCap_ge (w.alloc (.cells #[.string t] 9)) (xs.length + 1) cap 9
        have hgm : grownCap (w.alloc (.cells #[.string t] 9)) (xs.length + 1) cap 9 ≤ maxLen := grownCap_le_maxLen _ _ _ 9 (by unfold maxLen; omega)
        generalize hW : w.alloc (.cells #[.string t] 9) = W at *
        obtain ⟨c2, h2, hs2, hc2⟩ := setCells_row [.string t] i (W.alloc (.cells (((xs.map Value.string).take i).toArray ++ Builtin.zeroCells (Value.string ⟨#[]⟩).cells (xs.length + 1 - i) ++ Builtin.zeroCells (Value.string ⟨#[]⟩).cells (grownCap W (xs.length + 1) cap 9 - (xs.length + 1))) 9)).drew _ (heap_alloc_new W _)
        have key := fun (V : World) (h : V.heap[W.heap.size]? = some (.cells c2 9 (0, 0))) => setCells_row ((xs.map Value.string).drop i) (i + 1) V.drew c2 h
        obtain ⟨c3, h3, hs3, hc3⟩ := key _ h2
        refine ⟨_, rfl, ins_own hi hbs h3 hge hgm ?_ (fun j hj => ?_), below_cells hbs _ _ _ (below_drewN (below_cells hbs _ _ _ (below_drewN (hbel.alloc hbs _) 1)) 1)⟩
        · show _ = grownCap W (xs.length + 1) cap 9
          rw [hs3, hs2]; simp [size_zeroCells, Value.cells]; omega
        · have hC : c2.size = grownCap W (xs.length + 1) cap 9 := by rw [hs2]; simp [size_zeroCells, Value.cells]; omega
          rw [hc3 j (by omega), hc2 j (by omega)]
          by_cases h4 : j < i
          · rw [if_neg (by omega), if_neg (by omega), if_pos h4, Array.append_assoc, Array.getElem?_append_left (by simp; omega)]
            simp [h4]
          · by_cases h5 : j = i
            · subst h5; rw [if_neg (by omega)]; simp
            · rw [if_pos (by simp; omega), if_neg h4, if_neg h5, List.getElem?_drop, List.getElem?_map, show i + (j - (i + 1)) = j - 1 by omega]
end Go.Proofs.YtpccongphchagaaGreatDoor
namespace Go.Proofs.YtpccongphchagaaGreatDoor
open Go.RowKit Go.Maps
theorem keyOf_str_inv {P : Program} {k : TypeId} (hk : P.underlying k = some .string) {key : Value} {kl : Lit} (h : keyOf P k key = some kl) : ∃ s : ByteArray, key = .string s ∧ kl = .string s.data.toList ∧ s.size ≤ maxLen := by
  cases key <;> simp [keyOf, hk, mapKey] at h
  exact ⟨_, rfl, h.2.symm, h.1⟩
/-- The range's step, string keys, integer elements. -/
theorem wpList_next_ranges_si {H : Type} {P : Program} (w : World) {ops : Array Oper} {rest : List Oper} {o : Oper} {a : Act} {Q : Exit → Act → World → Prop}
    (hg : o.guard = none) (it : Operand) (hop : o.op = Op.next it false) (k e : TypeId) (qe : IntKind) (K : Keyed P k) (hk : P.underlying k = some .string) (he : P.underlying e = some (.int qe))
    (b r n : Nat) (D : DataW H) (left : Lit → Bool) (cnt : Nat) (hit : a.eval it = .pointer (some ⟨r, 0, none⟩)) (h : w.ranges P k (plainElem P e) b r n D left cnt)
    (hDone : cnt = 0 → (∀ kl, left kl = false) → wpList P ops Q rest (a.put o.dst (.tuple #[.bool false])) w)
    (hMore : ∀ (x : ByteArray) (c : Int) (w' : World) (cnt' : Nat), x.size ≤ maxLen → left (.string x.data.toList) = true → w'.ranges P k (plainElem P e) b r n D (fun z => left z && !z.sameKey (.string x.data.toList)) cnt' → cnt' < cnt →
      w.grownBy w' (some r) → w'.heap.size = w.heap.size → (Instr.entry (.pointer (some ⟨r, 0, none⟩))).run P w' = .ok (.tuple #[.string x, .int qe c]) w' → wpList P ops Q rest (a.put o.dst (.tuple #[.bool true, .string x, .int qe c])) w') :
    wpList P ops Q (o :: rest) a w :=
  wpList_next_ranges w hg it hop k K (plainElem P e) Value.string (Value.int qe) (fun key kl hkey => by obtain ⟨x, rfl, _⟩ := keyOf_str_inv hk hkey; exact ⟨x, rfl⟩) (fun v y hv => by obtain ⟨c, rfl, _⟩ := plainElem_int_inv he hv; exact ⟨c, rfl⟩)
    b r n D left cnt hit h hDone (fun x c kl y w' cnt' hkey hlk hv hat hrg hlt hgr hsz hen => by
      obtain ⟨x', ex, rfl, hwx⟩ := keyOf_str_inv hk hkey
      cases ex
      exact hMore x c w' cnt' hwx hlk hrg hlt hgr hsz hen)
/-- Names in rising order. -/
def SortedB (xs : List ByteArray) : Prop := xs.Pairwise fun x y => Op.bytesLess x.toList y.toList = true
theorem sorted_ext : ∀ {xs ys : List ByteArray}, SortedB xs → SortedB ys → (∀ s, s ∈ xs ↔ s ∈ ys) → xs = ys
  | [], [], _, _, _ => rfl
  | [], y :: _, _, _, h => absurd ((h y).2 (.head _)) (by simp)
  | x :: _, [], _, _, h => absurd ((h x).1 (.head _)) (by simp)
  | x :: xs, y :: ys, h1, h2, h => by
    obtain ⟨a1, a2⟩ := List.pairwise_cons.1 h1
    obtain ⟨b1, b2⟩ := List.pairwise_cons.1 h2
    have e : x = y := by
      rcases List.mem_cons.1 ((h x).1 (.head _)) with e | hx
      · exact e
      · rcases List.mem_cons.1 ((h y).2 (.head _)) with e | hy
        · exact e.symm
        · exact absurd (less_trans _ _ _ (b1 _ hx) (a1 _ hy)) (by rw [less_irrefl]; decide)
    subst e
    rw [sorted_ext a2 b2 fun s => ⟨fun hs => ?_, fun hs => ?_⟩]
    · rcases List.mem_cons.1 ((h s).1 (.tail _ hs)) with e | h'
      · exact absurd (a1 _ hs) (by rw [e, less_irrefl]; decide)
      · exact h'
    · rcases List.mem_cons.1 ((h s).2 (.tail _ hs)) with e | h'
      · exact absurd (b1 _ hs) (by rw [e, less_irrefl]; decide)
      · exact h'
theorem sorted_put {xs : List ByteArray} {t : ByteArray} {i : Nat} (h : SortedB xs) (ht : t ∉ xs) (hlo : ∀ k (h : k < xs.length), k < i → Op.bytesLess xs[k].toList t.toList = true) (hhi : ∀ k (h : k < xs.length), i ≤ k → Op.bytesLess xs[k].toList t.toList = false) : SortedB (xs.take i ++ t :: xs.drop i) := by
  have hl : ∀ x ∈ xs.take i, Op.bytesLess x.toList t.toList = true := fun x hx => by
    obtain ⟨k, hk, rfl⟩ := List.getElem_of_mem hx
    rw [List.length_take] at hk
    rw [List.getElem_take]
    exact hlo k (by omega) (by omega)
  have hr : ∀ x ∈ xs.drop i, Op.bytesLess t.toList x.toList = true := fun x hx => by
    obtain ⟨k, hk, rfl⟩ := List.getElem_of_mem hx
    rw [List.length_drop] at hk
    rw [List.getElem_drop]
    have hm : xs[i + k]'(by omega) ∈ xs := List.getElem_mem _
    exact less_tri _ _ (hhi (i + k) (by omega) (by omega)) (fun e => ht (by rw [← bytes_eq e]; exact hm))
  refine List.pairwise_append.2 ⟨h.sublist (List.take_sublist _ _), List.pairwise_cons.2 ⟨hr, h.sublist (List.drop_sublist _ _)⟩, fun x hx y hy => ?_⟩
  rcases List.mem_cons.1 hy with rfl | hy
  · exact hl x hx
  · exact less_trans _ _ _ (hl x hx) (hr y hy)
theorem mem_put {xs : List ByteArray} {t s : ByteArray} {i : Nat} : s ∈ xs.take i ++ t :: xs.drop i ↔ s = t ∨ s ∈ xs := by
  rw [List.mem_append, List.mem_cons]
  constructor
  · rintro (h | h | h)
    · exact .inr (List.mem_of_mem_take h)
    · exact .inl h
    · exact .inr (List.mem_of_mem_drop h)
  · rintro (h | h)
    · exact .inr (.inl h)
    · rw [← List.take_append_drop i xs, List.mem_append] at h
      rcases h with h | h
      · exact .inl h
      · exact .inr (.inr h)
/-- The names that have come, of a map whose keys D1 has and of which left are still to come. -/
structure Come (D1 : DU) (left : Lit → Bool) (xs : List ByteArray) : Prop where
  so : SortedB xs
  sub : ∀ s, left (kS s) = true → Maps.has D1 (kS s) = true
  mem : ∀ s, s ∈ xs ↔ Maps.has D1 (kS s) = true ∧ left (kS s) = false
theorem Come.start (D1 : DU) : Come D1 (Maps.has D1) [] := ⟨.nil, fun _ h => h, fun s => ⟨(fun h => by cases h), fun h => by rw [h.1] at h; exact absurd h.2 (by decide)⟩⟩
theorem Come.more {D1 : DU} {left : Lit → Bool} {xs : List ByteArray} {t : ByteArray} {i : Nat} (h : Come D1 left xs) (hx : left (kS t) = true) (hlo : ∀ k (h : k < xs.length), k < i → Op.bytesLess xs[k].toList t.toList = true) (hhi : ∀ k (h : k < xs.length), i ≤ k → Op.bytesLess xs[k].toList t.toList = false) : Come D1 (fun z => left z && !z.sameKey (kS t)) (xs.take i ++ t :: xs.drop i) := by
  have ht : t ∉ xs := fun hm => by rw [((h.mem t).1 hm).2] at hx; cases hx
  refine ⟨sorted_put h.so ht hlo hhi, fun s hs => h.sub s (by simp only [Bool.and_eq_true] at hs; exact hs.1), fun s => ?_⟩
  rw [mem_put, h.mem]
  have hk : (kS s).sameKey (kS t) = true ↔ s = t := ⟨fun e => kS_inj (WideAt.sameKey_eq e), fun e => by rw [e]; exact WideAt.sameKey_self (isKeyS t)⟩
  constructor
  · rintro (rfl | ⟨h1, h2⟩)
    · exact ⟨h.sub _ hx, by rw [hk.2 rfl]; simp⟩
    · exact ⟨h1, by rw [h2]; rfl⟩
  · rintro ⟨h1, h2⟩
    by_cases e : s = t
    · exact .inl e
    · right
      refine ⟨h1, ?_⟩
      cases hl : left (kS s) with
      | false => rfl
      | true =>
        rw [hl] at h2
        simp only [Bool.true_and, Bool.not_eq_false'] at h2
        exact absurd (hk.1 h2) e
theorem Come.done {D1 D2 : DU} {left : Lit → Bool} {xs : List ByteArray} {es : List EN} (h : Come D1 left xs) (h0 : ∀ kl, left kl = false) (hr : Reads D1 D2 es) (hs : Sorted es) : xs = es.map Prod.fst := by
  refine sorted_ext h.so (List.pairwise_map.2 hs) fun s => ?_
  rw [h.mem, List.mem_map]
  constructor
  · rintro ⟨h1, _⟩
    obtain ⟨n, hn⟩ := hr.r2 s h1
    exact ⟨(s, n), hn, rfl⟩
  · rintro ⟨⟨s', n⟩, hn, rfl⟩
    exact ⟨(hr.r1 _ _ hn).1, h0 _⟩
end Go.Proofs.YtpccongphchagaaGreatDoor
namespace Go.Proofs.YtpccongphchagaaGreatDoor
open Go.RowKit Go.Maps
theorem ranges_of_eq {H : Type} {P : Program} {w w' : World} {k : TypeId} {R : Value → Option (DataW H × List MemPlace)} {b r n : Nat} {D : DataW H} {left : Lit → Bool} {cnt : Nat} (h : w.ranges P k R b r n D left cnt) (e1 : w'.heap[b]? = w.heap[b]?) (e2 : w'.heap[r]? = w.heap[r]?) : w'.ranges P k R b r n D left cnt := by
  obtain ⟨es, clock, since, seen, c0, hb, F, hs, hD, hr, rest⟩ := h
  exact ⟨es, clock, since, seen, c0, e1.trans hb, F, hs, hD, e2.trans hr, rest⟩
theorem OwnS.grown {w w' : World} {base r : Nat} {v : Value} {xs : List ByteArray} (h : OwnS w base v xs) (hg : w.grownBy w' (some r)) (hr : r < base) : OwnS w' base v xs := by
  refine ⟨h.1, ?_⟩
  rcases h.2 with h0 | ⟨g, cap, cur, hv, hb, hgg, rest⟩
  · exact .inl h0
  · exact .inr ⟨g, cap, cur, hv, hb, (hg.block g (lt_of_block hgg) (fun e => by simp only [Option.some.injEq] at e; omega)).trans hgg, rest⟩
theorem OwnS.slice {w : World} {base : Nat} {v : Value} {xs : List ByteArray} (h : OwnS w base v xs) : ∃ a cap, v = .slice a xs.length cap := by
  rcases h.2 with ⟨h0, hn⟩ | ⟨g, cap, cur, hv, _⟩
  · exact ⟨none, 0, by rw [hn]; exact h0⟩
  · exact ⟨_, cap, hv⟩
theorem StrAt.below {w w' : World} {a : Option Addr} {xs : List ByteArray} (h : StrAt w a xs) (hb : Below w.heap.size w w') : StrAt w' a xs := fun hp => by
  obtain ⟨b, off, rfl, hc⟩ := h hp
  exact ⟨b, off, rfl, fun i hi => by rw [hb.cell (p := ⟨b, off + i, none⟩) (lt_of_cell0 (hc i hi))]; exact hc i hi⟩
theorem wpList_make_ents0 {ops : Array Oper} {rest : List Oper} {o : Oper} {act : Act} {Q : Exit → Act → World → Prop} (w : World) (hgd : o.guard = none) (s x : Operand)
    (ho : o.op = Op.makeSlice 24 s x) (n : Nat) (hs : act.eval s = .int .i64 0) (hx : act.eval x = .int .i64 (n : Int)) (hlen : n ≤ 1048576)
    (h : ∀ w', OwnE w' w.heap.size (.slice (some ⟨w.heap.size, 0, none⟩) 0 n) [] → Below w.heap.size w w' → wpList Tryz.prog ops Q rest (act.put o.dst (.slice (some ⟨w.heap.size, 0, none⟩) 0 n)) w') : wpList Tryz.prog ops Q (o :: rest) act w := by
  obtain ⟨i0, hi, hz0, hz1, hz2⟩ := info_parts Tryz.infoEntry
  refine wpList_make_own w hgd s x 24 ho w.heap.size 37 i0 (.agg #[.string ByteArray.empty, .int .i64 0]) 2 Tryz.underlying24 hi hz0 hz1 .i64 .i64 _ n hs hx rfl (by rw [hz2]; omega) (by unfold maxLen; omega) (Nat.le_refl _) ?_
  intro w1 hown hgrow
  exact h w1 hown ((Below.refl _ _).grown hgrow (Nat.le_refl _) (fun k h => by cases h))
set_option maxRecDepth 20000 in
set_option maxHeartbeats 1000000 in
theorem entries_holds : EntriesLaw := by
  intro b1 b2 n es W hn hl hap hso hsz hL
  obtain ⟨D1, D2, hl1, hr⟩ := hL
  have hA := (Below.refl W.heap.size W).alloc (Nat.le_refl _) (.cells #[.map (some b1), .map (some b2)] 77)
  have L0 := Laid.new W #[.map (some b1), .map (some b2)] 77
  have hLA := hl1.below hA hl1.o1.lt hl1.o2.lt
  have hlt1 := hl1.o1.lt
  have hz : (W.alloc (.cells #[.map (some b1), .map (some b2)] 77)).heap.size = W.heap.size + 1 := World.size_alloc ..
  have HLA := hide hLA.o1
  have HA := hide hA
  have HL0 := hide L0
  have HR := hide hr
  have HSO := hide hso
  have HSZ := hide hsz
  clear hA L0 hLA hl1 hr hso hsz hap
  unfold lstV
  go_enter Tryz.func33, Tryz.ntmps33
  go_wp2_with (first | (at_range; refine wpList_range_own _ rfl _ 74 rfl 9 3 lawStr Tryz.underlying74 (plainElem Tryz.prog 3) b1 n D1 rfl HLA.out ?_; intro w0 hrg0 hg0 hs0) | go_in)
  go_frame
  rw [hz] at hrg0 hs0 ⊢
  have HB0 := hide (HA.out.grown hg0 (by simp) (fun k h => by cases h))
  have HK0 := hide (show Laid w0 W.heap.size #[.map (some b1), .map (some b2)] 77 from (hg0.block W.heap.size (by rw [hz]; omega) (by simp)).trans HL0.out)
  have HRG0 := hide hrg0
  clear hrg0 hg0 HA HL0 HLA
  go_loopw [3, 4] (fun nv _ wr => ∃ (left : Lit → Bool) (cnt : Nat) (xs : List ByteArray) (a : Option Addr) (cap : Nat), wr.ranges Tryz.prog 9 (plainElem Tryz.prog 3) b1 (W.heap.size + 1) n D1 left cnt ∧ Come D1 left xs ∧ xs.length + cnt ≤ es.length ∧ nv = .slice a xs.length cap ∧ OwnS wr (W.heap.size + 2) (.slice a xs.length cap) xs ∧ Laid wr W.heap.size #[.map (some b1), .map (some b2)] 77 ∧ Below W.heap.size W wr ∧ W.heap.size + 2 ≤ wr.heap.size) (fun _ _ wr => wr.rangeLeft b1 (W.heap.size + 1))
  case atStart => exact ⟨_, _, [], none, 0, HRG0.out, Come.start D1, by rw [HR.out.sz]; simp, rfl, ⟨rfl, .inl ⟨rfl, rfl⟩⟩, HK0.out, HB0.out, by omega⟩
  case round =>
    obtain ⟨left, cnt, xs, a, cap, hrg, hcome, hcnt, rfl, hown, hlaid, hbel, hbs⟩ := hrel
    clear HRG0 HK0 HB0 hs0
    have HRG := hide hrg
    have HC := hide hcome
    have HO := hide hown
    have HLD := hide hlaid
    have HBL := hide hbel
    clear hrg hcome hown hlaid hbel
    go_wp2_with (first | (at_next; refine wpList_next_ranges_si _ rfl _ rfl 9 3 .i64 lawStr Tryz.underlying9 Tryz.underlying3 b1 (W.heap.size + 1) n _ _ _ rfl HRG.out ?_ ?_; intro hc0 hl0; rotate_left; intro x c w1 cnt1 hxs hlx hrg1 hlt hg1 hs1 hen; rotate_right) | (at_make; refine wpList_make_ents0 _ rfl _ _ rfl xs.length rfl rfl (by omega) ?_; intro w3 ho3 hb3) | fail)
    rotate_left
    ·
      have hown1 := HO.out.grown hg1 (by omega)
      have HCM := hide (fun i h1 h2 => HC.out.more (t := x) (i := i) hlx h1 h2)
      have HRG1 := hide hrg1
      have HBL1 := hide (HBL.out.grown hg1 (by omega) (fun k h => by simp only [Option.some.injEq] at h; omega))
      have HLD1 := hide (show Laid w1 W.heap.size #[.map (some b1), .map (some b2)] 77 from (hg1.block W.heap.size (by omega) (by simp)).trans HLD.out)
      refine (insOrd_any insert_holds (W.heap.size + 2) a cap xs x w1 (by omega) (by omega) hown1 HC.out.so).mono ?_
      rintro e w2 ⟨v, i, rfl, hv, hlo, hhi, hb2⟩
      obtain ⟨a2, cap2, rfl⟩ := hv.slice
      have hlen2 : (xs.take i ++ x :: xs.drop i).length = xs.length + 1 := by rw [List.length_append, List.length_cons, List.length_take, List.length_drop]; omega
      have HRG2 := hide (ranges_of_eq HRG1.out (hb2.block b1 (by omega)) (hb2.block (W.heap.size + 1) (by omega)))
      have HLD2 := hide (show Laid w2 W.heap.size #[.map (some b1), .map (some b2)] 77 from (hb2.block W.heap.size (by omega)).trans HLD1.out)
      have HBL2 := hide (HBL1.out.trans (hb2.mono (by omega)))
      have HC2 := hide (HCM.out i hlo hhi)
      have HV := hide hv
      have hbs2 := hb2.size
      clear hv hlo hhi hb2 hown1 hrg1 hg1 hen HCM HO HC HBL1 HLD1 HLD HBL HRG1
      generalize xs.take i ++ x :: xs.drop i = ys at HV HC2 hlen2
      go_wp2
      go_roundw
      case rel => exact ⟨_, cnt1, ys, a2, cap2, HRG2.out, HC2.out, by omega, by rw [hlen2], HV.out, HLD2.out, HBL2.out, by omega⟩
      case measure => rw [HRG2.out.left_eq, HRG.out.left_eq]; omega
    have hxe := HC.out.done hl0 HR.out HSO.out
    have hxl : xs.length = es.length := by rw [hxe, List.length_map]
    have HST := hide HO.out.at
    have HMO := hide HRG.out.owns
    have HALL := hide (fun wv (hb : Below wr.heap.size wr wv) => And.intro (HST.out.below hb) (And.intro (ownsMap_below HMO.out hb HMO.out.lt) (And.intro (HLD.out.below hb (lt_of_block HLD.out)) (HBL.out.trans (hb.mono HBL.out.size)))))
    have HXE := hide hxe
    clear hxe hl0 HO HRG HC HSO hc0 hcnt HST HMO HLD HBL
    rw [hxl] at ho3 ⊢
    have HBS3 := hide hb3.size
    generalize wr.heap.size = B at HALL HBS3 ho3 hb3 hbs ⊢
    go_loopw [5, 7, 23] (fun lv _ i wv => ∃ k : Nat, k ≤ es.length ∧ i = .int .i64 (k : Int) ∧ OwnE wv B lv (es.take k) ∧ B ≤ wv.heap.size ∧ Below B wr wv) (fun _ _ i _ => es.length - (intOf i).toNat)
    case atStart => exact ⟨0, Nat.zero_le _, rfl, by rw [List.take_zero]; exact ho3, HBS3.out, hb3⟩
    case round =>
      obtain ⟨k, hk, rfl, hov, hbz, hbv⟩ := hrel
      clear ho3 hb3
      obtain ⟨hst, hmo, hld, hbw⟩ := HALL.out wr hbv
      by_cases hlt : k < es.length
      · obtain ⟨gb, off, rfl, hc⟩ := hst (by omega)
        have hck := hc k (by omega)
        have hke : xs[k]'(by omega) = es[k].1 := by
          have := HXE.out
          subst this
          simp
        rw [hke] at hck
        have hmem : (es[k].1, es[k].2) ∈ es := List.getElem_mem hlt
        have HAT := hide (HR.out.r1 _ _ hmem).2
        have hsk : es[k].1.size ≤ 1048576 := HSZ.out _ hmem
        have hk2 := keyS es[k].1 (by unfold maxLen; omega)
        have HTK := hide (show es.take (k + 1) = es.take k ++ [(es[k].1, es[k].2)] from List.take_succ_eq_append_getElem hlt)
        have hML := hide hmo
        have qv : wr.cell? ⟨W.heap.size, 0, none⟩ = some (.map (some b1)) := hld.cell 0
        generalize es[k].1 = x0 at hck hk2 HAT hsk HTK hmem
        generalize es[k].2 = x1 at HAT HTK hmem
        have HOV := hide hov
        have HBV := hide hbv
        have HC1 := hide (ent_new wr x0 x1)
        clear hc hke hov hbv hmem hld hst hmo hbw
        go_wp2_with (first
          | (at_lookup; refine wpList_lookup_own_int _ rfl _ _ 74 rfl 9 3 .i64 lawStr Tryz.underlying74 Tryz.underlying3 (zeroInt _) b1 n D1 rfl hML.out _ _ rfl hk2 ?_; intro c hat hwc; obtain rfl : x1 = c := by (have h := HAT.out; rw [hat] at h; simp at h; exact h.symm))
          | (at_builtin; refine wpList_append_entry _ rfl (.tmp 27) (.tmp 34) rfl B u5 (es.take k) (x0, x1) wr.heap.size 1 rfl rfl ?_ ?_ ?_ ?_ ?_ ?_; (exact ownE_alloc HOV.out _); (exact HC1.out.1); (exact HC1.out.2); (rw [List.length_take]; omega); (exact Nat.le_trans hbz (by simp)); intro v4 w4 ho4 hg4)
          | go_in)
        exact ⟨⟨k + 1, by omega, by go_num, by rw [HTK.out]; exact ho4, Nat.le_trans hbz (Nat.le_trans (by simp) hg4.size), (HBV.out.alloc hbz _).grown hg4 (Nat.le_trans hbz (by simp)) (fun j hj => (World.ownsRow.lt HOV.out j hj).1)⟩, by simp [intOf]; omega⟩
      · obtain rfl : k = es.length := by omega
        rw [List.take_length] at hov
        have HOV := hide (hov.mono (show W.heap.size ≤ B by omega))
        have HBW := hide hbw
        clear hov hbw hst hmo hld hbv
        go_wp2
        go_ret
        exact ⟨_, rfl, HOV.out, HBW.out⟩
end Go.Proofs.YtpccongphchagaaGreatDoor
