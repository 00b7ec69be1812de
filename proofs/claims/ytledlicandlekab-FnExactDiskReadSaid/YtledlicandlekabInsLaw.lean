import Derived.Test.YtledlicandlekabInsMem
namespace Go.Proofs.Ytledlicandlekab
open Go.RowKit
theorem one_str (xs : List ByteArray) : ∀ v ∈ xs.map Value.string, v.oneCell' = true := by
  intro v hv
  obtain ⟨x, _, rfl⟩ := List.mem_map.1 hv
  rfl
/-- The row that slices.Insert at the end makes anew. -/
theorem grown_row (W : World) (base cap : Nat) (xs : List ByteArray) (t : ByteArray) (hn : xs.length ≤ 1048576) (hb : base ≤ W.heap.size) :
    OwnS (W.drew.alloc (.cells ((xs.map Value.string ++ [Value.string t]).toArray ++ Builtin.zeroCells (Value.string ⟨#[]⟩).cells (grownCap W (xs.length + 1) cap 9 - (xs.length + 1))) 9)) base (.slice (some ⟨W.heap.size, 0, none⟩) (xs.length + 1) (grownCap W (xs.length + 1) cap 9)) (xs.take xs.length ++ t :: xs.drop xs.length) := by
  have hge := grownCap_ge W (xs.length + 1) cap 9
  have hcm : grownCap W (xs.length + 1) cap 9 ≤ maxLen := grownCap_le_maxLen W _ _ 9 (by unfold maxLen; omega)
  have e : xs.take xs.length ++ t :: xs.drop xs.length = xs ++ [t] := by simp
  rw [e]
  refine ⟨by simp, .inr ⟨W.heap.size, _, _, by simp, hb, heap_alloc_new W.drew _, by simpa using hge, hcm, ?_, ?_⟩⟩
  · simp [size_zeroCells, Value.cells]; omega
  · rw [Array.toList_append, List.map_append]
    exact List.take_left' (by simp)
theorem below_cells {B b : Nat} {a : World} (hb : B ≤ b) : ∀ (vs : List Value) (o : Nat) (w : World), Below B a w → Below B a (w.setCells b o vs)
  | [], _, _, h => h
  | v :: r, o, _, h => below_cells hb r (o + 1) _ (h.setCell (p := ⟨b, o, none⟩) hb v)
theorem ins_own {w : World} {base g cap i : Nat} {cur : Array Value} {xs : List ByteArray} {t : ByteArray} (hi : i ≤ xs.length) (hb : base ≤ g) (hg : w.heap[g]? = some (.cells cur 9 (0, 0))) (hn : xs.length + 1 ≤ cap) (hm : cap ≤ maxLen) (hs : cur.size = cap)
    (hc : ∀ j, j < xs.length + 1 → cur[j]? = if j < i then xs[j]?.map Value.string else if j = i then some (.string t) else xs[j - 1]?.map Value.string) : OwnS w base (.slice (some ⟨g, 0, none⟩) (xs.length + 1) cap) (xs.take i ++ t :: xs.drop i) := by
  have hl : (xs.take i ++ t :: xs.drop i).length = xs.length + 1 := by simp; omega
  have h := ownS_of (ys := xs.take i ++ t :: xs.drop i) hb hg (by omega) hm hs (fun j hj => by
    have h1 := hc j (by omega)
    have h2 := ins_at xs t i hi j
    rw [List.getElem?_eq_getElem hj] at h2
    rw [h1]
    have h3 := congrArg (Option.map Value.string) h2
    rw [Option.map_some] at h3
    rw [h3]
    split
    · rfl
    · split <;> rfl)
  rw [hl] at h
  exact h
set_option maxRecDepth 20000 in
set_option maxHeartbeats 1000000 in
theorem insert_holds : InsertLaw := by
  intro base a cap i xs t w hn hi hb ho
  have hone : ∀ v ∈ [Value.string t], v.oneCell' = true := by simp [Value.oneCell']
  have hx1 := one_str xs
  have hnew : (w.alloc (.cells #[.string t] 9)).heap[w.heap.size]? = some (.cells #[.string t] 9 (0, 0)) := heap_alloc_new w _
  have hvs : ∀ j v, [Value.string t][j]? = some v → (w.alloc (.cells #[.string t] 9)).cell? ⟨w.heap.size, 0 + j, none⟩ = some v := by
    intro j v h
    rw [cell_of_row _ w.heap.size (0 + j) _ _ (0, 0) hnew]
    rcases j with _ | j
    · simpa using h
    · simp at h
  have hbel : Below base w (w.alloc (.cells #[.string t] 9)) := (Below.refl base w).alloc hb _
  have hbs : base ≤ (w.alloc (.cells #[.string t] 9)).heap.size := by simp; omega
  rcases ho.2 with ⟨hv, h0⟩ | ⟨g, cap', cur, hv, hbg, hg, hnc, hcm, hcs, hcur⟩
  · obtain rfl : xs = [] := List.length_eq_zero_iff.1 h0
    simp only [Value.slice.injEq] at hv
    obtain ⟨rfl, -, rfl⟩ := hv
    obtain rfl : i = 0 := by simpa using hi
    refine (Any2.slices_Insert_string_end_grow Try.laysNm222 none 0 0 w.heap.size 0 1 1 [] [.string t] _ (by omega) (by omega) (by omega) (by omega) rfl rfl (fun _ => rfl) (fun _ h => by cases h) hvs hone).mono ?_
    rintro e w' ⟨rfl, rfl⟩
    exact ⟨_, rfl, grown_row _ base 0 [] t hn hbs, (below_drewN hbel 1).alloc hbs _⟩
  · simp only [Value.slice.injEq] at hv
    obtain ⟨rfl, -, rfl⟩ := hv
    have hgl : g < w.heap.size := by
      rcases Nat.lt_or_ge g w.heap.size with h' | h'
      · exact h'
      · rw [Array.getElem?_eq_none h'] at hg; cases hg
    have hg1 : (w.alloc (.cells #[.string t] 9)).heap[g]? = some (.cells cur 9 (0, 0)) := (heap_alloc_old w _ hgl).trans hg
    have hcx : ∀ j v, (xs.map Value.string)[j]? = some v → (w.alloc (.cells #[.string t] 9)).cell? ⟨g, 0 + j, none⟩ = some v := by
      intro j v h
      rw [cell_of_row _ g (0 + j) _ _ (0, 0) hg1, Nat.zero_add]
      rw [← hcur] at h
      have hj : j < xs.length := by
        rcases Nat.lt_or_ge j xs.length with h' | h'
        · exact h'
        · rw [List.getElem?_eq_none (by simp; omega)] at h; cases h
      rw [List.getElem?_take_of_lt (by omega)] at h
      simpa using h
    have hcl : ∀ j, j < xs.length → cur[j]? = xs[j]?.map Value.string := by
      intro j hj
      have h := congrArg (fun l => l[j]?) hcur
      simp only [List.getElem?_map] at h
      rw [List.getElem?_take_of_lt (by omega)] at h
      simpa using h
    by_cases hroom : xs.length + 1 ≤ cap
    · have hsp : ∀ j, j < xs.length + 1 → ((w.alloc (.cells #[.string t] 9)).cell? ⟨g, 0 + j, none⟩).isSome = true := by
        intro j hj
        rw [cell_of_row _ g (0 + j) _ _ (0, 0) hg1]
        simp; omega
      have hfz : ∀ j, (w.alloc (.cells #[.string t] 9)).frozen? ⟨g, j, none⟩ = false := fun j => by simp [World.frozen?, hg1]
      have hfn : ∀ j, (w.alloc (.cells #[.string t] 9)).frozen? ⟨w.heap.size, j, none⟩ = false := fun j => by simp only [World.frozen?, hnew]; simp
      have hsg : (w.alloc (.cells #[.string t] 9)).shape? g = some (9, cur.size) := by simp [World.shape?, hg1]
      have hsn : (w.alloc (.cells #[.string t] 9)).shape? w.heap.size = some (9, 1) := by simp only [World.shape?, hnew]; simp
      have hmx : cap ≤ 9223372036854775807 := by unfold maxLen at hcm; omega
      by_cases hie : i = xs.length
      · subst hie
        refine (Any2.slices_Insert_string_end_room Try.laysNm222 g 0 xs.length cap w.heap.size 0 1 1 [.string t] _ (by omega) hroom hmx rfl (fun j hj => by rw [Nat.add_assoc]; exact hsp _ (by omega)) (fun j hj => hfz _) hvs hone).mono ?_
        rintro e w' ⟨rfl, rfl⟩
        obtain ⟨c2, h2, hs2, hc2⟩ := setCells_row [.string t] (0 + xs.length) _ cur hg1
        refine ⟨_, rfl, ins_own (Nat.le_refl _) hbg h2 hroom hcm (by omega) (fun j hj => ?_), below_cells hbg _ _ _ hbel⟩
        rw [hc2 j (by omega)]
        by_cases h4 : j < xs.length
        · rw [if_neg (by omega), if_pos h4, hcl j h4]
        · obtain rfl : j = xs.length := by omega
          simp
      · refine (Any2.slices_Insert_string_shift Try.laysNm222 g 0 xs.length cap i w.heap.size 0 1 1 (xs.map .string) [.string t] _ (by omega) (by omega) hroom hmx (by omega) (by simp) rfl hcx hsp (fun j _ => hfz _) hvs hx1 hone 9 9 1 cur.size hsn hsg (by omega) (hfn _) (hfn _)).mono ?_
        rintro e w' ⟨rfl, rfl⟩
        obtain ⟨c2, h2, hs2, hc2⟩ := setCells_row ((xs.map Value.string).drop i) (0 + (i + 1)) (w.alloc (.cells #[.string t] 9)).drew cur hg1
        obtain ⟨c3, h3, hs3, hc3⟩ := setCells_row [.string t] (0 + i) _ c2 h2
        refine ⟨_, rfl, ins_own hi hbg h3 hroom hcm (by omega) (fun j hj => ?_), below_cells hbg _ _ _ (below_cells hbg _ _ _ (below_drewN hbel 1))⟩
        rw [hc3 j (by omega), hc2 j (by omega)]
        by_cases h4 : j < i
        · rw [if_neg (by omega), if_neg (by omega), if_pos h4, hcl j (by omega)]
        · by_cases h5 : j = i
          · subst h5; simp
          · rw [if_neg (by simp; omega), if_pos (by simp; omega), if_neg h4, if_neg h5, List.getElem?_drop, List.getElem?_map, show i + (j - (0 + (i + 1))) = j - 1 by omega]
    · by_cases hie : i = xs.length
      · subst hie
        refine (Any2.slices_Insert_string_end_grow Try.laysNm222 (some ⟨g, 0, none⟩) xs.length cap w.heap.size 0 1 1 (xs.map .string) [.string t] _ (by omega) hnc (by omega) (by omega) (by simp) rfl (fun h => by cases h) (fun a h j v hj => by cases h; rw [Addr.add_lit]; exact hcx j v hj) hvs hone).mono ?_
        rintro e w' ⟨rfl, rfl⟩
        exact ⟨_, rfl, grown_row _ base cap xs t hn hbs, (below_drewN hbel 1).alloc hbs _⟩
      · refine (Any2.slices_Insert_string_grow Try.laysNm222 g 0 xs.length cap i w.heap.size 0 1 1 (xs.map .string) [.string t] _ (by omega) (by omega) hnc (by omega) (by omega) (by simp) rfl hcx hvs hx1 hone).mono ?_
        rintro e w' ⟨rfl, rfl⟩
        have hge := grownCap_ge (w.alloc (.cells #[.string t] 9)) (xs.length + 1) cap 9
        have hgm : grownCap (w.alloc (.cells #[.string t] 9)) (xs.length + 1) cap 9 ≤ maxLen := grownCap_le_maxLen _ _ _ 9 (by unfold maxLen; omega)
        generalize hW : w.alloc (.cells #[.string t] 9) = W at *
        obtain ⟨c2, h2, hs2, hc2⟩ := setCells_row [.string t] i (W.alloc (.cells (((xs.map Value.string).take i).toArray ++ Builtin.zeroCells (Value.string ⟨#[]⟩).cells (xs.length + 1 - i) ++ Builtin.zeroCells (Value.string ⟨#[]⟩).cells (grownCap W (xs.length + 1) cap 9 - (xs.length + 1))) 9)).drew _ (heap_alloc_new W _)
        have key := fun (V : World) (h : V.heap[W.heap.size]? = some (.cells c2 9 (0, 0))) => setCells_row ((xs.map Value.string).drop i) (i + 1) V.drew c2 h
        obtain ⟨c3, h3, hs3, hc3⟩ := key _ h2
        refine ⟨_, rfl, ins_own hi hbs h3 hge hgm ?_ (fun j hj => ?_), below_cells hbs _ _ _ (below_drewN (below_cells hbs _ _ _ (below_drewN (hbel.alloc hbs _) 1)) 1)⟩
        · show _ = grownCap W (xs.length + 1) cap 9
          rw [hs3, hs2]; simp [size_zeroCells, Value.cells]; omega
        · have hC : c2.size = grownCap W (xs.length + 1) cap 9 := by rw [hs2]; simp [size_zeroCells, Value.cells]; omega
          rw [hc3 j (by omega), hc2 j (by omega)]
          by_cases h4 : j < i
          · rw [if_neg (by omega), if_neg (by omega), if_pos h4, Array.append_assoc, Array.getElem?_append_left (by simp; omega)]
            simp [h4]
          · by_cases h5 : j = i
            · subst h5; rw [if_neg (by omega)]; simp
            · rw [if_pos (by simp; omega), if_neg h4, if_neg h5, List.getElem?_drop, List.getElem?_map, show i + (j - (i + 1)) = j - 1 by omega]
end Go.Proofs.Ytledlicandlekab
