import Derived.Test.YtknnpgffdbkfnaaDoorSpecLet
namespace Go.Proofs.YtknnpgffdbkfnaaDoor
open Go.RowKit
theorem tab_cell {w : World} {g r : Nat} (h : TabAt w g 31) (hr : r < 31) : w.cell? ⟨g, r * 2, none⟩ = some (.int .i32 (fLet r : Int)) ∧ w.cell? ⟨g, r * 2 + 1, none⟩ = some (.int .u64 (fBit r : Int)) := by
  have h0 := two_get0 (tabRows 31) r (by rw [tabRows_length]; exact hr)
  have h1 := two_get1 (tabRows 31) r (by rw [tabRows_length]; exact hr)
  have hv : (tabRows 31)[r]'(by rw [tabRows_length]; exact hr) = rowV r := by simp [tabRows, hr]
  rw [hv] at h0 h1
  rw [cell_of_row w g _ _ _ _ h, cell_of_row w g _ _ _ _ h]
  simp only [tabA, List.getElem?_toArray]
  exact ⟨h0, h1⟩
theorem orB_snoc (is : List Nat) (r : Nat) : orB (is ++ [r]) = orB is ||| 2 ^ fBit r := by unfold orB; rw [List.foldl_append]; rfl
/-- What is known when the places 'is' have come and the table is passed over up to r. -/
def Come (s : ByteArray) (pos r : Nat) (is : List Nat) : Prop := pos ≤ s.size ∧ r ≤ 31 ∧ Good is ∧ (∀ i ∈ is, i < r) ∧ (bytesL s).take pos = is.map fLet ∧ ∀ js, Good js → js.map fLet = bytesL s → js.take pos = is ∧ ∀ h : pos < js.length, r ≤ js[pos]
theorem come_start (s : ByteArray) : Come s 0 0 [] := ⟨Nat.zero_le _, by omega, ⟨List.Pairwise.nil, fun i h => nomatch h⟩, fun i h => (nomatch h), rfl, fun js _ _ => ⟨rfl, fun _ => Nat.zero_le _⟩⟩
theorem come_at {s : ByteArray} {pos : Nat} {js : List Nat} (h : js.map fLet = bytesL s) (hp : pos < s.size) : ∃ hj : pos < js.length, fLet js[pos] = (s[pos]'hp).toNat := by
  have hl : js.length = s.size := by rw [← bytesL_len, ← h, List.length_map]
  refine ⟨by omega, ?_⟩
  have e : (js.map fLet)[pos]'(by rw [List.length_map]; omega) = (bytesL s)[pos]'(by rw [bytesL_len]; exact hp) := by simp only [h]
  rw [List.getElem_map, bytesL_at s pos hp] at e
  exact e
theorem come_past {s : ByteArray} {pos r r' : Nat} {is js : List Nat} {X : Int} (hc : Come s pos r is) (hp : pos < s.size) (hX : X = ((s[pos]'hp).toNat : Int)) (hlow : ∀ j, r ≤ j → j < r' → (fLet j : Int) < X) (hg : Good js) (h : js.map fLet = bytesL s) (hj : pos < js.length) : r' ≤ js[pos] := by
  obtain ⟨_, e⟩ := come_at h hp
  have h1 := (hc.2.2.2.2.2 js hg h).2 hj
  rcases Nat.lt_or_ge js[pos] r' with h' | h'
  · have := hlow _ h1 h'; omega
  · exact h'
theorem come_next {s : ByteArray} {pos r r' : Nat} {is : List Nat} {X : Int} (hc : Come s pos r is) (hp : pos < s.size) (hX : X = ((s[pos]'hp).toNat : Int)) (hr : r ≤ r') (hr3 : r' < 31) (hlow : ∀ j, r ≤ j → j < r' → (fLet j : Int) < X) (he : (fLet r' : Int) = X) : Come s (pos + 1) (r' + 1) (is ++ [r']) := by
  have hc' := hc
  obtain ⟨h1, h2, h3, h4, h5, h6⟩ := hc
  refine ⟨by omega, by omega, ⟨?_, ?_⟩, ?_, ?_, ?_⟩
  · rw [List.pairwise_append]
    exact ⟨h3.1, List.pairwise_singleton _ _, fun a ha b hb => by simp at hb; subst hb; have := h4 a ha; omega⟩
  · intro i hi
    rcases List.mem_append.1 hi with h | h
    · exact h3.2 i h
    · simp at h; omega
  · intro i hi
    rcases List.mem_append.1 hi with h | h
    · have := h4 i h; omega
    · simp at h; omega
  · rw [List.take_succ_eq_append_getElem (by rw [bytesL_len]; exact hp), h5, bytesL_at s pos hp, List.map_append]
    simp
    omega
  · intro js hg h
    obtain ⟨hj, e⟩ := come_at h hp
    have hle := come_past hc' hp hX hlow hg h hj
    have hj31 : js[pos] < 31 := hg.2 _ (List.getElem_mem hj)
    have heq : js[pos] = r' := fLet_inj hj31 hr3 (by omega)
    refine ⟨by rw [List.take_succ_eq_append_getElem hj, (h6 js hg h).1, heq], fun hn => ?_⟩
    have := List.pairwise_iff_getElem.1 hg.1 pos (pos + 1) hj hn (by omega)
    omega
theorem come_fail_end {s : ByteArray} {pos r : Nat} {is : List Nat} {X : Int} (hc : Come s pos r is) (hp : pos < s.size) (hX : X = ((s[pos]'hp).toNat : Int) ∨ 128 ≤ (s[pos]'hp).toNat) (hlow : ∀ j, r ≤ j → j < 31 → (fLet j : Int) < X) : AnsIs (bytesL s) false 0 := by
  refine .inr ⟨rfl, rfl, fun ⟨js, hg, h⟩ => ?_⟩
  obtain ⟨hj, e⟩ := come_at h.symm hp
  have hj31 : js[pos] < 31 := hg.2 _ (List.getElem_mem hj)
  rcases hX with hX | hX
  · have := come_past hc hp hX hlow hg h.symm hj; omega
  · have := fLet_lt _ hj31; omega
theorem come_fail_ne {s : ByteArray} {pos r r' : Nat} {is : List Nat} {X : Int} (hc : Come s pos r is) (hp : pos < s.size) (hX : X = ((s[pos]'hp).toNat : Int) ∨ 128 ≤ (s[pos]'hp).toNat) (hr3 : r' < 31) (hlow : ∀ j, r ≤ j → j < r' → (fLet j : Int) < X) (hn : ¬ (fLet r' : Int) < X) (he : ¬ (fLet r' : Int) = X) : AnsIs (bytesL s) false 0 := by
  refine .inr ⟨rfl, rfl, fun ⟨js, hg, h⟩ => ?_⟩
  obtain ⟨hj, e⟩ := come_at h.symm hp
  have hj31 : js[pos] < 31 := hg.2 _ (List.getElem_mem hj)
  rcases hX with hX | hX
  · have hle := come_past hc hp hX hlow hg h.symm hj
    have h2 : fLet js[pos] < fLet r' := by omega
    have := (fLet_mono _ hj31 _ hr3).2 h2
    omega
  · have := fLet_lt _ hj31; omega
theorem come_end {s : ByteArray} {r : Nat} {is : List Nat} (hc : Come s s.size r is) : AnsIs (bytesL s) true (orB is) := by
  refine .inl ⟨rfl, is, hc.2.2.1, ?_, rfl⟩
  have := hc.2.2.2.2.1
  rwa [List.take_of_length_le (by rw [bytesL_len]; exact Nat.le_refl _)] at this
theorem sl_next (gT r' : Nat) (h : r' < 31) : ∃ a' : Nat, Value.slice (if 31 - r' = 1 then some (⟨gT, r' * 2, none⟩ : Addr) else some ⟨gT, r' * 2 + 2, none⟩) (31 - r' - 1) (31 - r' - 1) = .slice (some ⟨gT, a', none⟩) (31 - (r' + 1)) (31 - (r' + 1)) ∧ (r' + 1 < 31 → a' = (r' + 1) * 2) := by
  by_cases e : 31 - r' = 1
  · rw [if_pos e]
    exact ⟨r' * 2, by rw [show 31 - r' - 1 = 31 - (r' + 1) from by omega], fun h => by omega⟩
  · rw [if_neg e]
    exact ⟨r' * 2 + 2, by rw [show 31 - r' - 1 = 31 - (r' + 1) from by omega], fun h => by omega⟩
theorem box_flags {W : World} {B : Nat} {u v : Value} (h : W.heap[B]? = some (.cells #[u, v] 32 (0, 0))) (b : Bool) (y : Int) : ((W.setCell ⟨B, 0, none⟩ (.bool b)).setCell ⟨B, 1, none⟩ (.int .u32 y)).heap[B]? = some (.cells #[.bool b, .int .u32 y] 32 (0, 0)) := by
  rw [setCell_eq_setRow W _ 0 _ _ _ _ h, setCell_eq_setRow _ _ 1 _ _ _ _ (setRow_heap W _ _ _ _ _ h), setRow_setRow, setRow_heap W _ _ _ _ _ h]
  rfl
def lenV : Value → Nat
  | .slice _ n _ => n
  | _ => 0
def LetPost (s : ByteArray) (w : World) (e : Ending) (w' : World) : Prop := ∃ (ok : Bool) (f : Nat), e = .returned (.agg #[.bool ok, .int .u32 (f : Int)]) ∧ AnsIs (bytesL s) ok f ∧ Below w.heap.size w w'
set_option maxRecDepth 20000 in
set_option maxHeartbeats 1000000 in
theorem implLetterFlags_any (s : ByteArray) (w : World) :
    Calls Tryd.prog 12 #[.string s] w (LetPost s w) := by
  have hbx := heap_alloc_new w (.cells #[.bool false, .int .u32 0] 32)
  have hbw := (Below.refl w.heap.size w).alloc (Nat.le_refl _) (.cells #[.bool false, .int .u32 0] 32)
  go_enter Tryd.func12, Tryd.ntmps12
  go_wp2_with fail
  generalize w.alloc (.cells #[.bool false, .int .u32 0] 32) = w0 at hbx hbw ⊢
  refine (flagTable_any w0).mono ?_
  rintro e w1 ⟨rfl, hb1⟩
  have hlt0 : w.heap.size < w0.heap.size := lt_of_block hbx
  have hbx1 := (hb1.block _ hlt0).trans hbx
  have hbw1 := hbw.trans (hb1.mono (Nat.le_of_lt hlt0))
  have hz1 := hb1.size
  clear hbx hbw
  go_wp2_with (first
    | (refine wpList_alloc_tab _ rfl rfl ?_; intro w2 ht2 hb2)
    | (refine wpList_store_tab _ w1.heap.size 0 31 rfl _ _ rfl rfl rfl ht2 ?_; intro w3 ht3 hg3))
  have hbx3 : w3.heap[w.heap.size]? = some (.cells #[.bool false, .int .u32 0] 32 (0, 0)) := (hg3.block _ (by have := hb2.size; omega) (by simp; omega)).trans ((hb2.block _ (by omega)).trans hbx1)
  have hbw3 : Below w.heap.size w w3 := (hbw1.trans (hb2.mono (by omega))).grown hg3 (by have := hb2.size; omega) (fun k h => by cases h; omega)
  have hz3 : w1.heap.size < w3.heap.size := lt_of_block ht3
  have hit : (w3.iter s 0).heap[w3.heap.size]? = some (.stringIter s 0) := World.iter_heap w3 s 0
  have hbi : Below w3.heap.size w3 (w3.iter s 0) := by
    have := (Below.refl w3.heap.size w3).alloc (Nat.le_refl _) (.stringIter s 0)
    exact this
  have ht4 := ht3.below hbi
  have hbx4 := (hbi.block _ (by omega)).trans hbx3
  have hbw4 := hbw3.trans (hbi.mono (by omega))
  generalize hkI : w3.heap.size = kI at hit hz3 ⊢
  generalize hgT : w1.heap.size = gT at ht4 hz3 hz1 ⊢
  have hBg : w.heap.size < gT := by omega
  generalize w3.iter s 0 = w4 at hit ht4 hbx4 hbw4 ⊢
  clear ht2 hb2 hg3 ht3 hbx3 hbw3 hbi hbx1 hbw1 hb1
  generalize tabA 31 = TV
  go_loopw [4, 5, 7] (fun v f _ wr => ∃ (pos r a : Nat) (is : List Nat), v = .slice (some ⟨gT, a, none⟩) (31 - r) (31 - r) ∧ (r < 31 → a = r * 2) ∧ f = .int .u32 ((orB is : Nat) : Int) ∧ Come s pos r is ∧ wr.heap[kI]? = some (.stringIter s pos) ∧ TabAt wr gT 31 ∧ wr.heap[w.heap.size]? = some (.cells #[.bool false, .int .u32 0] 32 (0, 0)) ∧ Below w.heap.size w wr) (fun _ _ _ wr => s.size - wr.iterPos kI)
  case atStart => exact ⟨0, 0, 0, [], rfl, fun _ => rfl, rfl, come_start s, hit, ht4, hbx4, hbw4⟩
  case round =>
    obtain ⟨pos, r, a, is, rfl, ha, rfl, hc, hi, ht, hb, hw⟩ := hrel
    clear hit ht4 hbx4 hbw4
    by_cases hp : pos < s.size
    · have hnx : ∀ ty, (Instr.next (.pointer (some ⟨kI, 0, none⟩)) true ty).run Tryd.prog wr = _ := fun ty => Lib.run_next_any_at wr kI s pos ty hi hp
      have hX : (((Utf8.decode s pos).1 : Int) = ((s[pos]'hp).toNat : Int) ∧ (Utf8.decode s pos).2 = 1) ∨ (128 ≤ (s[pos]'hp).toNat ∧ (128 : Int) ≤ ((Utf8.decode s pos).1 : Int)) := by
        by_cases h128 : (s[pos]'hp).toNat < 128
        · rw [decode_ascii s pos hp h128]; exact .inl ⟨rfl, rfl⟩
        · have := decode_high s pos hp (by omega); exact .inr ⟨by omega, by omega⟩
      have hXle := decode_le s pos
      have hi2 := Lib.iterAt_heap wr kI s pos (pos + (Utf8.decode s pos).2) hi
      have ht2 : TabAt (wr.iterAt kI s (pos + (Utf8.decode s pos).2)) gT 31 := (Lib.iterAt_other wr kI gT s _ (by omega)).trans ht
      have hb2 := (Lib.iterAt_other wr kI w.heap.size s (pos + (Utf8.decode s pos).2) (by omega)).trans hb
      have hw2 := Lib.below_iterAt hw (k := kI) (by omega) s (pos + (Utf8.decode s pos).2)
      have HM : Hid (wr.iterPos kI = pos) := by show _ = _; simp only [World.iterPos, hi]
      generalize wr.iterAt kI s (pos + (Utf8.decode s pos).2) = w5 at hnx hi2 ht2 hb2 hw2
      generalize (Utf8.decode s pos).2 = wd at hX hi2
      generalize (Utf8.decode s pos).1 = X at hX hnx hXle
      have HH := hide (And.intro hi2 (And.intro hb2 hw2))
      have HC := hide hc
      have HT := hide ht2
      clear hi ht hb hw hi2 hb2 hw2 hc
      go_wp2
      have hr31 := HC.out.2.1
      go_loop [4] (fun v => ∃ r' a' : Nat, v = .slice (some ⟨gT, a', none⟩) (31 - r') (31 - r') ∧ r ≤ r' ∧ r' ≤ 31 ∧ (r' < 31 → a' = r' * 2) ∧ ∀ j, r ≤ j → j < r' → (fLet j : Int) < (X : Int)) (fun v => lenV v)
      case atStart => exact ⟨r, a, rfl, Nat.le_refl _, hr31, ha, fun j h1 h2 => by omega⟩
      case round =>
        obtain ⟨r', a', rfl, hrr, hr3, ha', hlow⟩ := hrel
        by_cases hlt : r' < 31
        · obtain ⟨hc0, hc1⟩ := tab_cell HT.out hlt
          have ea := ha' hlt
          subst ea
          have hpos : (0 : Int) < ((31 - r' : Nat) : Int) := by omega
          have hLo := hide hlow
          clear hlow
          by_cases hlo : (fLet r' : Int) < (X : Int)
          · have hi1 : (1 : Int) ≤ ((31 - r' : Nat) : Int) := by omega
            clear hc1
            obtain ⟨a2, e2, h2⟩ := sl_next gT r' hlt
            have HE := hide e2
            clear e2
            go_wp2
            go_round
            case rel => exact ⟨r' + 1, a2, HE.out, by omega, by omega, h2, fun j h3 h4 => by
              by_cases e : j = r'
              · subst e; exact hlo
              · exact hLo.out j h3 (by omega)⟩
            case measure => rw [HE.out]; simp only [lenV]; omega
          · have hbx := HH.out.2.1
            have c0 : w5.cell? ⟨w.heap.size, 0, none⟩ = some (.bool false) := by rw [cell_of_row _ _ _ _ _ _ hbx]; rfl
            have c1 : w5.cell? ⟨w.heap.size, 1, none⟩ = some (.int .u32 0) := by rw [cell_of_row _ _ _ _ _ _ hbx]; rfl
            have f0 : w5.frozen? ⟨w.heap.size, 0, none⟩ = false := by simp [World.frozen?, hbx]
            have f1 : w5.frozen? ⟨w.heap.size, 1, none⟩ = false := by simp [World.frozen?, hbx]
            have hne0 : (((31 - r' : Nat) : Int) == 0) = false := by simp; omega
            clear hbx
            by_cases heq : (fLet r' : Int) = (X : Int)
            · have hbne : ((fLet r' : Int) == (X : Int)) = true := by simp [heq]
              have hbit := fBit_lt r' hlt
              have hX1 : (X : Int) = ((s[pos]'hp).toNat : Int) ∧ wd = 1 := by
                rcases hX with h | h
                · exact h
                · have := fLet_lt r' hlt; omega
              have hnext := come_next HC.out hp hX1.1 hrr hlt hLo.out heq
              have hg := HC.out.2.2.1
              have hOL := orB_lt hg
              have hor := or_nat (orB is) (2 ^ fBit r') hOL (pow_lt31 hbit)
              rw [← orB_snoc] at hor
              have hi1 : (1 : Int) ≤ ((31 - r' : Nat) : Int) := by omega
              obtain ⟨a2, e2, h2⟩ := sl_next gT r' hlt
              have HE := hide e2
              have HNX := hide hnext
              clear e2 hnext
              go_wp2_with fail
              refine (mask_any (fBit r') w5 hbit).mono ?_
              rintro e w6 ⟨rfl, rfl⟩
              generalize ((2 ^ fBit r' : Nat) : Int) = mk at hor ⊢
              go_wp2
              go_roundw
              case rel =>
                obtain ⟨q1, q2, q3⟩ := HH.out
                refine ⟨pos + 1, r' + 1, a2, is ++ [r'], HE.out, h2, rfl, HNX.out, ?_, HT.out, q2, q3⟩
                rw [hX1.2] at q1; exact q1
              case measure =>
                rw [HM.out]
                have q1 := HH.out.1
                rw [hX1.2] at q1
                simp only [World.iterPos, q1]
                omega
            · have hbne : ((fLet r' : Int) == (X : Int)) = false := by simp; omega
              have hans := come_fail_ne HC.out hp (hX.imp And.left And.left) hlt hLo.out hlo heq
              have HA := hide hans
              clear hans
              go_wp2
              exact bodyPost_ret (ret_flags w.heap.size _ false 0 rfl rfl (box_flags HH.out.2.1 _ _)) rfl ⟨false, 0, rfl, HA.out, (HH.out.2.2.setCell (p := ⟨w.heap.size, 0, none⟩) (Nat.le_refl _) _).setCell (p := ⟨w.heap.size, 1, none⟩) (Nat.le_refl _) _⟩
        · obtain rfl : r' = 31 := by omega
          have hbx := HH.out.2.1
          have c0 : w5.cell? ⟨w.heap.size, 0, none⟩ = some (.bool false) := by rw [cell_of_row _ _ _ _ _ _ hbx]; rfl
          have c1 : w5.cell? ⟨w.heap.size, 1, none⟩ = some (.int .u32 0) := by rw [cell_of_row _ _ _ _ _ _ hbx]; rfl
          have f0 : w5.frozen? ⟨w.heap.size, 0, none⟩ = false := by simp [World.frozen?, hbx]
          have f1 : w5.frozen? ⟨w.heap.size, 1, none⟩ = false := by simp [World.frozen?, hbx]
          have HA := hide (come_fail_end HC.out hp (hX.imp And.left And.left) hlow)
          clear hlow hbx
          go_wp2
          exact bodyPost_ret (ret_flags w.heap.size _ false 0 rfl rfl (box_flags HH.out.2.1 _ _)) rfl ⟨false, 0, rfl, HA.out, (HH.out.2.2.setCell (p := ⟨w.heap.size, 0, none⟩) (Nat.le_refl _) _).setCell (p := ⟨w.heap.size, 1, none⟩) (Nat.le_refl _) _⟩
    · have hnx : ∀ ty, (Instr.next (.pointer (some ⟨kI, 0, none⟩)) true ty).run Tryd.prog wr = _ := fun ty => Lib.run_next_end_at wr kI s pos ty hi hp
      obtain rfl : pos = s.size := by have := hc.1; omega
      have HA := hide (come_end hc)
      have hOL := orB_lt hc.2.2.1
      have c0 : wr.cell? ⟨w.heap.size, 0, none⟩ = some (.bool false) := by rw [cell_of_row _ _ _ _ _ _ hb]; rfl
      have c1 : wr.cell? ⟨w.heap.size, 1, none⟩ = some (.int .u32 0) := by rw [cell_of_row _ _ _ _ _ _ hb]; rfl
      have f0 : wr.frozen? ⟨w.heap.size, 0, none⟩ = false := by simp [World.frozen?, hb]
      have f1 : wr.frozen? ⟨w.heap.size, 1, none⟩ = false := by simp [World.frozen?, hb]
      have HB := hide (And.intro hb hw)
      clear hb hw hc ht
      go_wp2
      exact bodyPost_ret (ret_flags w.heap.size _ true ((orB is : Nat) : Int) rfl rfl (box_flags HB.out.1 _ _)) rfl ⟨true, orB is, rfl, HA.out, (HB.out.2.setCell (p := ⟨w.heap.size, 0, none⟩) (Nat.le_refl _) _).setCell (p := ⟨w.heap.size, 1, none⟩) (Nat.le_refl _) _⟩
end Go.Proofs.YtknnpgffdbkfnaaDoor
