import Derived.Test.YtokcdpamcbpaiabDraws
namespace Go.Proofs.Ytokcdpamcbpaiab
open Go.RowKit
theorem OwnBV.grown {w w' : World} {lo p : Nat} {v : Value} {vs : List Value} {ls : List (List Nat)} (h : OwnBV w lo v vs ls) (hg : w.grownBy w' (some p)) (hp : p < lo) : OwnBV w' lo v vs ls := by
  obtain ⟨h1, h2, h3⟩ := h
  have hk : ∀ g, lo ≤ g → g < w.heap.size → w'.heap[g]? = w.heap[g]? := fun g hg' hs => hg.block g hs (by simp; omega)
  refine ⟨own_keep h1 hk, fun i hi => ?_, h3⟩
  obtain ⟨x, hx, ho⟩ := h2 i hi
  exact ⟨x, hx, own_keep ho hk⟩
theorem row_arm {w2 : World} {lo e : Nat} {v u : Value} {vs : List Value} {rs : List (List Nat)} {r : List Nat} (kv : OwnBV w2 lo v vs rs) (ho : OwnB w2 lo u r) :
    OwnBV (w2.alloc (.cells #[u] e)) lo v vs rs ∧ (w2.alloc (.cells #[u] e)).cell? ⟨w2.heap.size, 0, none⟩ = some u ∧ OwnB (w2.alloc (.cells #[u] e)) lo u r := by
  have ha : Below w2.heap.size w2 (w2.alloc (.cells #[u] e)) := (Below.refl _ _).alloc (Nat.le_refl _) _
  refine ⟨kv.below ha (Nat.le_refl _), ?_, World.ownsRow.alloc ho _⟩
  rw [cell_of_row _ _ 0 _ _ (0, 0) (heap_alloc_new w2 _)]; rfl
theorem OwnBV.lt_all {w : World} {lo : Nat} {v : Value} {vs : List Value} {ls : List (List Nat)} (h : OwnBV w lo v vs ls) : ∀ b, v.ownBlock = some b → lo ≤ b := fun b hb => (World.ownsRow.lt h.1 b hb).1
theorem recs_grow {wr w2 w3 X : World} {p : Nat} {v : Value} {l : List Nat} {o : Obj} (hg : wr.grownBy w2 (some p)) (h3 : (w2.alloc o).grownBy w3 v.ownBlock) (hE : OwnB X wr.heap.size v l) : wr.grownBy w3 (some p) :=
  grown_new (grown_new hg (World.grownBy_alloc w2 o none) (fun b h => by cases h)) h3 (fun b h => (World.ownsRow.lt hE b h).1)
set_option maxRecDepth 20000 in
set_option maxHeartbeats 1000000 in
theorem l2Records_any (p : Nat) (a : Option Addr) (cap : Nat) (code : List Nat) (i : Nat) (w0 w : World) (hl : code.length ≤ 1048576) (hr : RowAt w0 a code) (hw : Below w0.heap.size w0 w) (hp : w0.heap.size ≤ p) (hb : ∀ x ∈ code, x < 256) (hrd : Rd w p (.slice a code.length cap) code i) :
    Calls Try.prog 36 #[.pointer (some ⟨p, 0, none⟩)] w fun e w' => ∃ v vs, e = .returned v ∧ OwnBV w' w.heap.size v vs (recsGo code (nx code i % 9) (i + 1)) ∧ w.grownBy w' (some p) := by
  have hpl := hrd.lt
  have hx := nx_lt hb i
  have hrw := hr.below hw
  generalize hT : recsGo code (nx code i % 9) (i + 1) = total
  have HT := hide hT
  clear hT
  go_enter Try.func36, Try.ntmps36
  go_wp2_with fail
  refine (next_any p a cap code i w hl hrw hb hrd).mono ?_
  rintro e w1 ⟨rfl, hrd1, hg1, -⟩
  generalize nx code i = c at hx HT ⊢
  clear hrd hrw
  go_wp2
  go_loopw [3, 4] (fun v n wr => ∃ (m j : Nat) (acc : List (List Nat)) (vs : List Value), acc.length + m ≤ 8 ∧ n = .int .i64 (m : Int) ∧ OwnBV wr w.heap.size v vs acc ∧ Rd wr p (.slice a code.length cap) code j ∧ acc ++ recsGo code m j = total ∧ w.grownBy wr (some p)) (fun _ n _ => (intOf n).toNat)
  case atStart => exact ⟨c % 9, i + 1, [], [], by simp; omega, val_int (by omega), OwnBV.nil _ _, hrd1, unhide HT, hg1⟩
  case round =>
    obtain ⟨m, j, acc, vs, hm, rfl, hov, hrdm, htot, hgm⟩ := hrel
    have HTOT := hide htot
    clear htot hrd1 hg1 HT
    have hsz := hgm.size
    by_cases hlt : 0 < m
    · have hbm : Below w0.heap.size w0 wr := hw.trans ((Below.refl _ _).grown hgm hw.size (fun k h => by simp at h; omega))
      have hpos : (0 : Int) < (m : Int) := by omega
      obtain ⟨m', rfl⟩ : ∃ m', m = m' + 1 := ⟨m - 1, by omega⟩
      have ht2 : (acc ++ [recAt code j]) ++ recsGo code m' (j + 1 + dataLen (nx code j)) = total := by rw [← unhide HTOT]; simp [recsGo]
      have HT2 := hide ht2
      clear ht2 HTOT
      go_wp2_with fail
      refine (l1Data_any p a cap code j w0 wr hl hr hbm hp hb hrdm).mono ?_
      rintro e w2 ⟨v2, rfl, ho2, hrd2, hg2⟩
      have hs2 := hg2.size
      have hov2 := hov.grown hg2 hpl
      have HNE := hide (hov.ne_new ho2)
      obtain ⟨a2, c2, rfl⟩ := ho2.slice
      have hgw2 : w.grownBy w2 (some p) := grown_trans hgm hg2
      by_cases hd0 : dataAt code j = []
      · have hr1 : recAt code j = [120] := by unfold recAt; rw [if_pos hd0]
        rw [hr1] at HT2
        rw [hd0] at ho2 ⊢
        clear hr1 hd0 HNE hov2
        have hE := ho2.alloc (.cells #[.int .u8 120] 5)
        have hrow := row_alloc1 w2 120 120 rfl
        have hal : acc.length ≤ 1048576 := by omega
        have HO := hide hov
        have HR := hide hrd2
        have HG := hide hg2
        have HGM := hide hgm
        clear ho2 hov hrd2 hg2 hrdm hbm hgm hgw2
        go_wp2_with (first
          | (at_builtin; refine wpList_append_bytes _ rfl (.tmp 18) (.tmp 19) rfl wr.heap.size (.slice a2 0 c2) [] [120] rfl hE _ _ rfl hrow (by simp) (by simp) (by simp; omega) ?_; intro v3 w3 ho3 hg3; obtain ⟨a3, c3, rfl⟩ := ho3.slice; have hgA := hide (recs_grow (unhide HG) hg3 hE); have hs3 := hgA.out.size; have HA := hide (row_arm (e := 22) ((unhide HO).grown hgA.out hpl) (ho3.mono hsz)); have HNE := hide ((unhide HO).ne_new ho3))
          | (at_builtin; refine wpList_append_row _ rfl (.tmp 21) (.tmp 23) rfl w.heap.size u3 vs acc (.slice a3 1 c3) [120] w3.heap.size 1 rfl rfl (unhide HA).1 (unhide HA).2.1 (unhide HA).2.2 (unhide HNE) hal (by simp; omega) ?_; intro v5 w5 ho5 hg5))
        have hrd3 : Rd w3 p (.slice a code.length cap) code (j + 1 + dataLen (nx code j)) := ((unhide HR).below ((Below.refl _ _).alloc (Nat.le_refl _) _) (unhide HR).lt).grown hg3 (fun h => by have := (World.ownsRow.lt hE p h.symm).1; omega)
        have hrd5 : Rd w5 p (.slice a code.length cap) code (j + 1 + dataLen (nx code j)) := (hrd3.below ((Below.refl _ _).alloc (Nat.le_refl _) _) hrd3.lt).grown hg5 (fun h => by have := (unhide HO).lt_all p h.symm; omega)
        have hg5' : w.grownBy w5 (some p) := grown_new (grown_new (grown_trans (unhide HGM) hgA.out) (World.grownBy_alloc w3 _ none) (fun b h => by cases h)) hg5 (fun b h => (unhide HO).lt_all b h)
        go_roundw
        case rel => exact ⟨m', _, acc ++ [[120]], vs ++ [.slice a3 1 c3], by simp; omega, val_int (by omega), ho5, hrd5, unhide HT2, hg5'⟩
        case measure => first | (simp [intOf]; done) | (simp [intOf]; omega)
      · have hr1 : recAt code j = dataAt code j := by unfold recAt; rw [if_neg hd0]
        rw [hr1] at HT2
        have hlen0 : ((dataAt code j).length : Int) ≠ 0 := by
          intro h
          exact hd0 (List.eq_nil_of_length_eq_zero (by omega))
        have hl0 : (((dataAt code j).length : Int) == 0) = false := by simpa using hlen0
        clear hr1 hd0 hlen0
        generalize dataAt code j = r at *
        have HA := hide (row_arm (e := 22) hov2 (ho2.mono hsz))
        have hal : acc.length ≤ 1048576 := by omega
        have HB := hide hov2
        have HR := hide hrd2
        clear ho2 hov hov2 hrd2 hg2 hrdm hbm hgm
        go_wp2_with (at_builtin; refine wpList_append_row _ rfl _ _ rfl w.heap.size u3 vs acc (.slice a2 r.length c2) r w2.heap.size 1 rfl rfl (unhide HA).1 (unhide HA).2.1 (unhide HA).2.2 (unhide HNE) hal (by simp; omega) ?_; intro v5 w5 ho5 hg5)
        have hrd5 : Rd w5 p (.slice a code.length cap) code (j + 1 + dataLen (nx code j)) := ((unhide HR).below ((Below.refl _ _).alloc (Nat.le_refl _) _) (unhide HR).lt).grown hg5 (fun h => by have := (unhide HB).lt_all p h.symm; omega)
        have hg5' : w.grownBy w5 (some p) := grown_new (grown_new hgw2 (World.grownBy_alloc w2 _ none) (fun b h => by cases h)) hg5 (fun b h => (unhide HB).lt_all b h)
        go_roundw
        case rel => exact ⟨m', _, acc ++ [r], vs ++ [.slice a2 r.length c2], by simp; omega, val_int (by omega), ho5, hrd5, unhide HT2, hg5'⟩
        case measure => first | (simp [intOf]; done) | (simp [intOf]; omega)
    · have hm0 : m = 0 := by omega
      subst hm0
      have he : acc = total := by rw [← unhide HTOT]; simp [recsGo]
      rw [he] at hov
      clear he HTOT
      go_wp2
      go_ret
      exact ⟨_, vs, rfl, hov, hgm⟩
end Go.Proofs.Ytokcdpamcbpaiab
