import Derived.Test.YtknnpgffdbkfnaaDoorSetMem
namespace Go.Proofs.YtknnpgffdbkfnaaDoor
open Go.RowKit
/-- What marking writes into a row of pairs. -/
def marksP (k n : Nat) : List (Int × Int) := (List.range n).map fun i => (((k + 2 * i : Nat) : Int), ((k + 2 * i + 1 : Nat) : Int))
theorem marksP_length (k n : Nat) : (marksP k n).length = n := by simp [marksP]
theorem marksP_at (k n i : Nat) (h : i < (marksP k n).length) : (marksP k n)[i] = (((k + 2 * i : Nat) : Int), ((k + 2 * i + 1 : Nat) : Int)) := by simp [marksP]
theorem marksP_succ (k n : Nat) : marksP k (n + 1) = marksP k n ++ [(((k + 2 * n : Nat) : Int), ((k + 2 * n + 1 : Nat) : Int))] := by simp [marksP, List.range_succ]
def markedP (k : Nat) (l : List (Int × Int)) (i : Nat) : List (Int × Int) := marksP k i ++ l.drop i
theorem markedP_zero (k : Nat) (l : List (Int × Int)) : markedP k l 0 = l := by simp [markedP, marksP]
theorem markedP_len (k : Nat) (l : List (Int × Int)) : markedP k l l.length = marksP k l.length := by simp [markedP]
theorem markedP_length (k : Nat) (l : List (Int × Int)) (i : Nat) (h : i ≤ l.length) : (markedP k l i).length = l.length := by simp [markedP, marksP_length]; omega
theorem markedP_set (k : Nat) (l : List (Int × Int)) (i : Nat) (h : i < l.length) : (markedP k l i).set i (((k + 2 * i : Nat) : Int), ((k + 2 * i + 1 : Nat) : Int)) = markedP k l (i + 1) := by
  unfold markedP
  rw [List.set_append_right _ _ (by simp [marksP_length])]
  have e : i - (marksP k i).length = 0 := by simp [marksP_length]
  rw [e, List.drop_eq_getElem_cons h, List.set_cons_zero, marksP_succ]
  simp
theorem OwnP.at0 {w : World} {base : Nat} {a : Option Addr} {n cap : Nat} {es : List (Int × Int)} (h : OwnP w base (.slice a n cap) es) (hp : 0 < es.length) : ∃ g, a = some ⟨g, 0, none⟩ ∧ base ≤ g ∧ g < w.heap.size := by
  rcases h.2 with ⟨_, hn⟩ | ⟨g, cap', cur, h', hb, hg, _⟩
  · simp at hn; simp [hn] at hp
  · simp only [Value.slice.injEq] at h'
    exact ⟨g, h'.1, hb, lt_of_block hg⟩
theorem grown_set1 (w : World) (p j : Nat) (u : Value) : w.grownBy (w.setCell ⟨p, j, none⟩ u) (some p) :=
  ⟨rfl, rfl, rfl, by simp, fun k _ hk => heap_setCell_other w ⟨p, j, none⟩ k u (fun e => hk (by simp [e]))⟩
set_option maxHeartbeats 1000000 in
theorem markPairS_any (base : Nat) (a : Option Addr) (cap k : Nat) (l : List (Int × Int)) (w : World) (hk : k + 2 * l.length ≤ 4294967295) (hown : OwnP w base (.slice a l.length cap) l) :
    Calls Tryd.prog 45 #[.slice a l.length cap, .int .i64 (k : Int)] w fun e w' => e = .returned (.int .i64 ((k + 2 * l.length : Nat) : Int)) ∧ OwnP w' base (.slice a l.length cap) (marksP k l.length) ∧ w.grownBy w' (Value.slice a l.length cap).ownBlock ∧ w'.heap.size = w.heap.size := by
  go_enter Tryd.func45, Tryd.ntmps45
  go_wp2
  go_loopw [1, 5] (fun s i wr => ∃ j : Nat, j ≤ l.length ∧ i = .int .i64 j ∧ s = .int .i64 ((k + 2 * j : Nat) : Int) ∧ OwnP wr base (.slice a l.length cap) (markedP k l j) ∧ w.grownBy wr (Value.slice a l.length cap).ownBlock ∧ wr.heap.size = w.heap.size) (fun _ i _ => l.length - (intOf i).toNat)
  case atStart => exact ⟨0, Nat.zero_le _, rfl, rfl, by rw [markedP_zero]; exact hown, grown_refl _ _, rfl⟩
  case round =>
    obtain ⟨j, hj, rfl, rfl, hown', hg, hsz⟩ := hrel
    clear hown
    by_cases hlt : j < l.length
    · have hml := markedP_length k l j hj
      obtain ⟨b, rfl, hb1, hb2⟩ := hown'.at0 (by omega)
      obtain ⟨hc0, hc1⟩ := Own2.cells hown' j (by rw [List.length_map]; omega)
      have hf0 := Own2.frozen hown' (j * 2)
      have hf1 := Own2.frozen hown' (j * 2 + 1)
      have hst := Own2.store hown' j (.int .u32 ((k + 2 * j : Nat) : Int)) (.int .u32 ((k + 2 * j + 1 : Nat) : Int))
      have hset : ((markedP k l j).map prP).set j (.int .u32 ((k + 2 * j : Nat) : Int), .int .u32 ((k + 2 * j + 1 : Nat) : Int)) = (markedP k l (j + 1)).map prP := by
        rw [← markedP_set k l j hlt, List.map_set]; rfl
      rw [hset] at hst
      have hsz2 : ((wr.setCell ⟨b, j * 2, none⟩ (.int .u32 ((k + 2 * j : Nat) : Int))).setCell ⟨b, j * 2 + 1, none⟩ (.int .u32 ((k + 2 * j + 1 : Nat) : Int))).heap.size = w.heap.size := by rw [← hsz]; simp
      have hbl : w.grownBy ((wr.setCell ⟨b, j * 2, none⟩ (.int .u32 ((k + 2 * j : Nat) : Int))).setCell ⟨b, j * 2 + 1, none⟩ (.int .u32 ((k + 2 * j + 1 : Nat) : Int))) (some b) := grown_trans (grown_trans hg (grown_set1 _ _ _ _)) (grown_set1 _ _ _ _)
      have e1 : ((k + 2 * j : Nat) : Int) = (k : Int) + 2 * (j : Int) := by omega
      have e2 : ((k + 2 * j + 1 : Nat) : Int) = (k : Int) + 2 * (j : Int) + 1 := by omega
      rw [e1, e2] at hst hsz2 hbl
      have HX := hide (And.intro hst (And.intro hbl hsz2))
      generalize (((markedP k l j).map prP)[j]'(by rw [List.length_map]; omega)).1 = y0 at hc0
      generalize (((markedP k l j).map prP)[j]'(by rw [List.length_map]; omega)).2 = y1 at hc1
      have hkb : (k : Int) + 2 * (j : Int) + 1 ≤ 4294967295 := by omega
      clear hst hset hown' hg hml hsz hsz2 hbl e2
      rw [e1]
      clear e1
      go_wp2
      go_roundw
      case rel => exact ⟨j + 1, by omega, by go_num, val_int (by omega), HX.out.1, HX.out.2.1, HX.out.2.2⟩
      case measure => simp [intOf]; omega
    · obtain rfl : j = l.length := by omega
      rw [markedP_len] at hown'
      go_wp2
      go_ret
      exact ⟨rfl, hown', hg, hsz⟩
set_option maxHeartbeats 1000000 in
theorem heldPairS_any (a : Option Addr) (cap k n : Nat) (w : World) (hk : k + 2 * n ≤ 4294967295) (hr : PrAt w a (marksP k n)) :
    Calls Tryd.prog 46 #[.slice a n cap, .int .i64 (k : Int)] w fun e w' => e = .returned (.int .i64 ((k + 2 * n : Nat) : Int)) ∧ w' = w := by
  go_enter Tryd.func46, Tryd.ntmps46
  go_wp2
  go_loop [1, 5] (fun s i => ∃ j : Nat, j ≤ n ∧ i = .int .i64 j ∧ s = .int .i64 ((k + 2 * j : Nat) : Int)) (fun _ i => n - (intOf i).toNat)
  case atStart => exact ⟨0, Nat.zero_le _, rfl, rfl⟩
  case round =>
    obtain ⟨j, hj, rfl, rfl⟩ := hrel
    by_cases hlt : j < n
    · have hml := marksP_length k n
      obtain ⟨b, off, rfl, hc⟩ := hr (by omega)
      obtain ⟨hc0, hc1⟩ := hc j (by omega)
      rw [marksP_at k n j (by omega)] at hc0 hc1
      have e1 : ((k + 2 * j : Nat) : Int) = (k : Int) + 2 * (j : Int) := by omega
      have e2 : ((k + 2 * j + 1 : Nat) : Int) = (k : Int) + 2 * (j : Int) + 1 := by omega
      simp only [] at hc0 hc1
      rw [e1] at hc0
      rw [e2] at hc1
      have hkb : (k : Int) + 2 * (j : Int) + 1 ≤ 4294967295 := by omega
      clear hc hr hml e2
      rw [e1]
      clear e1
      go_wp2
      go_round
      case rel => exact ⟨j + 1, by omega, by go_num, val_int (by omega)⟩
      case measure => simp [intOf]; omega
    · obtain rfl : j = n := by omega
      go_wp2
      go_ret
      exact ⟨rfl, rfl⟩
end Go.Proofs.YtknnpgffdbkfnaaDoor
