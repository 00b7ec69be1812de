import Derived.Test.YtknnpgffdbkfnaaDoorImplSet1
import Derived.Test.YtknnpgffdbkfnaaDoorSpecSet2
namespace Go.Proofs.YtknnpgffdbkfnaaDoor
open Go.RowKit
/-- How the loop of impl.ReadSet stands. -/
structure ISL (w wr : World) (ws : List ByteArray) (v : Value) (ps : List (Int × Int)) : Prop where
  b0 : BlkQ wr w.heap.size (.bool false) (.slice none 0 0)
  wd : ∀ j (h : j < ws.length), wr.cell? ⟨w.heap.size + 1, j, none⟩ = some (.string ws[j])
  ow : OwnP wr (w.heap.size + 2) v ps
  bel : Below w.heap.size w wr
  sz : w.heap.size + 2 ≤ wr.heap.size
theorem ISL.below {w wr W : World} {ws : List ByteArray} {v : Value} {ps : List (Int × Int)} (h : ISL w wr ws v ps) (hb : Below wr.heap.size wr W) : ISL w W ws v ps :=
  ⟨h.b0.below hb h.b0.lt, fun j hj => by rw [hb.cell (p := ⟨w.heap.size + 1, j, none⟩) (lt_of_cell0 (h.wd j hj))]; exact h.wd j hj, h.ow.below hb (Nat.le_refl _), h.bel.trans (hb.mono h.bel.size), Nat.le_trans h.sz hb.size⟩
theorem ISL.push {w wr W : World} {ws : List ByteArray} {v v' : Value} {ps : List (Int × Int)} {e : Int × Int} (h : ISL w wr ws v ps) (ho : OwnP W (w.heap.size + 2) v' (ps ++ [e])) (hg : wr.grownBy W v.ownBlock) :
    ISL w W ws v' (ps ++ [e]) := by
  have hlo : ∀ b, v.ownBlock = some b → w.heap.size + 2 ≤ b := fun b hb => (World.ownsRow.lt h.ow b hb).1
  have ne : ∀ b, b < w.heap.size + 2 → some b ≠ v.ownBlock := fun b hb e => by have := hlo b e.symm; omega
  refine ⟨h.b0.grown hg (ne _ (by omega)), fun j hj => ?_, ho, h.bel.grown hg (by have := h.bel.size; omega) (fun k e => by have := hlo k e; omega), by have := hg.size; have := h.sz; omega⟩
  have hc := h.wd j hj
  have hb : W.heap[w.heap.size + 1]? = wr.heap[w.heap.size + 1]? := hg.block _ (lt_of_cell0 hc) (ne _ (by omega))
  rw [← hc]
  unfold World.cell?
  simp only [hb]
set_option maxRecDepth 20000 in
set_option maxHeartbeats 1000000 in
theorem implSet_any (s : ByteArray) (w : World) (hE : Env w) (hs : s.size ≤ 1048576) :
    Calls Tryd.prog 16 #[.string s] w (SetPost s.data.toList w) := by
  have hsl : s.data.toList.length = s.size := rfl
  have hx0 := blkQ_new w (.bool false) (.slice none 0 0)
  have hb0 := (Below.refl w.heap.size w).alloc (Nat.le_refl _) (.cells #[.bool false, .slice none 0 0] 39)
  have hE0 := hE.below hb0
  have hz0 : (w.alloc (.cells #[.bool false, .slice none 0 0] 39)).heap.size = w.heap.size + 1 := World.size_alloc ..
  have HEN := hide (fun (W : World) (h : Below w.heap.size w W) => hE.below h)
  clear hE
  go_enter Tryd.func16, Tryd.ntmps16
  go_wp2_with fail
  generalize w.alloc (.cells #[.bool false, .slice none 0 0] 39) = W0 at hx0 hb0 hE0 hz0 ⊢
  obtain ⟨m, hm⟩ := hE0.max
  have hsp := Tryd.strings_Split s ⟨#[44]⟩ m W0 (by omega) hm (by decide)
  have hsb := splitB_of 44 s.size s (Nat.le_refl _)
  have hsa := Lib.splitB_all ⟨#[44]⟩ (by decide) 0 (Lib.countB s ⟨#[44]⟩) s rfl
  generalize Lib.splitB ⟨#[44]⟩ 0 (Lib.countB s ⟨#[44]⟩) s = ws at hsp hsb hsa
  rw [← hsa] at hsp
  have hlen : (splitOf 44 s.data.toList).length = ws.length := by rw [← hsb, List.length_map]
  have hwl : ws.length ≤ 1048577 := by
    have h2 := splitOf_len 44 s.data.toList
    omega
  have hwsz : ∀ y ∈ ws, y.size ≤ 1048576 := fun y hy => by
    have hmem : y.data.toList ∈ splitOf 44 s.data.toList := by rw [← hsb]; exact List.mem_map.2 ⟨y, hy, rfl⟩
    have h1 := splitOf_mem hmem
    have h2 : y.data.toList.length = y.size := rfl
    omega
  have hS1 : ISL w (W0.alloc (.cells (ws.map Value.string).toArray 9)) ws (.slice none 0 0) [] :=
    ⟨hx0.alloc _, fun j hj => by rw [← hz0, cell_of_row _ _ _ _ _ _ (heap_alloc_new W0 _)]; simp [hj], OwnP.nil _ _, hb0.alloc (by omega) _, by rw [World.size_alloc]; omega⟩
  have HAT := hide (show ∀ k (h : k < ws.length), (splitOf 44 s.data.toList)[k]'(Nat.lt_of_lt_of_eq h hlen.symm) = ws[k].data.toList from fun k h => by simp only [← hsb, List.getElem_map])
  have HWZ := hide hwsz
  refine hsp.mono ?_
  rintro e W1 ⟨rfl, hW1⟩
  rw [← hW1] at hS1
  rw [hz0]
  have HS1 := hide hS1
  clear hsp hsb hsa hS1 hW1 hwsz hx0 hb0 hE0 hz0 hm
  have p0 := HS1.out.b0.c0
  have p1 := HS1.out.b0.c1
  have f0 := HS1.out.b0.fz 0
  have f1 := HS1.out.b0.fz 1
  by_cases h50 : 50 < ws.length
  · have h50' : (50 : Int) < (ws.length : Int) := by omega
    have HN := hide (setOf_many (t := s.data.toList) (by omega))
    go_wp2
    exact bodyPost_ret (ret_set w.heap.size _ _ _ rfl rfl ((HS1.out.b0.set0 _).set1 _)) rfl (set_no HN.out ((HS1.out.bel.setCell (p := ⟨w.heap.size, 0, none⟩) (Nat.le_refl _) _).setCell (p := ⟨w.heap.size, 1, none⟩) (Nat.le_refl _) _))
  · have h50' : ¬ (50 : Int) < (ws.length : Int) := by omega
    clear p0 p1 f0 f1
    go_wp2
    go_loopw [4, 6, 7, 8, 17] (fun v _ _ _ i wr => ∃ (k : Nat), k ≤ ws.length ∧ i = .int .i64 (k : Int) ∧ (∀ x ∈ (splitOf 44 s.data.toList).take k, isPr x = true) ∧ ISL w wr ws v (((splitOf 44 s.data.toList).take k).map fun x => prI (prV x))) (fun _ _ _ _ i _ => ws.length - (intOf i).toNat)
    case atStart => exact ⟨0, Nat.zero_le _, rfl, (fun x h => by simp at h), HS1.out⟩
    case round =>
      obtain ⟨k, hk, rfl, hall, hS⟩ := hrel
      clear HS1
      by_cases hlt : k < ws.length
      · have hcell := hS.wd k hlt
        have hysz := HWZ.out _ (List.getElem_mem hlt)
        have HE := hide (HAT.out k hlt)
        have HBAD := hide (fun (h : isPr ws[k].data.toList = false) => setOf_bad (t := s.data.toList) (i := k) (by omega) (by rw [HAT.out k hlt]; exact h))
        have HNEXT := hide (fun (h : isPr ws[k].data.toList = true) => And.intro (allP_next (parts := splitOf 44 s.data.toList) (k := k) (by omega) hall (by rw [HAT.out k hlt]; exact h)) (mapP_next (parts := splitOf 44 s.data.toList) (k := k) (by omega)))
        generalize ws[k] = y at hcell hysz HE HBAD HNEXT
        have HS := hide hS
        clear hS hall
        go_wp2_with fail
        refine (readPair_any y wr (HEN.out wr HS.out.bel) (by omega)).mono ?_
        rintro e w2 ⟨n1, n2, ok, rfl, hor, hb2⟩
        have hS2 := HS.out.below hb2
        have hS3 := hS2.below ((Below.refl w2.heap.size w2).alloc (Nat.le_refl _) (.cells #[.int .u32 (n1 : Int), .int .u32 (n2 : Int)] 86))
        have HS2 := hide hS2
        have HS3 := hide hS3
        clear hS2 hS3 hb2 HS hcell
        rcases hor with ⟨rfl, hpv⟩ | ⟨rfl, hpv⟩
        · have HN := hide (HNEXT.out (by unfold isPr; rw [hpv]; rfl))
          have HPV := hide (show prI (prV ((splitOf 44 s.data.toList)[k]'(by omega))) = ((n1 : Int), (n2 : Int)) by rw [HE.out]; unfold prV; rw [hpv]; rfl)
          clear hpv HBAD HNEXT
          generalize hps : List.map (fun x => prI (prV x)) ((splitOf 44 s.data.toList).take k) = ps at HS2 HS3 HN
          have hpl : ps.length ≤ 1048576 := by rw [← hps, List.length_map, List.length_take]; omega
          clear hps
          have HS4 := hide (HS3.out.below ((Below.refl _ _).alloc (Nat.le_refl _) (.cells #[.int .u32 (n1 : Int), .int .u32 (n2 : Int)] 86)))
          have hc4 := heap_alloc_new (w2.alloc (.cells #[.int .u32 (n1 : Int), .int .u32 (n2 : Int)] 86)) (.cells #[.int .u32 (n1 : Int), .int .u32 (n2 : Int)] 86)
          rw [World.size_alloc] at hc4
          have HC0 := hide (show ((w2.alloc (.cells #[.int .u32 (n1 : Int), .int .u32 (n2 : Int)] 86)).alloc (.cells #[.int .u32 (n1 : Int), .int .u32 (n2 : Int)] 86)).cell? ⟨w2.heap.size + 1, 0, none⟩ = some (.int .u32 (n1 : Int)) by rw [cell_of_row _ _ _ _ _ _ hc4]; rfl)
          have HC1 := hide (show ((w2.alloc (.cells #[.int .u32 (n1 : Int), .int .u32 (n2 : Int)] 86)).alloc (.cells #[.int .u32 (n1 : Int), .int .u32 (n2 : Int)] 86)).cell? ⟨w2.heap.size + 1, 1, none⟩ = some (.int .u32 (n2 : Int)) by rw [cell_of_row _ _ _ _ _ _ hc4]; rfl)
          clear hc4
          go_wp2_with (first
            | (at_builtin; refine wpList_append_pair _ rfl (.tmp 29) (.tmp 31) rfl (w.heap.size + 2) u4 ps ((n1 : Int), (n2 : Int)) (w2.heap.size + 1) 1 rfl rfl ?_ ?_ ?_ hpl ?_ ?_; (exact HS4.out.ow); (exact HC0.out); (exact HC1.out); (exact HS4.out.sz); intro v7 w7 ho7 hg7; have HP7 := hide (HS4.out.push ho7 hg7); clear ho7 hg7)
            | go_in)
          exact ⟨⟨k + 1, by omega, by go_num, HN.out.1, by rw [HN.out.2, HPV.out]; exact HP7.out⟩, by simp [intOf]; omega⟩
        · have HN := hide (HBAD.out (by unfold isPr; rw [hpv]; rfl))
          have p0 := HS3.out.b0.c0
          have p1 := HS3.out.b0.c1
          have f0 := HS3.out.b0.fz 0
          have f1 := HS3.out.b0.fz 1
          clear hpv HBAD HNEXT
          go_wp2
          exact bodyPost_ret (ret_set w.heap.size _ _ _ rfl rfl ((HS3.out.b0.set0 _).set1 _)) rfl (set_no HN.out ((HS3.out.bel.setCell (p := ⟨w.heap.size, 0, none⟩) (Nat.le_refl _) _).setCell (p := ⟨w.heap.size, 1, none⟩) (Nat.le_refl _) _))
      · obtain rfl : k = ws.length := by omega
        have ht : (splitOf 44 s.data.toList).take ws.length = splitOf 44 s.data.toList := List.take_of_length_le (by omega)
        rw [ht] at hall hS
        obtain ⟨va, vc, hve⟩ := hS.ow.slice
        rw [List.length_map, hlen] at hve
        subst hve
        have HS := hide hS
        have p0 := hS.b0.c0
        have p1 := hS.b0.c1
        have f0 := hS.b0.fz 0
        have f1 := hS.b0.fz 1
        have HY := hide (setOf_good (t := s.data.toList) (by omega) hall)
        clear hS ht hall
        go_wp2
        exact bodyPost_ret (ret_set w.heap.size _ _ _ rfl rfl ((HS.out.b0.set0 _).set1 _)) rfl (set_yes HY.out (by rw [List.map_map]; exact ((HS.out.ow.other (show w.heap.size < w.heap.size + 2 by omega) _).other (show w.heap.size < w.heap.size + 2 by omega) _).mono (by omega)) ((HS.out.bel.setCell (p := ⟨w.heap.size, 0, none⟩) (Nat.le_refl _) _).setCell (p := ⟨w.heap.size, 1, none⟩) (Nat.le_refl _) _))
end Go.Proofs.YtknnpgffdbkfnaaDoor
