import Derived.Test.YtknnpgffdbkfnaaDoorReadForm
namespace Go.Proofs.YtknnpgffdbkfnaaDoor
open Go.RowKit
def zeroM : Array Value := #[.bool false, .int .u32 0, .int .i64 0, .int .u32 0]
def MPost (t : List UInt8) (w : World) (e : Ending) (w' : World) : Prop := ∃ (ok : Bool) (u s f : Nat), e = .returned (.agg #[.bool ok, .int .u32 (u : Int), .int .i64 (s : Int), .int .u32 (f : Int)]) ∧ AnsM t ok u s f ∧ Below w.heap.size w w'
theorem ret_mailed {fn : Func} {tmps : Array Value} {p : Tmp} (B : Nat) (W : World) (ok : Bool) (u s f : Int) (hf : fn.results = #[.cell p 24]) (hp : tmps.getD p undef = .pointer (some ⟨B, 0, none⟩)) (hb : W.heap[B]? = some (.cells #[.bool ok, .int .u32 u, .int .i64 s, .int .u32 f] 24 (0, 0))) :
    (results fn tmps).run Tryd.prog W = .ok (.agg #[.bool ok, .int .u32 u, .int .i64 s, .int .u32 f]) W :=
  results_cell_row (P := Tryd.prog) hf _ _ B _ _ _ _ hp hb Tryd.underlying24 rfl (by kernel_rfl)
theorem row4_set {w : World} {B : Nat} {c0 c1 c2 c3 : Value} (h : w.heap[B]? = some (.cells #[c0, c1, c2, c3] 24 (0, 0))) (v0 v1 v2 v3 : Value) :
    ((((w.setCell ⟨B, 0, none⟩ v0).setCell ⟨B, 1, none⟩ v1).setCell ⟨B, 2, none⟩ v2).setCell ⟨B, 3, none⟩ v3).heap[B]? = some (.cells #[v0, v1, v2, v3] 24 (0, 0)) := by
  have h0 := heap_setCell_same w B 0 _ _ v0 h
  have h1 := heap_setCell_same _ B 1 _ _ v1 h0
  have h2 := heap_setCell_same _ B 2 _ _ v2 h1
  exact heap_setCell_same _ B 3 _ _ v3 h2
/-- The result's block and the empty answer's. -/
structure Two (w W : World) : Prop where
  r2 : W.heap[w.heap.size]? = some (.cells #[.bool false, .int .u32 0, .int .i64 0, .int .u32 0] 24 (0, 0))
  r3 : W.heap[w.heap.size + 1]? = some (.cells #[.bool false, .int .u32 0, .int .i64 0, .int .u32 0] 24 (0, 0))
  bel : Below w.heap.size w W
theorem Two.below {w W W' : World} (h : Two w W) (hb : Below W.heap.size W W') : Two w W' :=
  ⟨(hb.block _ (lt_of_block h.r2)).trans h.r2, (hb.block _ (lt_of_block h.r3)).trans h.r3, h.bel.trans (hb.mono h.bel.size)⟩
theorem Two.start (w : World) : Two w ((w.alloc (.cells #[.bool false, .int .u32 0, .int .i64 0, .int .u32 0] 24)).alloc (.cells #[.bool false, .int .u32 0, .int .i64 0, .int .u32 0] 24)) := by
  have h1 := heap_alloc_new w (.cells #[.bool false, .int .u32 0, .int .i64 0, .int .u32 0] 24)
  have b1 := (Below.refl w.heap.size w).alloc (Nat.le_refl _) (.cells #[.bool false, .int .u32 0, .int .i64 0, .int .u32 0] 24)
  have hs : (w.alloc (.cells #[.bool false, .int .u32 0, .int .i64 0, .int .u32 0] 24)).heap.size = w.heap.size + 1 := by simp
  have h2 := heap_alloc_new (w.alloc (.cells #[.bool false, .int .u32 0, .int .i64 0, .int .u32 0] 24)) (.cells #[.bool false, .int .u32 0, .int .i64 0, .int .u32 0] 24)
  rw [hs] at h2
  refine ⟨?_, h2, b1.alloc b1.size _⟩
  rw [Below.heap_alloc _ _ _ (by rw [hs]; omega)]
  exact h1
theorem Two.back {w W : World} (h : Two w W) (v0 v1 v2 v3 : Value) : Below w.heap.size w ((((W.setCell ⟨w.heap.size, 0, none⟩ v0).setCell ⟨w.heap.size, 1, none⟩ v1).setCell ⟨w.heap.size, 2, none⟩ v2).setCell ⟨w.heap.size, 3, none⟩ v3) :=
  (((h.bel.setCell (p := ⟨w.heap.size, 0, none⟩) (Nat.le_refl _) _).setCell (p := ⟨w.heap.size, 1, none⟩) (Nat.le_refl _) _).setCell (p := ⟨w.heap.size, 2, none⟩) (Nat.le_refl _) _).setCell (p := ⟨w.heap.size, 3, none⟩) (Nat.le_refl _) _
theorem beq_list {a b : List UInt8} : (a == b) = decide (a = b) := by
  by_cases h : a = b
  · rw [decide_eq_true h, h]; simp
  · rw [decide_eq_false h]; exact beq_eq_false_iff_ne.2 h
theorem ext_take (s : ByteArray) (k : Nat) : (s.extract 0 k).toList = s.data.toList.take k := by
  rw [ByteArray.toList_eq, ext_list]; simp
theorem ext_drop (s : ByteArray) (k : Nat) : (s.extract k s.size).data.toList = s.data.toList.drop k := by
  rw [ext_list, List.take_of_length_le (by rw [List.length_drop, sz_list]; omega)]
theorem cell4 {W : World} {B : Nat} {c0 c1 c2 c3 : Value} (h : W.heap[B]? = some (.cells #[c0, c1, c2, c3] 24 (0, 0))) : W.cell? ⟨B, 0, none⟩ = some c0 ∧ W.cell? ⟨B, 1, none⟩ = some c1 ∧ W.cell? ⟨B, 2, none⟩ = some c2 ∧ W.cell? ⟨B, 3, none⟩ = some c3 := by
  refine ⟨?_, ?_, ?_, ?_⟩ <;> rw [cell_of_row _ _ _ _ _ _ h] <;> rfl
theorem cutIs_len {t a c : List UInt8} {b : UInt8} {ok : Bool} (h : CutIs t b a c ok) : a.length ≤ t.length ∧ c.length ≤ t.length := by
  rcases h with ⟨_, rfl, _⟩ | ⟨_, _, rfl, rfl⟩
  · simp; omega
  · simp
set_option maxRecDepth 20000 in
set_option maxHeartbeats 2000000 in
theorem specRead_any (s : ByteArray) (w : World) (hs : s.size ≤ 1048576) :
    Calls Tryd.prog 6 #[.string s] w (MPost s.data.toList w) := by
  have hsz : s.data.toList.length = s.size := rfl
  have H2 := hide (Two.start w)
  go_enter Tryd.func6, Tryd.ntmps6
  by_cases h1 : 100 < s.size
  · have hi : (100 : Int) < (s.size : Int) := by omega
    go_wp2
    exact bodyPost_ret (ret_mailed w.heap.size _ false 0 0 0 rfl rfl H2.out.r2) rfl ⟨false, 0, 0, 0, rfl, no_len (by omega), H2.out.bel⟩
  · have hi : ¬ (100 : Int) < (s.size : Int) := by omega
    by_cases h4 : s.size < 4
    · have hi4 : (s.size : Int) < 4 := by omega
      go_wp2
      exact bodyPost_ret (ret_mailed w.heap.size _ false 0 0 0 rfl rfl H2.out.r2) rfl ⟨false, 0, 0, 0, rfl, no_len (by omega), H2.out.bel⟩
    · have hi4 : ¬ (s.size : Int) < 4 := by omega
      by_cases hc : s.data.toList.take 4 = [99, 117, 114, 47]
      · have hcb : ((s.extract 0 4).toList == [99, 117, 114, 47]) = true := by rw [ext_take, hc]; rfl
        go_wp2_with fail
        have L1 := hide (ext_drop s 4)
        have z1 : (s.extract 4 s.size).size ≤ 1048576 := by rw [← sz_list, L1.out, List.length_drop]; omega
        generalize s.extract 4 s.size = s4 at L1 z1 ⊢
        generalize (w.alloc (.cells #[.bool false, .int .u32 0, .int .i64 0, .int .u32 0] 24)).alloc (.cells #[.bool false, .int .u32 0, .int .i64 0, .int .u32 0] 24) = W0 at H2 ⊢
        refine (l4Cut_any s4 58 W0 z1).mono ?_
        rintro e W1 ⟨x, y, ok, rfl, hcut, n, hW1⟩
        rw [L1.out] at hcut
        have T1 := H2.out.below (W' := W1) (by rw [hW1]; exact below_drewN (Below.refl _ _) n)
        obtain ⟨p0, p1, p2, p3⟩ := cell4 T1.r2
        obtain ⟨q0, q1, q2, q3⟩ := cell4 T1.r3
        have fz := fun j => frozen_of_row W1 w.heap.size j _ _ T1.r2
        have hlen := cutIs_len hcut
        have zx : x.size ≤ 1048576 := by rw [← sz_list]; have := hlen.1; rw [List.length_drop] at this; omega
        have zy : y.size ≤ 1048576 := by rw [← sz_list]; have := hlen.2; rw [List.length_drop] at this; omega
        clear hlen
        have HC := hide hcut
        have HT1 := hide T1
        clear hcut T1 hW1 H2 L1
        cases ok with
        | false =>
          go_wp2
          exact bodyPost_ret (ret_mailed w.heap.size _ false 0 0 0 rfl rfl (row4_set HT1.out.r2 _ _ _ _)) rfl ⟨false, 0, 0, 0, rfl, no_cut HC.out (Or.inl rfl), HT1.out.back _ _ _ _⟩
        | true =>
          by_cases hy2 : y.size < 2
          · have hy2' : (y.size : Int) < 2 := by omega
            go_wp2
            exact bodyPost_ret (ret_mailed w.heap.size _ false 0 0 0 rfl rfl (row4_set HT1.out.r2 _ _ _ _)) rfl ⟨false, 0, 0, 0, rfl, no_cut HC.out (Or.inr (Or.inl hy2)), HT1.out.back _ _ _ _⟩
          · have hy2' : ¬ (y.size : Int) < 2 := by omega
            by_cases hp : y.data.toList.take 2 = [50, 44]
            · have hpb : ((y.extract 0 2).toList == [50, 44]) = true := by rw [ext_take, hp]; rfl
              clear p0 p1 p2 p3 q0 q1 q2 q3 fz
              go_wp2_with fail
              refine (l4Cut_any x 46 W1 zx).mono ?_
              rintro e W2 ⟨x2, y2, ok2, rfl, hdot, n, hW2⟩
              have HT2 := hide (HT1.out.below (W' := W2) (by rw [hW2]; exact below_drewN (Below.refl _ _) n))
              have hlen := cutIs_len hdot
              have zx2 : x2.size ≤ 1048576 := Nat.le_trans hlen.1 zx
              have zy2 : y2.size ≤ 1048576 := Nat.le_trans hlen.2 zx
              have HD := hide hdot
              clear hW2 hlen hdot HT1
              go_wp2_with fail
              refine (l4Number_any x2 W2 zx2).mono ?_
              rintro e W3 ⟨n1, k1, rfl, hn1, hb3⟩
              have HN1 := hide hn1
              have HT3 := hide (HT2.out.below hb3)
              clear HT2 hn1 hb3
              go_wp2_with fail
              refine (l4Number_any y2 W3 zy2).mono ?_
              rintro e W4 ⟨n2, k2, rfl, hn2, hb4⟩
              have HN2 := hide hn2
              have HT4 := hide (HT3.out.below hb4)
              clear HT3 hn2 hb4
              go_wp2_with fail
              have L2 := hide (ext_drop y 2)
              have zy3 : (y.extract 2 y.size).size ≤ 1048576 := by rw [← sz_list, L2.out, List.length_drop, sz_list]; omega
              generalize y.extract 2 y.size = y3 at L2 zy3 ⊢
              refine (specLetterFlags_any y3 W4 zy3).mono ?_
              rintro e W5 ⟨fok, f, rfl, hlet, hb5⟩
              have HT5 := HT4.out.below hb5
              have T6 := HT5.below ((Below.refl _ _).alloc (Nat.le_refl _) (.cells #[.bool fok, .int .u32 (f : Int)] 32))
              have hlet' : AnsIs ((y.data.toList.drop 2).map UInt8.toNat) fok f := by rw [← L2.out]; exact hlet
              have CH := hide (Chain.mk HC.out HD.out HN1.out HN2.out hlet')
              have hf32 : f < 4294967296 := by
                rcases hlet with ⟨_, is, hg, _, rfl⟩ | ⟨_, rfl, _⟩
                · exact orB_lt hg
                · decide
              have hx6 := heap_alloc_new W5 (.cells #[.bool fok, .int .u32 (f : Int)] 32)
              have e0 : (W5.alloc (.cells #[.bool fok, .int .u32 (f : Int)] 32)).cell? ⟨W5.heap.size, 0, none⟩ = some (.bool fok) := by rw [cell_of_row _ _ _ _ _ _ hx6]; rfl
              have e1 : (W5.alloc (.cells #[.bool fok, .int .u32 (f : Int)] 32)).cell? ⟨W5.heap.size, 1, none⟩ = some (.int .u32 (f : Int)) := by rw [cell_of_row _ _ _ _ _ _ hx6]; rfl
              obtain ⟨p0, p1, p2, p3⟩ := cell4 T6.r2
              obtain ⟨q0, q1, q2, q3⟩ := cell4 T6.r3
              have fz := fun j => frozen_of_row _ w.heap.size j _ _ T6.r2
              have HT6 := hide T6
              clear hb5 HT4 HT5 hlet hlet' HC HD HN1 HN2 L2 T6 hx6
              by_cases hg : ok2 = true ∧ k1 = true ∧ k2 = true ∧ fok = true ∧ 1 ≤ n1 ∧ n1 ≤ 4294967295
              · obtain ⟨rfl, rfl, rfl, rfl, g1, g2⟩ := hg
                have g1' : ¬ (n1 : Int) < 1 := by omega
                have g2' : ¬ (4294967295 : Int) < (n1 : Int) := by omega
                clear p0 p1 p2 p3 q0 q1 q2 q3 fz
                go_wp2_with fail
                have hs6 : (W5.alloc (.cells #[.bool true, .int .u32 (f : Int)] 32)).heap.size = W5.heap.size + 1 := by simp
                have hx7 := heap_alloc_new (W5.alloc (.cells #[.bool true, .int .u32 (f : Int)] 32)) (.cells #[.bool true, .int .u32 (n1 : Int), .int .i64 (n2 : Int), .int .u32 (f : Int)] 24)
                rw [hs6] at hx7
                have T7 := HT6.out.below ((Below.refl _ _).alloc (Nat.le_refl _) (.cells #[.bool true, .int .u32 (n1 : Int), .int .i64 (n2 : Int), .int .u32 (f : Int)] 24))
                clear e0 e1 HT6 hs6
                generalize (W5.alloc (.cells #[.bool true, .int .u32 (f : Int)] 32)).alloc (.cells #[.bool true, .int .u32 (n1 : Int), .int .i64 (n2 : Int), .int .u32 (f : Int)] 24) = W7 at hx7 T7 ⊢
                refine (specName_any n1 (n2 : Int) f W7 (by omega) hf32).mono ?_
                rintro e W8 ⟨rfl, hb8⟩
                have T8 := T7.below hb8
                have hx8 := (hb8.block _ (lt_of_block hx7)).trans hx7
                obtain ⟨p0, p1, p2, p3⟩ := cell4 T8.r2
                obtain ⟨q0, q1, q2, q3⟩ := cell4 T8.r3
                obtain ⟨o0, o1, o2, o3⟩ := cell4 hx8
                have fz := fun j => frozen_of_row _ w.heap.size j _ _ T8.r2
                have HT8 := hide T8
                have hq : ((nameOf n1 (n2 : Int) f).toList == s.toList) = decide ((nameOf n1 (n2 : Int) f).data.toList = s.data.toList) := by rw [ByteArray.toList_eq, ByteArray.toList_eq, beq_list]
                clear T7 T8 hx7 hx8 hb8
                by_cases he : (nameOf n1 (n2 : Int) f).data.toList = s.data.toList
                · have HY := hide (chain_yes CH.out g1 g2 (by omega) he)
                  rw [decide_eq_true he] at hq
                  clear he CH
                  generalize nameOf n1 (n2 : Int) f = z at hq ⊢
                  go_wp2
                  exact bodyPost_ret (ret_mailed w.heap.size _ true n1 n2 f rfl rfl (row4_set HT8.out.r2 _ _ _ _)) rfl ⟨true, n1, n2, f, rfl, HY.out, HT8.out.back _ _ _ _⟩
                · have HY := hide (chain_no CH.out (Or.inr (Or.inr (Or.inr (Or.inr (Or.inr (Or.inr he)))))))
                  rw [decide_eq_false he] at hq
                  clear he CH
                  generalize nameOf n1 (n2 : Int) f = z at hq ⊢
                  go_wp2
                  exact bodyPost_ret (ret_mailed w.heap.size _ false 0 0 0 rfl rfl (row4_set HT8.out.r2 _ _ _ _)) rfl ⟨false, 0, 0, 0, rfl, HY.out, HT8.out.back _ _ _ _⟩
              · have hno : ok2 = false ∨ k1 = false ∨ k2 = false ∨ fok = false ∨ n1 < 1 ∨ 4294967295 < n1 := by
                  cases ok2 <;> cases k1 <;> cases k2 <;> cases fok <;> simp at hg ⊢ <;> omega
                have HA := hide (chain_no CH.out (by
                  rcases hno with h | h | h | h | h | h
                  · exact Or.inl h
                  · exact Or.inr (Or.inl h)
                  · exact Or.inr (Or.inr (Or.inl h))
                  · exact Or.inr (Or.inr (Or.inr (Or.inl h)))
                  · exact Or.inr (Or.inr (Or.inr (Or.inr (Or.inl h))))
                  · exact Or.inr (Or.inr (Or.inr (Or.inr (Or.inr (Or.inl h)))))))
                clear hno CH
                cases ok2 with
                | false =>
                  go_wp2
                  exact bodyPost_ret (ret_mailed w.heap.size _ false 0 0 0 rfl rfl (row4_set HT6.out.r2 _ _ _ _)) rfl ⟨false, 0, 0, 0, rfl, HA.out, HT6.out.back _ _ _ _⟩
                | true =>
                  cases k1 with
                  | false =>
                    go_wp2
                    exact bodyPost_ret (ret_mailed w.heap.size _ false 0 0 0 rfl rfl (row4_set HT6.out.r2 _ _ _ _)) rfl ⟨false, 0, 0, 0, rfl, HA.out, HT6.out.back _ _ _ _⟩
                  | true =>
                    cases k2 with
                    | false =>
                      go_wp2
                      exact bodyPost_ret (ret_mailed w.heap.size _ false 0 0 0 rfl rfl (row4_set HT6.out.r2 _ _ _ _)) rfl ⟨false, 0, 0, 0, rfl, HA.out, HT6.out.back _ _ _ _⟩
                    | true =>
                      cases fok with
                      | false =>
                        go_wp2
                        exact bodyPost_ret (ret_mailed w.heap.size _ false 0 0 0 rfl rfl (row4_set HT6.out.r2 _ _ _ _)) rfl ⟨false, 0, 0, 0, rfl, HA.out, HT6.out.back _ _ _ _⟩
                      | true =>
                        by_cases g1 : n1 < 1
                        · have g1' : (n1 : Int) < 1 := by omega
                          go_wp2
                          exact bodyPost_ret (ret_mailed w.heap.size _ false 0 0 0 rfl rfl (row4_set HT6.out.r2 _ _ _ _)) rfl ⟨false, 0, 0, 0, rfl, HA.out, HT6.out.back _ _ _ _⟩
                        · have g1' : ¬ (n1 : Int) < 1 := by omega
                          have g2' : (4294967295 : Int) < (n1 : Int) := by simp at hg; omega
                          go_wp2
                          exact bodyPost_ret (ret_mailed w.heap.size _ false 0 0 0 rfl rfl (row4_set HT6.out.r2 _ _ _ _)) rfl ⟨false, 0, 0, 0, rfl, HA.out, HT6.out.back _ _ _ _⟩
            · have hpb : ((y.extract 0 2).toList == [50, 44]) = false := by rw [ext_take]; exact beq_eq_false_iff_ne.2 hp
              go_wp2
              exact bodyPost_ret (ret_mailed w.heap.size _ false 0 0 0 rfl rfl (row4_set HT1.out.r2 _ _ _ _)) rfl ⟨false, 0, 0, 0, rfl, no_cut HC.out (Or.inr (Or.inr hp)), HT1.out.back _ _ _ _⟩
      · have hcb : ((s.extract 0 4).toList == [99, 117, 114, 47]) = false := by rw [ext_take]; exact beq_eq_false_iff_ne.2 hc
        go_wp2
        exact bodyPost_ret (ret_mailed w.heap.size _ false 0 0 0 rfl rfl H2.out.r2) rfl ⟨false, 0, 0, 0, rfl, no_len (Or.inr (Or.inr hc)), H2.out.bel⟩
end Go.Proofs.YtknnpgffdbkfnaaDoor
