import Derived.Test.YtokcdpamcbpaiabDrawRecs
namespace Go.Proofs.Ytokcdpamcbpaiab
open Go.RowKit
/-- make of n bytes, n reckoned. -/
theorem wpList_make_eq {ops : Array Oper} {rest : List Oper} {o : Oper} {act : Act} {Q : Exit → Act → World → Prop} (w : World) (hgd : o.guard = none) (s x : Operand)
    (ho : o.op = Op.makeSlice 22 s x) (n : Nat) (C : Int) (hs : act.eval s = .int .i64 C) (hx : act.eval x = .int .i64 C) (hC : C = (n : Int)) (hlen : n ≤ 1099511627776)
    (h : ∀ w', OwnB w' w.heap.size (.slice (some ⟨w.heap.size, 0, none⟩) n n) (List.replicate n 0) → Below w.heap.size w w' → wpList Try.prog ops Q rest (act.put o.dst (.slice (some ⟨w.heap.size, 0, none⟩) n n)) w') : wpList Try.prog ops Q (o :: rest) act w := by
  subst hC
  exact wpList_make_bytes w hgd s x ho n hs hx hlen h
/-- What the append of a row of zeros asks and leaves. -/
theorem zero_arm {w0 w w4 : World} {lo n : Nat} {v : Value} {vs : List Value} {rs : List (List Nat)} (kv : OwnBV w lo v vs rs) (hlo : lo ≤ w.heap.size) (ho : OwnB w4 w.heap.size (.slice (some ⟨w.heap.size, 0, none⟩) n n) (List.replicate n 0)) (hb : Below w.heap.size w w4) (hw : Below w0.heap.size w0 w) (hw0 : w0.heap.size ≤ lo) :
    (OwnBV (w4.alloc (.cells #[.slice (some ⟨w.heap.size, 0, none⟩) n n] 22)) lo v vs rs ∧ (w4.alloc (.cells #[.slice (some ⟨w.heap.size, 0, none⟩) n n] 22)).cell? ⟨w4.heap.size, 0, none⟩ = some (.slice (some ⟨w.heap.size, 0, none⟩) n n) ∧ OwnB (w4.alloc (.cells #[.slice (some ⟨w.heap.size, 0, none⟩) n n] 22)) lo (.slice (some ⟨w.heap.size, 0, none⟩) n n) (List.replicate n 0)) ∧
      (∀ z ∈ vs, z.ownBlock = none ∨ z.ownBlock ≠ (Value.slice (some ⟨w.heap.size, 0, none⟩) n n).ownBlock) ∧ lo ≤ (w4.alloc (.cells #[.slice (some ⟨w.heap.size, 0, none⟩) n n] 22)).heap.size ∧
      ∀ w5, (w4.alloc (.cells #[.slice (some ⟨w.heap.size, 0, none⟩) n n] 22)).grownBy w5 v.ownBlock → Below w0.heap.size w0 w5 ∧ lo ≤ w5.heap.size := by
  have hs := hb.size
  have hs0 := hw.size
  refine ⟨row_arm (kv.below hb (Nat.le_refl _)) (ho.mono hlo), kv.ne_new ho, by simp; omega, fun w5 hg => ⟨?_, ?_⟩⟩
  · exact ((hw.trans (hb.mono hs0)).alloc (by omega) _).grown hg (by simp; omega) (fun k h => Nat.le_trans hw0 (kv.lt_all k h))
  · have := hg.size
    simp at this
    omega
set_option maxRecDepth 20000 in
set_option maxHeartbeats 1000000 in
theorem drawFrame_any (a : Option Addr) (cap : Nat) (code : List Nat) (w : World) (hl : code.length ≤ 1048576) (hr : RowAt w a code) (hb : ∀ x ∈ code, x < 256) :
    Calls Try.prog 19 #[.slice a code.length cap] w fun e w' => ∃ v vs, e = .returned v ∧ OwnBV w' w.heap.size v vs (drawOf code) ∧ Below w.heap.size w w' := by
  have hrd0 : Rd (w.alloc (.cells #[.slice a code.length cap, .int .i64 0] 49)) w.heap.size (.slice a code.length cap) code 0 := by
    have h := heap_alloc_new w (.cells #[.slice a code.length cap, .int .i64 0] 49)
    unfold Rd
    rw [h]
    simp
  have hb0 : Below w.heap.size w (w.alloc (.cells #[.slice a code.length cap, .int .i64 0] 49)) := (Below.refl _ _).alloc (Nat.le_refl _) _
  have hD : drawOf code = recsGo code (nx code 1 % 9) 2 ++ (if nx code 0 % 20 = 0 then [[]] else if nx code 0 % 20 = 1 then [List.replicate (2000 + nx code 0 / 20 % 2) 0] else if nx code 0 % 20 = 2 then List.replicate 19 (List.replicate 2000 0) ++ [List.replicate (1880 + nx code 0 / 20) 0] else []) := rfl
  generalize drawOf code = total at hD ⊢
  have HD := hide hD
  clear hD
  have hx := nx_lt hb 0
  go_enter Try.func19, Try.ntmps19
  go_wp2_with fail
  generalize w.alloc (.cells #[.slice a code.length cap, .int .i64 0] 49) = W1 at hrd0 hb0 ⊢
  refine (next_any w.heap.size a cap code 0 W1 hl (hr.below hb0) hb hrd0).mono ?_
  rintro e w2 ⟨rfl, hrd2, hg2, -⟩
  have hs1 := hb0.size
  have hb2 : Below w.heap.size w w2 := hb0.grown hg2 hs1 (fun k h => by simp at h; omega)
  have hs2 := hg2.size
  have hs12 := hrd0.lt
  generalize nx code 0 = c at hx HD ⊢
  go_wp2_with fail
  refine (l2Records_any w.heap.size a cap code 1 w w2 hl hr hb2 (Nat.le_refl _) hb hrd2).mono ?_
  rintro e w3 ⟨v3, vs3, rfl, ho3, hg3⟩
  have hb3 : Below w.heap.size w w3 := hb2.grown hg3 (by omega) (fun k h => by simp at h; omega)
  have hs3 := hg3.size
  have hrl := recsGo_length code (nx code 1 % 9) 2
  have hr9 : nx code 1 % 9 < 9 := Nat.mod_lt _ (by decide)
  have hrl2 : (recsGo code (nx code 1 % 9) 2).length ≤ 9 := by omega
  have ho3' : OwnBV w3 w2.heap.size v3 vs3 (recsGo code (nx code 1 % 9) 2) := ho3
  clear ho3 hrl hr9 hg3 hrd2 hg2 hrd0 hb0
  generalize recsGo code (nx code 1 % 9) 2 = rs at ho3' HD hrl2
  obtain ⟨a3, c3, rfl⟩ := ho3'.slice
  have hw2 : w.heap.size ≤ w2.heap.size := by omega
  by_cases k0 : c % 20 = 0
  · have ht := unhide HD
    rw [if_pos k0] at ht
    have HT := hide ht
    clear ht HD
    have e0 : ((c : Int) % 20 == 0) = true := by simp; omega
    have HA := hide (row_arm (e := 22) ho3' (OwnB.nil w3 w2.heap.size))
    have HNE : Hid (∀ y ∈ vs3, y.ownBlock = none ∨ y.ownBlock ≠ (Value.slice none 0 0).ownBlock) := by
      intro y _
      cases hy : y.ownBlock with
      | none => exact .inl rfl
      | some g => exact .inr (by simp [Value.ownBlock])
    have HB := hide ho3'
    clear ho3'
    go_wp2_with (at_builtin; refine wpList_append_row _ rfl _ _ rfl w2.heap.size (.slice a3 rs.length c3) vs3 rs (.slice none 0 0) [] w3.heap.size 1 rfl rfl (unhide HA).1 (unhide HA).2.1 (unhide HA).2.2 (unhide HNE) (by omega) (by simp; omega) ?_; intro v5 w5 ho5 hg5)
    go_ret
    exact ⟨_, _, rfl, by rw [unhide HT]; exact ho5.mono hw2, (hb3.alloc (by omega) _).grown hg5 (by simp; omega) (fun k h => Nat.le_trans hw2 ((unhide HB).lt_all k h))⟩
  by_cases k1 : c % 20 = 1
  · have ht := unhide HD
    rw [if_neg k0, if_pos k1] at ht
    have HT := hide ht
    clear ht HD
    have e0 : ((c : Int) % 20 == 0) = false := by simp; omega
    have e1 : ((c : Int) % 20 == 1) = true := by simp; omega
    have hN : 2000 + c / 20 % 2 ≤ 1099511627776 := by omega
    have hE : (2000 : Int) + (c : Int) / 20 % 2 = ((2000 + c / 20 % 2 : Nat) : Int) := by omega
    have HE := hide hE
    clear hE
    generalize 2000 + c / 20 % 2 = N at hN HE HT
    go_wp2_with (first
      | (at_make; refine wpList_make_eq _ rfl _ _ rfl N _ rfl rfl (unhide HE) hN ?_; intro w4 ho4 hb4; have HZ := hide (zero_arm (w0 := w) ho3' hs3 ho4 hb4 hb3 hw2); clear ho4 hb4)
      | (at_builtin; refine wpList_append_row _ rfl _ _ rfl w2.heap.size (.slice a3 rs.length c3) vs3 rs (.slice (some ⟨w3.heap.size, 0, none⟩) N N) (List.replicate N 0) w4.heap.size 1 rfl rfl (unhide HZ).1.1 (unhide HZ).1.2.1 (unhide HZ).1.2.2 (unhide HZ).2.1 (by omega) (unhide HZ).2.2.1 ?_; intro v5 w5 ho5 hg5))
    go_ret
    exact ⟨_, _, rfl, by rw [unhide HT]; exact ho5.mono hw2, ((unhide HZ).2.2.2 w5 hg5).1⟩
  by_cases k2 : c % 20 = 2
  · have ht := unhide HD
    rw [if_neg k0, if_neg k1, if_pos k2, ← List.append_assoc] at ht
    have HT := hide ht
    clear ht HD
    have e0 : ((c : Int) % 20 == 0) = false := by simp; omega
    have e1 : ((c : Int) % 20 == 1) = false := by simp; omega
    have e2 : ((c : Int) % 20 == 2) = true := by simp; omega
    have hM : 1880 + c / 20 ≤ 1099511627776 := by omega
    have HM : Hid ((1880 : Int) + (c : Int) / 20 = ((1880 + c / 20 : Nat) : Int)) := by show _ = _; omega
    generalize 1880 + c / 20 = M at hM HM HT
    have HN : Hid ((2000 : Int) = ((2000 : Nat) : Int)) := rfl
    have hN : 2000 ≤ 1099511627776 := by omega
    generalize (2000 : Nat) = N at HN hN HT
    go_wp2
    go_loopw [5, 6] (fun v k wr => ∃ (m : Nat) (vs : List Value), m ≤ 19 ∧ k = .int .i64 (m : Int) ∧ OwnBV wr w2.heap.size v vs (rs ++ List.replicate m (List.replicate N 0)) ∧ Below w.heap.size w wr ∧ w2.heap.size ≤ wr.heap.size) (fun _ k _ => 19 - (intOf k).toNat)
    case atStart => exact ⟨0, vs3, by omega, rfl, by simpa using ho3', hb3, hs3⟩
    case round =>
      obtain ⟨m, vs, hm, rfl, hov, hnx, hsr⟩ := hrel
      clear ho3' hb3 hs3
      obtain ⟨av, cv, rfl⟩ := hov.slice
      have hlen : (rs ++ List.replicate m (List.replicate N 0)).length ≤ 1048576 := by rw [List.length_append, List.length_replicate]; omega
      by_cases hlt : m < 19
      · have hsucc : (rs ++ List.replicate m (List.replicate N 0)) ++ [List.replicate N 0] = rs ++ List.replicate (m + 1) (List.replicate N 0) := by rw [List.replicate_succ', List.append_assoc]
        have HS := hide hsucc
        clear hsucc
        generalize rs ++ List.replicate m (List.replicate N 0) = cur at hov hlen HS ⊢
        go_wp2_with (first
          | (at_make; refine wpList_make_eq _ rfl _ _ rfl N _ rfl rfl (unhide HN) hN ?_; intro w4 ho4 hb4; have HZ := hide (zero_arm (w0 := w) hov hsr ho4 hb4 hnx hw2); clear ho4 hb4)
          | (at_builtin; refine wpList_append_row _ rfl _ _ rfl w2.heap.size (.slice av cur.length cv) vs cur (.slice (some ⟨wr.heap.size, 0, none⟩) N N) (List.replicate N 0) w4.heap.size 1 rfl rfl (unhide HZ).1.1 (unhide HZ).1.2.1 (unhide HZ).1.2.2 (unhide HZ).2.1 hlen (unhide HZ).2.2.1 ?_; intro v5 w5 ho5 hg5))
        rw [unhide HS] at ho5
        have hz := (unhide HZ).2.2.2 w5 hg5
        go_roundw
        case rel => exact ⟨m + 1, _, by omega, by go_num, ho5, hz.1, hz.2⟩
        case measure => first | (simp [intOf]; done) | (simp [intOf]; omega)
      · obtain rfl : m = 19 := by omega
        generalize rs ++ List.replicate 19 (List.replicate N 0) = cur at hov hlen HT
        go_wp2_with (first
          | (at_make; refine wpList_make_eq _ rfl _ _ rfl M _ rfl rfl (unhide HM) hM ?_; intro w4 ho4 hb4; have HZ := hide (zero_arm (w0 := w) hov hsr ho4 hb4 hnx hw2); clear ho4 hb4)
          | (at_builtin; refine wpList_append_row _ rfl _ _ rfl w2.heap.size (.slice av cur.length cv) vs cur (.slice (some ⟨wr.heap.size, 0, none⟩) M M) (List.replicate M 0) w4.heap.size 1 rfl rfl (unhide HZ).1.1 (unhide HZ).1.2.1 (unhide HZ).1.2.2 (unhide HZ).2.1 hlen (unhide HZ).2.2.1 ?_; intro v5 w5 ho5 hg5))
        go_ret
        exact ⟨_, _, rfl, by rw [unhide HT]; exact ho5.mono hw2, ((unhide HZ).2.2.2 w5 hg5).1⟩
  · have ht := unhide HD
    rw [if_neg k0, if_neg k1, if_neg k2, List.append_nil] at ht
    have HT := hide ht
    clear ht HD
    have e0 : ((c : Int) % 20 == 0) = false := by simp; omega
    have e1 : ((c : Int) % 20 == 1) = false := by simp; omega
    have e2 : ((c : Int) % 20 == 2) = false := by simp; omega
    go_wp2
    go_ret
    exact ⟨_, vs3, rfl, by rw [unhide HT]; exact ho3'.mono hw2, hb3⟩
end Go.Proofs.Ytokcdpamcbpaiab
