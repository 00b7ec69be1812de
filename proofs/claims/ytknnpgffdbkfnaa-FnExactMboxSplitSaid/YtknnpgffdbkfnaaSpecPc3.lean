import Derived.Test.YtknnpgffdbkfnaaSpecPc2
namespace Go.Proofs.Ytknnpgffdbkfnaa
open Go.RowKit
set_option maxRecDepth 20000 in
set_option maxHeartbeats 4000000 in
theorem l3Piece_good {w W : World} {lo2 : Nat} {sv v : Value} {ex nx : Nat} {xs : List Value} {vs : List S3} {ls : List (List Nat)} (SG : Spg w W lo2 sv v ex nx xs vs ls) (g c st en : Nat) (l : List Nat) (hen : en = st + l.length) (hen9 : en ≤ 1048576) (hc : l.length ≤ c) (hT : TextAt W g 0 l) (hg : g < W.heap.size) (hl : ∀ x ∈ l, x < 256) (hok : okEntry l = true) (hlr : ls.length ≤ 1048576) :
    Calls Try.prog 36 #[.pointer (some ⟨w.heap.size + 1, 0, none⟩), .slice (some ⟨g, 0, none⟩) l.length c, .int .i64 (en : Int)] W fun e w' => ∃ v3 u, e = .returned (.bool true) ∧ Spg w w' lo2 sv v3 ex nx xs (vs ++ [(st, en, u)]) (ls ++ [unquoteOf (innerOf l)]) := by
  obtain ⟨h10, hh, _, hbare⟩ := okEntry_parts hok
  have hi : ¬ (l.length : Int) ≤ 10 := by omega
  obtain ⟨m, hm⟩ : ∃ m, l.length = m + 1 := ⟨l.length - 1, by omega⟩
  have hcv := head_conv (c := c) hT (by omega)
  have hq := head_beq hl
  rw [decide_eq_true hh] at hq
  have hci : (10 : Int) ≤ (c : Int) := by omega
  obtain ⟨x, hx, hxi⟩ := last_cell hT m hm
  have hx10 : x = 10 := hxi.2 (by
    unfold okEntry at hok
    simp only [Bool.and_eq_true, decide_eq_true_eq] at hok
    exact hok.1.2.2)
  have hxb : ((x : Int) != 10) = false := by rw [hx10]; rfl
  have hin := inner_text hT
  have hil := inner_len (l := l) (by omega)
  have hbi : ∀ x ∈ innerOf l, x < 256 := fun x hx => hl x (List.mem_of_mem_drop (List.mem_of_mem_take hx))
  have SB := sbare_n g 10 (c - 10) (l.length - 1 - 10) (innerOf l) W hil (by omega) hin
  rw [hbare] at SB
  have hcl := sunq_at SG g 10 (l.length - 1 - 10) (c - 10) st en (innerOf l) hil (by omega) (by omega) hin hg hbi
  generalize unquoteOf (innerOf l) = U at hcl
  generalize strB (l.take 10) = S at hcv hq
  obtain ⟨va, vc, rfl⟩ := SG.os.slice
  have q1 := SG.b1.c1
  have HSG := hide SG
  have hsub : (en : Int) - ((m : Int) + 1) = (st : Int) := by omega
  have hst9 : (st : Int) ≤ 1048576 := by omega
  have hwr : IntKind.i64.wrap (st : Int) = (st : Int) := by rw [IntKind.wrap_i64]; omega
  have hne : ¬ c = 10 := by omega
  have hi3 : (10 : Int) ≤ (m : Int) := by omega
  have hi4 : (m : Int) ≤ (c : Int) := by omega
  have hm9 : m + 1 ≤ 1048576 := by omega
  rw [hm] at SB hcl ⊢
  rw [hm] at hi
  rw [show m + 1 - 1 = m from by omega] at SB hcl
  clear hbi hil hin hxi hok hl hT hm hh hbare SG hx10 hen h10 hc
  go_enter Try.func36, Try.ntmps36
  go_wp2_with fail
  refine SB.mono ?_
  rintro e w' ⟨rfl, rfl⟩
  have HCL := hide hcl
  clear SB hcl hcv hq hx hxb hne hi3 hi4 hi hci hm9
  go_wp2
  go_region_law (first
    | (refine step_call_sunq (.tmp 43) #[24] (by rfl) (by rfl) (.slice (some ⟨g, 10, none⟩) (m - 10) (c - 10)) (by simp [go_sem]) ?_; refine (HCL.out _ ?_ ?_ ?_ ?_).mono ?_; (exact rfl); (exact rfl); (exact rfl); (exact rfl); rintro e w2 ⟨a2, c2, rfl, hkn, ha, p1, l2⟩; have HKN := hide hkn; have HA := hide ha; clear hkn ha; refine ⟨_, rfl, ?_⟩)
    | (refine step_append_span _ (by rfl) (.tmp 37) (.tmp 46) (by rfl) lo2 (.slice va ls.length vc) vs ls st en (.slice a2 U.length c2) U w2.heap.size 1 (by simp [go_sem]) (by simp [go_sem]) ?_ ?_ ?_ ?_ ?_ ?_ ?_ ?_ ?_; (refine (HA.out _ ?_ ?_ ?_ ?_).1 <;> rfl); (refine (HA.out _ ?_ ?_ ?_ ?_).2.1 <;> rfl); (refine (HA.out _ ?_ ?_ ?_ ?_).2.2.1 <;> rfl); (refine (HA.out _ ?_ ?_ ?_ ?_).2.2.2.1 <;> rfl); (refine (HA.out _ ?_ ?_ ?_ ?_).2.2.2.2.1 <;> rfl); (exact HKN.out); (exact hlr); (refine (HA.out _ ?_ ?_ ?_ ?_).2.2.2.2.2.1 <;> rfl); intro v3 w3 ho3 hg3; have hz := sg_next HA.out hg3; obtain ⟨a3, c3, rfl⟩ := ho3.slice; have p3 := hz.b1.c0; have f3 := hz.b1.fz 0; have p4 := hz.b1.c1; have f4 := hz.b1.fz 1))
  all_goals
    have hd3 := sg_done hz HSG.out.lo HSG.out.stlt ho3
    rw [show (ls ++ [U]).length = ls.length + 1 from by simp] at hd3
    go_wp2
    go_ret
    exact ⟨_, _, rfl, hd3⟩
end Go.Proofs.Ytknnpgffdbkfnaa
