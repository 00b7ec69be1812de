import Derived.Test.YtokcdpamcbpaiabDrawFrame
import Derived.Test.YtokcdpamcbpaiabSame
import Derived.Test.YtokcdpamcbpaiabLogsMath
import Derived.Test.YtokcdpamcbpaiabImplFrame
import Derived.Test.YtokcdpamcbpaiabImplUnf2
namespace Go.Proofs.Ytokcdpamcbpaiab
open Go.RowKit
theorem implUnf (n b off cap : Nat) (d : List Nat) (hn : n = d.length) (w : World) (hcap : d.length ≤ cap) (hcm : cap ≤ 9223372036854775807) (hr : RowAt w (some ⟨b, off, none⟩) d) (hb : ∀ x ∈ d, x < 256) :
    Calls Try.prog 22 #[.slice (some ⟨b, off, none⟩) n cap] w fun e w' => ∃ a c vs, e = .returned (.agg #[.slice a (unfOf d).1.length c, .int .i64 ((unfOf d).2 : Int)]) ∧ OwnBV w' w.heap.size (.slice a (unfOf d).1.length c) vs (unfOf d).1 ∧ Below w.heap.size w w' := by
  subst hn
  have h : Calls Try.prog 22 #[.slice (some ⟨b, off, none⟩) d.length cap] w fun e w' => ∃ v, e = .returned v ∧ LogOf w' w.heap.size v (unfOf d) ∧ Below w.heap.size w w' := by
    by_cases hl : 40000 < d.length
    · exact implUnframe_long b off cap d w hl
    · exact implUnframe_any b off cap d w (by omega) hcap hcm hr hb
  refine h.mono ?_
  rintro e w' ⟨v, rfl, ⟨vr, vs, rfl, ho⟩, hb'⟩
  obtain ⟨a, c, rfl⟩ := ho.slice
  exact ⟨a, c, vs, rfl, ho, hb'⟩
theorem below_more {w w1 w2 : World} (h : Below w.heap.size w w1) (k : Below w1.heap.size w1 w2) : Below w.heap.size w w2 := h.trans (k.mono h.size)
theorem drewn_below {w w1 : World} {n : Nat} (h : w1 = w.drewN n) : Below w.heap.size w w1 := by rw [h]; exact below_drewN (Below.refl _ _) n
theorem blk2_new (w : World) (x y : Value) : Blk2 (w.alloc (.cells #[x, y] 38)) w.heap.size x y := heap_alloc_new w _
theorem below_new (w : World) (o : Obj) : Below w.heap.size w (w.alloc o) := (Below.refl _ _).alloc (Nat.le_refl _) _
theorem own_some {w : World} {base : Nat} {a : Option Addr} {cap : Nat} {l : List Nat} (h : OwnB w base (.slice a l.length cap) l) (hp : 0 < l.length) : ∃ g, a = some ⟨g, 0, none⟩ ∧ l.length ≤ cap ∧ cap ≤ maxLen := by
  rcases h.2 with ⟨_, hn⟩ | ⟨g, cap', cur, h', _, _, h1, h2, _⟩
  · omega
  · simp only [Value.slice.injEq, true_and] at h'
    obtain ⟨rfl, rfl⟩ := h'
    exact ⟨g, rfl, h1, h2⟩
theorem ownBV_some {w : World} {base : Nat} {a : Option Addr} {cap : Nat} {vs : List Value} {ls : List (List Nat)} (h : OwnBV w base (.slice a ls.length cap) vs ls) (hp : 0 < ls.length) : ∃ g, a = some ⟨g, 0, none⟩ ∧ ls.length ≤ cap := by
  rcases h.1.2 with ⟨_, hn⟩ | ⟨g, cap', cur, h', _, _, h1, h2, _⟩
  · omega
  · simp only [Value.slice.injEq, true_and] at h'
    obtain ⟨rfl, rfl⟩ := h'
    exact ⟨g, rfl, h1⟩
theorem RowsAt.at {w : World} {b off : Nat} {ls : List (List Nat)} (h : RowsAt w (some ⟨b, off, none⟩) ls) (i : Nat) (hi : i < ls.length) : ∃ ai ci, w.cell? ⟨b, off + i, none⟩ = some (.slice ai ls[i].length ci) := by
  obtain ⟨b', off', e, hc⟩ := h (by omega)
  simp only [Option.some.injEq, Addr.mk.injEq, and_true] at e
  obtain ⟨rfl, rfl⟩ := e
  obtain ⟨ai, ci, h1, _⟩ := hc i hi
  exact ⟨ai, ci, h1⟩
theorem RowsAt.take {w : World} {a : Option Addr} {ls : List (List Nat)} (h : RowsAt w a ls) (n : Nat) : RowsAt w a (ls.take n) := fun hp => by
  simp at hp
  obtain ⟨b, off, rfl, hc⟩ := h (by omega)
  refine ⟨b, off, rfl, fun i hi => ?_⟩
  simp at hi
  obtain ⟨ai, ci, h1, h2⟩ := hc i (by omega)
  exact ⟨ai, ci, by simpa using h1, by simpa using h2⟩
set_option maxHeartbeats 8000000 in
theorem logs_small (a0 : Option Addr) (cap0 : Nat) (d : List Nat) (w : World) (hd : d.length ≤ 1048576) (hr : RowAt w a0 d) (hb : ∀ x ∈ d, x < 256) :
    Calls Try.prog 6 #[.slice a0 d.length cap0] w fun e w' => e = .returned (.bool true) ∧ Below w.heap.size w w' := by
  have hok := drawOf_ok hb
  have DF := hide (fun w hr => drawFrame_any a0 cap0 d w hd hr hb)
  generalize drawOf d = ls at hok DF
  obtain ⟨hl100, hlsok⟩ := hok
  have hl6 : ls.length ≤ 1048576 := by omega
  have hls6 : ∀ l ∈ ls, l.length ≤ 1048576 := fun l h => by have := (hlsok l h).1; omega
  have hlb : ∀ l ∈ ls, ∀ x ∈ l, x < 256 := fun l h => (hlsok l h).2
  have hfl := frameOf_len ls
  have hfb := frameOf_lt ls hlb
  have hdec : decide ((1048576 : Int) < (d.length : Int)) = false := by simp; omega
  go_enter Try.func6, Try.ntmps6
  go_wp2_with fail
  refine (unhide DF w hr).mono ?_
  rintro e w1 ⟨v1, vs1, rfl, ho1, hb1⟩
  obtain ⟨a1, c1, rfl⟩ := ho1.slice
  go_wp2_with fail
  refine (implFrame_any a1 c1 ls w1 hl6 hls6 (OwnBB.rows ⟨vs1, ho1⟩) hlb).mono ?_
  rintro e w2 ⟨v2, rfl, ho2, hb2⟩
  obtain ⟨a2, c2, rfl⟩ := ho2.slice
  have hw2 := below_more hb1 hb2
  go_wp2_with fail
  refine (unhide DF w2 (hr.below hw2)).mono ?_
  rintro e w3 ⟨v3, vs3, rfl, ho3, hb3⟩
  obtain ⟨a3, c3, rfl⟩ := ho3.slice
  go_wp2_with fail
  refine (specFrame_any a3 c3 ls w3 hl6 hls6 (OwnBB.rows ⟨vs3, ho3⟩) hlb).mono ?_
  rintro e w4 ⟨v4, rfl, ho4, hb4⟩
  obtain ⟨a4, c4, rfl⟩ := ho4.slice
  have hb34 := below_more hb3 hb4
  have hw4 := below_more hw2 hb34
  by_cases h0 : (frameOf ls).length = 0
  · have e0 : (((frameOf ls).length : Int) == 0) = true := by simp; exact List.eq_nil_of_length_eq_zero h0
    clear h0
    go_wp2
    go_ret
    exact ⟨rfl, hw4⟩
  · have e0 : (((frameOf ls).length : Int) == 0) = false := by simp; exact fun h => h0 (by rw [h]; rfl)
    have hpos : 0 < (frameOf ls).length := by omega
    have hsome : ∃ r, frameGo [] ls = some r ∧ frameOf ls = r := by
      unfold frameOf at hpos ⊢
      cases hg : frameGo [] ls with
      | none => rw [hg] at hpos; simp at hpos
      | some r => exact ⟨r, rfl, rfl⟩
    obtain ⟨L, hg, hL⟩ := hsome
    obtain ⟨hcat, ok⟩ := frameGo_some hg
    rw [List.nil_append] at hcat
    rw [hL] at ho2 ho4 hfl hfb hpos e0 ⊢
    clear hg hL h0
    obtain ⟨g2, rfl, hc2, hcm2⟩ := own_some ho2 hpos
    have hlpos : 0 < ls.length := by
      rcases Nat.eq_zero_or_pos ls.length with h | h
      · rw [List.eq_nil_of_length_eq_zero h] at hcat
        rw [hcat] at hpos
        simp [cat] at hpos
      · exact h
    obtain ⟨g1, rfl, hc1⟩ := ownBV_some ho1 hlpos
    have hLe : L.length = endsum ls := by rw [hcat]; exact cat_length ls
    have HLE := hide hLe
    have HCAT := hide hcat
    have HOK := hide ok
    clear hLe hcat ok
    have hcm2' : c2 ≤ 9223372036854775807 := by unfold maxLen at hcm2; exact hcm2
    clear hcm2
    have hs24 : w2.heap.size ≤ w4.heap.size := hb34.size
    go_wp2
    go_loopw [5, 6, 7] (fun e k n wr => ∃ N K : Nat, N ≤ L.length + 1 ∧ K ≤ ls.length ∧ n = .int .i64 (N : Int) ∧ k = .int .i64 (K : Int) ∧ e = .int .i64 ((endsum (ls.take K) : Nat) : Int) ∧ endsum (ls.take K) ≤ N ∧ (K < ls.length → N ≤ endsum (ls.take (K + 1))) ∧ Below w4.heap.size w4 wr) (fun _ _ n _ => L.length + 1 - (intOf n).toNat)
    case atStart => exact ⟨0, 0, by omega, by omega, rfl, rfl, val_int (by simp [endsum]), by simp [endsum], fun _ => Nat.zero_le _, Below.refl _ _⟩
    case round =>
      obtain ⟨N, K, hN, hK, rfl, rfl, rfl, hE, hE2, hnx⟩ := hrel
      have hwr := below_more hw4 hnx
      have b2r := below_more hb34 hnx
      have HE2 := hide hE2
      clear hE2
      by_cases hlt : N ≤ L.length
      · skip
        have rL : RowAt wr (some ⟨g2, 0, none⟩) L := (ho2.below b2r (Nat.le_refl _)).row
        have b1r := below_more hb2 b2r
        have HLT : Hid ((L.take N).length = N) := by show _ = _; rw [List.length_take]; omega
        have zN : (N : Int) ≤ (c2 : Int) := by omega
        have zL : (N : Int) ≤ (L.length : Int) := by omega
        by_cases hKl : K < ls.length
        · obtain ⟨ak, ck, hck⟩ := RowsAt.at (OwnBB.rows ⟨vs1, ho1⟩ |>.below b1r) K hKl
          rw [Nat.zero_add] at hck
          have hes := endsum_succ ls K hKl
          have hle1 := unhide HE2 hKl
          have hpos1 := (unhide HOK _ (List.getElem_mem hKl)).1
          have hlk2 := (unhide HOK _ (List.getElem_mem hKl)).2
          have zK : (K : Int) < (ls.length : Int) := by omega
          generalize hEE : endsum (ls.take K) = E at hE hes ⊢
          generalize hlk : ls[K].length = lk at hck hes hpos1 hlk2
          by_cases hNe : N = E + 6 + lk
          · have ht : ((N : Int) == (E : Int) + 6 + (lk : Int)) = true := by simp; omega
            have HLTN : K + 1 < ls.length → N < endsum (ls.take (K + 1 + 1)) := fun h => by
              have h7 := endsum_succ ls (K + 1) h
              omega
            have HEX : Hid (endsum (ls.take (K + 1)) = N) := by show _ = _; omega
            have HU : Hid (unfOf (L.take N) = (ls.take (K + 1), N)) := by
              show _ = _
              have h := unf_prefix ls (unhide HOK) N (K + 1) (by omega) (by omega) (by rw [unhide HEX]; omega) (by have := unhide HLE; omega) HLTN
              rw [unhide HEX] at h
              rw [unhide HCAT]
              exact h
            have HNX : Hid (K + 1 < ls.length → N + 1 ≤ endsum (ls.take (K + 1 + 1))) := fun h => HLTN h
            have HTL : Hid ((ls.take (K + 1)).length = K + 1) := by show _ = _; rw [List.length_take]; omega
            have hT6 : (ls.take (K + 1)).length ≤ 1048576 := by rw [List.length_take]; omega
            have rT : RowsAt wr (some ⟨g1, 0, none⟩) (ls.take (K + 1)) := (OwnBB.rows ⟨vs1, ho1⟩ |>.below b1r).take _
            have zc : (((K : Int) + 1 : Int)) ≤ (c1 : Int) := by omega
            clear HLTN
            generalize ls.take (K + 1) = T at HU HTL hT6 rT
            have HH := hide (And.intro hNe hes)
            clear hNe hes hEE hlk
            by_cases h4 : 400 < N
            · have hq : ((N : Int) != (N : Int)) = false := by simp
              go_wp2_with fail
              refine (implUnf N g2 0 c2 (L.take N) (unhide HLT).symm wr (by rw [unhide HLT]; omega) hcm2' (rL.take N) (fun x hx => hfb x (List.mem_of_mem_take hx))).mono ?_
              rintro e w5 ⟨a5, c5, vs5, rfl, ho5, hb5⟩
              rw [unhide HU] at ho5 ⊢
              have rT5 := rT.below hb5
              go_wp2
              have q5 := blk2_new w5 (.slice a5 T.length c5) (.int .i64 (N : Int))
              have n5 := below_new w5 (.cells #[.slice a5 T.length c5, .int .i64 (N : Int)] 38)
              have rG : RowsAt (w5.alloc (.cells #[.slice a5 T.length c5, .int .i64 (N : Int)] 38)) a5 T := OwnBB.rows ⟨vs5, ho5.below n5 (Nat.le_refl _)⟩
              have rR := rT5.below n5
              have hb5' := below_more hb5 n5
              generalize w5.alloc (.cells #[.slice a5 T.length c5, .int .i64 (N : Int)] 38) = W5 at q5 n5 rG rR hb5' ⊢
              have d0 := q5.c0
              have d1 := q5.c1
              have hst := fun (W : World) (h : RowsAt W a5 T) (h' : RowsAt W (some ⟨g1, 0, none⟩) T) => sameTexts_n T.length (K + 1) a5 (some ⟨g1, 0, none⟩) c5 c1 T rfl (unhide HTL).symm W hT6 h h'
              go_quiet ((go_at_call 23; exact Calls.quiet_of (hst _ (rG.drew _) (rR.drew _))))
              go_wp2
              go_roundw
              case rel => exact ⟨N + 1, K + 1, by omega, by omega, by go_num, by go_num, val_int (by rw [unhide HEX]), by rw [unhide HEX]; omega, unhide HNX, below_drewN (below_more hnx hb5') _⟩
              case measure => simp [intOf]; omega
            · have hq : ((N : Int) != (N : Int)) = false := by simp
              go_wp2_with fail
              refine (implUnf N g2 0 c2 (L.take N) (unhide HLT).symm wr (by rw [unhide HLT]; omega) hcm2' (rL.take N) (fun x hx => hfb x (List.mem_of_mem_take hx))).mono ?_
              rintro e w5 ⟨a5, c5, vs5, rfl, ho5, hb5⟩
              rw [unhide HU] at ho5 ⊢
              have rT5 := rT.below hb5
              go_wp2
              have q5 := blk2_new w5 (.slice a5 T.length c5) (.int .i64 (N : Int))
              have n5 := below_new w5 (.cells #[.slice a5 T.length c5, .int .i64 (N : Int)] 38)
              have rG : RowsAt (w5.alloc (.cells #[.slice a5 T.length c5, .int .i64 (N : Int)] 38)) a5 T := OwnBB.rows ⟨vs5, ho5.below n5 (Nat.le_refl _)⟩
              have rR := rT5.below n5
              have hb5' := below_more hb5 n5
              generalize w5.alloc (.cells #[.slice a5 T.length c5, .int .i64 (N : Int)] 38) = W5 at q5 n5 rG rR hb5' ⊢
              have d0 := q5.c0
              have d1 := q5.c1
              have hst := fun (W : World) (h : RowsAt W a5 T) (h' : RowsAt W (some ⟨g1, 0, none⟩) T) => sameTexts_n T.length (K + 1) a5 (some ⟨g1, 0, none⟩) c5 c1 T rfl (unhide HTL).symm W hT6 h h'
              go_quiet ((go_at_call 23; exact Calls.quiet_of (hst _ (rG.drew _) (rR.drew _))))
              go_wp2
              go_roundw
              case rel => exact ⟨N + 1, K + 1, by omega, by omega, by go_num, by go_num, val_int (by rw [unhide HEX]), by rw [unhide HEX]; omega, unhide HNX, below_drewN (below_more hnx hb5') _⟩
              case measure => simp [intOf]; omega
          · have ht : ((N : Int) == (E : Int) + 6 + (lk : Int)) = false := by simp; omega
            have HLTN : K < ls.length → N < endsum (ls.take (K + 1)) := fun h => by omega
            have HEX : Hid (endsum (ls.take (K)) = E) := hEE
            have HU : Hid (unfOf (L.take N) = (ls.take (K), E)) := by
              show _ = _
              have h := unf_prefix ls (unhide HOK) N (K) (by omega) (by omega) (by rw [unhide HEX]; omega) (by have := unhide HLE; omega) HLTN
              rw [unhide HEX] at h
              rw [unhide HCAT]
              exact h
            have HNX : Hid (K < ls.length → N + 1 ≤ endsum (ls.take (K + 1))) := fun h => HLTN h
            have HTL : Hid ((ls.take (K)).length = K) := by show _ = _; rw [List.length_take]; omega
            have hT6 : (ls.take (K)).length ≤ 1048576 := by rw [List.length_take]; omega
            have rT : RowsAt wr (some ⟨g1, 0, none⟩) (ls.take (K)) := (OwnBB.rows ⟨vs1, ho1⟩ |>.below b1r).take _
            have zc : (((K : Int) : Int)) ≤ (c1 : Int) := by omega
            clear HLTN
            generalize ls.take (K) = T at HU HTL hT6 rT
            have HH := hide (And.intro hNe hes)
            clear hNe hes hEE hlk
            have hgood : ((E : Int) != (E : Int)) = false := by simp
            by_cases h4 : 400 < N
            · by_cases h5 : N = E
              · have hq : ((N : Int) != (E : Int)) = false := by rw [h5]; simp
                have H5 := hide h5
                clear h5
                go_wp2_with fail
                refine (implUnf N g2 0 c2 (L.take N) (unhide HLT).symm wr (by rw [unhide HLT]; omega) hcm2' (rL.take N) (fun x hx => hfb x (List.mem_of_mem_take hx))).mono ?_
                rintro e w5 ⟨a5, c5, vs5, rfl, ho5, hb5⟩
                rw [unhide HU] at ho5 ⊢
                have rT5 := rT.below hb5
                go_wp2
                have q5 := blk2_new w5 (.slice a5 T.length c5) (.int .i64 (E : Int))
                have n5 := below_new w5 (.cells #[.slice a5 T.length c5, .int .i64 (E : Int)] 38)
                have rG : RowsAt (w5.alloc (.cells #[.slice a5 T.length c5, .int .i64 (E : Int)] 38)) a5 T := OwnBB.rows ⟨vs5, ho5.below n5 (Nat.le_refl _)⟩
                have rR := rT5.below n5
                have hb5' := below_more hb5 n5
                generalize w5.alloc (.cells #[.slice a5 T.length c5, .int .i64 (E : Int)] 38) = W5 at q5 n5 rG rR hb5' ⊢
                have d0 := q5.c0
                have d1 := q5.c1
                have hst := fun (W : World) (h : RowsAt W a5 T) (h' : RowsAt W (some ⟨g1, 0, none⟩) T) => sameTexts_n T.length (K) a5 (some ⟨g1, 0, none⟩) c5 c1 T rfl (unhide HTL).symm W hT6 h h'
                go_quiet ((go_at_call 23; exact Calls.quiet_of (hst _ (rG.drew _) (rR.drew _))))
                go_wp2
                go_roundw
                case rel => exact ⟨N + 1, K, by omega, by omega, by go_num, rfl, val_int (by rw [unhide HEX]), by rw [unhide HEX]; omega, unhide HNX, below_drewN (below_more hnx hb5') _⟩
                case measure => simp [intOf]; omega
              · have hq : ((N : Int) != (E : Int)) = true := by simp; omega
                clear h5
                by_cases h6 : N = L.length
                · have hq2 : ((N : Int) != (L.length : Int)) = false := by rw [h6]; simp
                  have H6 := hide h6
                  clear h6
                  go_wp2_with fail
                  refine (implUnf N g2 0 c2 (L.take N) (unhide HLT).symm wr (by rw [unhide HLT]; omega) hcm2' (rL.take N) (fun x hx => hfb x (List.mem_of_mem_take hx))).mono ?_
                  rintro e w5 ⟨a5, c5, vs5, rfl, ho5, hb5⟩
                  rw [unhide HU] at ho5 ⊢
                  have rT5 := rT.below hb5
                  go_wp2
                  have q5 := blk2_new w5 (.slice a5 T.length c5) (.int .i64 (E : Int))
                  have n5 := below_new w5 (.cells #[.slice a5 T.length c5, .int .i64 (E : Int)] 38)
                  have rG : RowsAt (w5.alloc (.cells #[.slice a5 T.length c5, .int .i64 (E : Int)] 38)) a5 T := OwnBB.rows ⟨vs5, ho5.below n5 (Nat.le_refl _)⟩
                  have rR := rT5.below n5
                  have hb5' := below_more hb5 n5
                  generalize w5.alloc (.cells #[.slice a5 T.length c5, .int .i64 (E : Int)] 38) = W5 at q5 n5 rG rR hb5' ⊢
                  have d0 := q5.c0
                  have d1 := q5.c1
                  have hst := fun (W : World) (h : RowsAt W a5 T) (h' : RowsAt W (some ⟨g1, 0, none⟩) T) => sameTexts_n T.length (K) a5 (some ⟨g1, 0, none⟩) c5 c1 T rfl (unhide HTL).symm W hT6 h h'
                  go_quiet ((go_at_call 23; exact Calls.quiet_of (hst _ (rG.drew _) (rR.drew _))))
                  go_wp2
                  go_roundw
                  case rel => exact ⟨N + 1, K, by omega, by omega, by go_num, rfl, val_int (by rw [unhide HEX]), by rw [unhide HEX]; omega, unhide HNX, below_drewN (below_more hnx hb5') _⟩
                  case measure => simp [intOf]; omega
                · have hq2 : ((N : Int) != (L.length : Int)) = true := by simp; omega
                  have H6 := hide h6
                  clear h6
                  go_wp2
                  go_roundw
                  case rel => exact ⟨N + 1, K, by omega, by omega, by go_num, rfl, val_int (by rw [unhide HEX]), by rw [unhide HEX]; omega, unhide HNX, hnx⟩
                  case measure => simp [intOf]; omega
            · skip
              go_wp2_with fail
              refine (implUnf N g2 0 c2 (L.take N) (unhide HLT).symm wr (by rw [unhide HLT]; omega) hcm2' (rL.take N) (fun x hx => hfb x (List.mem_of_mem_take hx))).mono ?_
              rintro e w5 ⟨a5, c5, vs5, rfl, ho5, hb5⟩
              rw [unhide HU] at ho5 ⊢
              have rT5 := rT.below hb5
              go_wp2
              have q5 := blk2_new w5 (.slice a5 T.length c5) (.int .i64 (E : Int))
              have n5 := below_new w5 (.cells #[.slice a5 T.length c5, .int .i64 (E : Int)] 38)
              have rG : RowsAt (w5.alloc (.cells #[.slice a5 T.length c5, .int .i64 (E : Int)] 38)) a5 T := OwnBB.rows ⟨vs5, ho5.below n5 (Nat.le_refl _)⟩
              have rR := rT5.below n5
              have hb5' := below_more hb5 n5
              generalize w5.alloc (.cells #[.slice a5 T.length c5, .int .i64 (E : Int)] 38) = W5 at q5 n5 rG rR hb5' ⊢
              have d0 := q5.c0
              have d1 := q5.c1
              have hst := fun (W : World) (h : RowsAt W a5 T) (h' : RowsAt W (some ⟨g1, 0, none⟩) T) => sameTexts_n T.length (K) a5 (some ⟨g1, 0, none⟩) c5 c1 T rfl (unhide HTL).symm W hT6 h h'
              go_quiet ((go_at_call 23; exact Calls.quiet_of (hst _ (rG.drew _) (rR.drew _))))
              go_wp2
              go_roundw
              case rel => exact ⟨N + 1, K, by omega, by omega, by go_num, rfl, val_int (by rw [unhide HEX]), by rw [unhide HEX]; omega, unhide HNX, below_drewN (below_more hnx hb5') _⟩
              case measure => simp [intOf]; omega
        · have zK : ¬ (K : Int) < (ls.length : Int) := by omega
          have HLTN : K < ls.length → N < endsum (ls.take (K + 1)) := fun h => absurd h hKl
          generalize hEE : endsum (ls.take K) = E at hE ⊢
          have HEX : Hid (endsum (ls.take (K)) = E) := hEE
          have HU : Hid (unfOf (L.take N) = (ls.take (K), E)) := by
            show _ = _
            have h := unf_prefix ls (unhide HOK) N (K) (by omega) (by omega) (by rw [unhide HEX]; omega) (by have := unhide HLE; omega) HLTN
            rw [unhide HEX] at h
            rw [unhide HCAT]
            exact h
          have HNX : Hid (K < ls.length → N + 1 ≤ endsum (ls.take (K + 1))) := fun h => HLTN h
          have HTL : Hid ((ls.take (K)).length = K) := by show _ = _; rw [List.length_take]; omega
          have hT6 : (ls.take (K)).length ≤ 1048576 := by rw [List.length_take]; omega
          have rT : RowsAt wr (some ⟨g1, 0, none⟩) (ls.take (K)) := (OwnBB.rows ⟨vs1, ho1⟩ |>.below b1r).take _
          have zc : (((K : Int) : Int)) ≤ (c1 : Int) := by omega
          clear HLTN
          generalize ls.take (K) = T at HU HTL hT6 rT
          clear hEE
          have hgood : ((E : Int) != (E : Int)) = false := by simp
          by_cases h4 : 400 < N
          · by_cases h5 : N = E
            · have hq : ((N : Int) != (E : Int)) = false := by rw [h5]; simp
              have H5 := hide h5
              clear h5
              go_wp2_with fail
              refine (implUnf N g2 0 c2 (L.take N) (unhide HLT).symm wr (by rw [unhide HLT]; omega) hcm2' (rL.take N) (fun x hx => hfb x (List.mem_of_mem_take hx))).mono ?_
              rintro e w5 ⟨a5, c5, vs5, rfl, ho5, hb5⟩
              rw [unhide HU] at ho5 ⊢
              have rT5 := rT.below hb5
              go_wp2
              have q5 := blk2_new w5 (.slice a5 T.length c5) (.int .i64 (E : Int))
              have n5 := below_new w5 (.cells #[.slice a5 T.length c5, .int .i64 (E : Int)] 38)
              have rG : RowsAt (w5.alloc (.cells #[.slice a5 T.length c5, .int .i64 (E : Int)] 38)) a5 T := OwnBB.rows ⟨vs5, ho5.below n5 (Nat.le_refl _)⟩
              have rR := rT5.below n5
              have hb5' := below_more hb5 n5
              generalize w5.alloc (.cells #[.slice a5 T.length c5, .int .i64 (E : Int)] 38) = W5 at q5 n5 rG rR hb5' ⊢
              have d0 := q5.c0
              have d1 := q5.c1
              have hst := fun (W : World) (h : RowsAt W a5 T) (h' : RowsAt W (some ⟨g1, 0, none⟩) T) => sameTexts_n T.length (K) a5 (some ⟨g1, 0, none⟩) c5 c1 T rfl (unhide HTL).symm W hT6 h h'
              go_quiet ((go_at_call 23; exact Calls.quiet_of (hst _ (rG.drew _) (rR.drew _))))
              go_wp2
              go_roundw
              case rel => exact ⟨N + 1, K, by omega, by omega, by go_num, rfl, val_int (by rw [unhide HEX]), by rw [unhide HEX]; omega, unhide HNX, below_drewN (below_more hnx hb5') _⟩
              case measure => simp [intOf]; omega
            · have hq : ((N : Int) != (E : Int)) = true := by simp; omega
              clear h5
              by_cases h6 : N = L.length
              · have hq2 : ((N : Int) != (L.length : Int)) = false := by rw [h6]; simp
                have H6 := hide h6
                clear h6
                go_wp2_with fail
                refine (implUnf N g2 0 c2 (L.take N) (unhide HLT).symm wr (by rw [unhide HLT]; omega) hcm2' (rL.take N) (fun x hx => hfb x (List.mem_of_mem_take hx))).mono ?_
                rintro e w5 ⟨a5, c5, vs5, rfl, ho5, hb5⟩
                rw [unhide HU] at ho5 ⊢
                have rT5 := rT.below hb5
                go_wp2
                have q5 := blk2_new w5 (.slice a5 T.length c5) (.int .i64 (E : Int))
                have n5 := below_new w5 (.cells #[.slice a5 T.length c5, .int .i64 (E : Int)] 38)
                have rG : RowsAt (w5.alloc (.cells #[.slice a5 T.length c5, .int .i64 (E : Int)] 38)) a5 T := OwnBB.rows ⟨vs5, ho5.below n5 (Nat.le_refl _)⟩
                have rR := rT5.below n5
                have hb5' := below_more hb5 n5
                generalize w5.alloc (.cells #[.slice a5 T.length c5, .int .i64 (E : Int)] 38) = W5 at q5 n5 rG rR hb5' ⊢
                have d0 := q5.c0
                have d1 := q5.c1
                have hst := fun (W : World) (h : RowsAt W a5 T) (h' : RowsAt W (some ⟨g1, 0, none⟩) T) => sameTexts_n T.length (K) a5 (some ⟨g1, 0, none⟩) c5 c1 T rfl (unhide HTL).symm W hT6 h h'
                go_quiet ((go_at_call 23; exact Calls.quiet_of (hst _ (rG.drew _) (rR.drew _))))
                go_wp2
                go_roundw
                case rel => exact ⟨N + 1, K, by omega, by omega, by go_num, rfl, val_int (by rw [unhide HEX]), by rw [unhide HEX]; omega, unhide HNX, below_drewN (below_more hnx hb5') _⟩
                case measure => simp [intOf]; omega
              · have hq2 : ((N : Int) != (L.length : Int)) = true := by simp; omega
                have H6 := hide h6
                clear h6
                go_wp2
                go_roundw
                case rel => exact ⟨N + 1, K, by omega, by omega, by go_num, rfl, val_int (by rw [unhide HEX]), by rw [unhide HEX]; omega, unhide HNX, hnx⟩
                case measure => simp [intOf]; omega
          · skip
            go_wp2_with fail
            refine (implUnf N g2 0 c2 (L.take N) (unhide HLT).symm wr (by rw [unhide HLT]; omega) hcm2' (rL.take N) (fun x hx => hfb x (List.mem_of_mem_take hx))).mono ?_
            rintro e w5 ⟨a5, c5, vs5, rfl, ho5, hb5⟩
            rw [unhide HU] at ho5 ⊢
            have rT5 := rT.below hb5
            go_wp2
            have q5 := blk2_new w5 (.slice a5 T.length c5) (.int .i64 (E : Int))
            have n5 := below_new w5 (.cells #[.slice a5 T.length c5, .int .i64 (E : Int)] 38)
            have rG : RowsAt (w5.alloc (.cells #[.slice a5 T.length c5, .int .i64 (E : Int)] 38)) a5 T := OwnBB.rows ⟨vs5, ho5.below n5 (Nat.le_refl _)⟩
            have rR := rT5.below n5
            have hb5' := below_more hb5 n5
            generalize w5.alloc (.cells #[.slice a5 T.length c5, .int .i64 (E : Int)] 38) = W5 at q5 n5 rG rR hb5' ⊢
            have d0 := q5.c0
            have d1 := q5.c1
            have hst := fun (W : World) (h : RowsAt W a5 T) (h' : RowsAt W (some ⟨g1, 0, none⟩) T) => sameTexts_n T.length (K) a5 (some ⟨g1, 0, none⟩) c5 c1 T rfl (unhide HTL).symm W hT6 h h'
            go_quiet ((go_at_call 23; exact Calls.quiet_of (hst _ (rG.drew _) (rR.drew _))))
            go_wp2
            go_roundw
            case rel => exact ⟨N + 1, K, by omega, by omega, by go_num, rfl, val_int (by rw [unhide HEX]), by rw [unhide HEX]; omega, unhide HNX, below_drewN (below_more hnx hb5') _⟩
            case measure => simp [intOf]; omega
      · have hKl : K = ls.length := by
          rcases Nat.lt_or_ge K ls.length with h | h
          · have h1 := unhide HE2 h
            have h2 := endsum_le ls (K + 1)
            have h3 := unhide HLE
            omega
          · omega
        have hke : ((K : Int) == (ls.length : Int)) = true := by simp; omega
        clear hKl
        go_wp2
        go_ret
        exact ⟨rfl, hwr⟩
end Go.Proofs.Ytokcdpamcbpaiab
