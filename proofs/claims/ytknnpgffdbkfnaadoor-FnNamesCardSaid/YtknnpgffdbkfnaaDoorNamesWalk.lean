import Derived.Test.YtknnpgffdbkfnaaDoorNamesLaw
namespace Go.Proofs.YtknnpgffdbkfnaaDoor
open Go.RowKit
/-- What FnNames reads of the world. -/
structure EnvN (w : World) : Prop where
  max : MaxL w
  env : Env w
  tab : Lib.TabIs Tryd.prog w "internal/strconv.uint64pow10" .u64 Lib.pow10Tab
theorem EnvN.below {w w' : World} (h : EnvN w) (hb : Below w.heap.size w w') : EnvN w' := ⟨h.max.below hb, h.env.below hb, tabIs_below h.tab hb⟩
theorem cells4 {w w' : World} {g : Nat} {c0 c1 c2 c3 : Value} {t : TypeId} (h : w.heap[g]? = some (.cells #[c0, c1, c2, c3] t (0, 0))) (hb : Below w.heap.size w w') : w'.cell? ⟨g, 0, none⟩ = some c0 ∧ w'.cell? ⟨g, 1, none⟩ = some c1 ∧ w'.cell? ⟨g, 2, none⟩ = some c2 ∧ w'.cell? ⟨g, 3, none⟩ = some c3 := by
  have hh := (hb.block g (lt_of_block h)).trans h
  refine ⟨?_, ?_, ?_, ?_⟩ <;> (rw [cell_of_row _ _ _ _ _ _ hh]; rfl)
set_option maxRecDepth 20000 in
set_option maxHeartbeats 2000000 in
theorem names_small (a : Option Addr) (cap : Nat) (code : List Nat) (w : World) (hc : CodeIn w a code) (hE : EnvN w) :
    Calls Tryd.prog 4 #[.slice a code.length cap] w fun e w' => e = .returned (.bool true) ∧ Below w.heap.size w w' := by
  have hi : ¬ (1048576 : Int) < (code.length : Int) := by have := hc.len; omega
  have HE := hide hE
  have HD := hide (drawMailName_any a cap code w hc)
  clear hE hc
  go_enter Tryd.func4, Tryd.ntmps4
  go_wp2_with fail
  refine HD.out.mono ?_
  rintro e w1 ⟨u, f, s, rfl, hu, hf, hs0, hs1, hb1⟩
  have FL := hide (fun W => implFlagList_any f W (by omega))
  have RF := hide (fun W h => flags_back f W hf h)
  have LT := hide (fun W => implFlagLetters_any f W (by omega))
  have LF := hide (fun W => letters_back f W hf)
  have MN := hide (fun W h => implName_any u s f W hu (by omega) h)
  generalize (⟨#[40]⟩ ++ flS f 31 ++ ⟨#[41]⟩ : ByteArray) = sf at FL RF
  generalize strB (lettersOf f) = sl at LT LF
  have HB1 := hide hb1
  clear hb1 HD
  go_wp2_with fail
  refine (FL.out w1).mono ?_
  rintro e w2 ⟨rfl, hb2⟩
  have HB2 := hide (HB1.out.trans (hb2.mono HB1.out.size))
  clear hb2 HB1
  go_wp2_with fail
  refine (RF.out w2 (HE.out.below HB2.out).max).mono ?_
  rintro e w3 ⟨rfl, hb3⟩
  have HB3 := hide (HB2.out.trans (hb3.mono HB2.out.size))
  clear hb3 HB2
  go_wp2_with fail
  have hh4 := heap_alloc_new w3 (.cells #[.bool true, .int .u32 (f : Int)] 32)
  have HB4 := hide (HB3.out.alloc HB3.out.size (.cells #[.bool true, .int .u32 (f : Int)] 32))
  generalize w3.alloc (.cells #[.bool true, .int .u32 (f : Int)] 32) = w4 at hh4 HB4 ⊢
  generalize w3.heap.size = g4 at hh4 ⊢
  refine (LT.out w4).mono ?_
  rintro e w5 ⟨rfl, hb5⟩
  have HB5 := hide (HB4.out.trans (hb5.mono HB4.out.size))
  have hh5 := (hb5.block g4 (lt_of_block hh4)).trans hh4
  clear hb5 HB4 HB3 hh4
  go_wp2_with fail
  refine (LF.out w5).mono ?_
  rintro e w6 ⟨rfl, hb6⟩
  have HB6 := hide (HB5.out.trans (hb6.mono HB5.out.size))
  have hh6 := (hb6.block g4 (lt_of_block hh5)).trans hh5
  clear hb6 HB5 hh5
  have hal := (Below.refl w6.heap.size w6).alloc (Nat.le_refl _) (.cells #[.bool true, .int .u32 (f : Int)] 32)
  obtain ⟨c0, c1⟩ := cells2 hh6 hal
  have HB7 := hide (HB6.out.alloc HB6.out.size (.cells #[.bool true, .int .u32 (f : Int)] 32))
  clear hal hh6 FL RF LT LF
  by_cases hgood : u = 0 ∨ s < 0 ∨ 1000000000000 < s
  · have hn := nameOf_bad f hgood
    rw [hn] at MN
    go_wp2_with fail
    generalize w6.alloc (.cells #[.bool true, .int .u32 (f : Int)] 32) = w7 at HB7 ⊢
    refine (MN.out w7 (HE.out.below HB7.out).tab).mono ?_
    rintro e w8 ⟨rfl, hb8⟩
    have HB8 := hide (HB7.out.trans (hb8.mono HB7.out.size))
    clear hb8 HB7 c0 c1 hn
    go_wp2_with fail
    refine (names_none w8 (HE.out.below HB8.out).env).mono ?_
    rintro e w9 ⟨x1, x2, x3, rfl, hb9⟩
    have HB9 := hide (HB8.out.trans (hb9.mono HB8.out.size))
    have HB10 := hide (HB9.out.alloc HB9.out.size (.cells #[.bool false, .int .u32 x1, .int .i64 x2, .int .u32 x3] 24))
    clear hb9 HB8
    by_cases h0 : u = 0
    · subst h0
      go_wp2
      go_ret
      exact ⟨rfl, HB10.out⟩
    · have h0' : ¬ (u : Int) = 0 := by omega
      by_cases h1 : s < 0
      · go_wp2
        go_ret
        exact ⟨rfl, HB10.out⟩
      · have h2 : 1000000000000 < s := by omega
        go_wp2
        go_ret
        exact ⟨rfl, HB10.out⟩
  · obtain ⟨k, rfl⟩ := Int.eq_ofNat_of_zero_le (show 0 ≤ s by omega)
    have NB := hide (fun W h => names_back u k f W (by omega) hu (by omega) hf h)
    generalize nameOf u (k : Int) f = sn at MN NB
    go_wp2_with fail
    generalize w6.alloc (.cells #[.bool true, .int .u32 (f : Int)] 32) = w7 at HB7 ⊢
    refine (MN.out w7 (HE.out.below HB7.out).tab).mono ?_
    rintro e w8 ⟨rfl, hb8⟩
    have HB8 := hide (HB7.out.trans (hb8.mono HB7.out.size))
    clear hb8 HB7 c0 c1
    go_wp2_with fail
    refine (NB.out w8 (HE.out.below HB8.out).env).mono ?_
    rintro e w9 ⟨rfl, hb9⟩
    have HB9 := hide (HB8.out.trans (hb9.mono HB8.out.size))
    have HB10 := hide (HB9.out.alloc HB9.out.size (.cells #[.bool true, .int .u32 (u : Int), .int .i64 (k : Int), .int .u32 (f : Int)] 24))
    clear hb9 HB8
    have h0 : ((u : Int) == 0) = false := beq_eq_false_iff_ne.2 (by omega)
    have h1 : ¬ (k : Int) < 0 := by omega
    have h2 : ¬ (1000000000000 : Int) < (k : Int) := by omega
    clear hgood hs0 hs1 hu hf NB MN
    generalize (k : Int) = z at HB10 h1 h2 ⊢
    generalize (u : Int) = y at HB10 h0 ⊢
    generalize (f : Int) = x at HB10 ⊢
    go_wp2
    go_ret
    exact ⟨rfl, HB10.out⟩
end Go.Proofs.YtknnpgffdbkfnaaDoor
