import Derived.Test.YtknnpgffdbkfnaaDoorImplRd
import Derived.Test.YtknnpgffdbkfnaaDoorImplLet
import Derived.Test.YtknnpgffdbkfnaaDoorSpecRead
namespace Go.Proofs.YtknnpgffdbkfnaaDoor
open Go.RowKit
theorem pre_yes {t : List UInt8} (h : Lib.hasPrefix t [99, 117, 114, 47] = true) : t = [99, 117, 114, 47] ++ Lib.trimPrefix t [99, 117, 114, 47] := by
  unfold Lib.trimPrefix
  rw [if_pos h]
  unfold Lib.hasPrefix at h
  obtain ⟨r, hr⟩ := List.isPrefixOf_iff_prefix.1 h
  rw [← hr]
  simp
theorem pre_form (r : List UInt8) : Lib.hasPrefix ([99, 117, 114, 47] ++ r) [99, 117, 114, 47] = true ∧ Lib.trimPrefix ([99, 117, 114, 47] ++ r) [99, 117, 114, 47] = r := by
  have h : Lib.hasPrefix ([99, 117, 114, 47] ++ r) [99, 117, 114, 47] = true := by
    unfold Lib.hasPrefix
    exact List.isPrefixOf_iff_prefix.2 ⟨r, rfl⟩
  refine ⟨h, ?_⟩
  unfold Lib.trimPrefix
  rw [if_pos h]
  simp
/-- The first cuts. -/
structure ICuts (t r1 a r2 st le : List UInt8) (b1 d sg : Bool) : Prop where
  pre : b1 = Lib.hasPrefix t [99, 117, 114, 47]
  rest : r1 = Lib.trimPrefix t [99, 117, 114, 47]
  dot : Lib.cut r1 [46] = (a, r2, d)
  sign : Lib.cut r2 [58, 50, 44] = (st, le, sg)
theorem icuts_form {t r1 a r2 st le : List UInt8} {b1 d sg : Bool} (h : ICuts t r1 a r2 st le b1 d sg) {u s : Nat} {is : List Nat} (hF : IsNm t u s is) : b1 = true ∧ d = true ∧ sg = true ∧ a = Lib.decDigits u ∧ st = Lib.decDigits s ∧ le = lets is := by
  have hp := pre_form (Lib.decDigits u ++ ([46] ++ (Lib.decDigits s ++ ([58, 50, 44] ++ lets is))))
  have e : t = [99, 117, 114, 47] ++ (Lib.decDigits u ++ ([46] ++ (Lib.decDigits s ++ ([58, 50, 44] ++ lets is)))) := hF.eq
  rw [← e] at hp
  have c1 := cut_first (Lib.decDigits u) (Lib.decDigits s ++ ([58, 50, 44] ++ lets is)) 46 [] (dec_not not46)
  have c2 := cut_first (Lib.decDigits s) (lets is) 58 [50, 44] (dec_not not58)
  have h1 := h.dot
  rw [h.rest, hp.2] at h1
  have h1' := h1.symm.trans c1
  simp only [Prod.mk.injEq] at h1'
  obtain ⟨rfl, rfl, rfl⟩ := h1'
  have h2' := h.sign.symm.trans c2
  simp only [Prod.mk.injEq] at h2'
  obtain ⟨rfl, rfl, rfl⟩ := h2'
  exact ⟨h.pre.trans hp.1, rfl, rfl, rfl, rfl, rfl⟩
theorem icuts_no {t r1 a r2 st le : List UInt8} {b1 d sg : Bool} (h : ICuts t r1 a r2 st le b1 d sg) (hn : b1 = false ∨ d = false ∨ sg = false) : AnsM t false 0 0 0 := by
  refine Or.inr ⟨rfl, rfl, rfl, rfl, ?_⟩
  rintro ⟨u, s, is, hF⟩
  obtain ⟨e1, e2, e3, _⟩ := icuts_form h hF
  rcases hn with hn | hn | hn
  · rw [e1] at hn; cases hn
  · rw [e2] at hn; cases hn
  · rw [e3] at hn; cases hn
theorem ichain_no {t r1 a r2 st le : List UInt8} {b1 d sg k1 k2 fok : Bool} {n1 n2 f : Nat} (h : ICuts t r1 a r2 st le b1 d sg) (h1 : RdIs a 1 4294967295 n1 k1) (h2 : RdIs st 0 1000000000000 n2 k2) (h3 : AnsIs (le.map UInt8.toNat) fok f) (hn : k1 = false ∨ k2 = false ∨ fok = false) : AnsM t false 0 0 0 := by
  refine Or.inr ⟨rfl, rfl, rfl, rfl, ?_⟩
  rintro ⟨u, s, is, hF⟩
  obtain ⟨_, _, _, rfl, rfl, rfl⟩ := icuts_form h hF
  rcases hn with rfl | rfl | rfl
  · rcases h1 with ⟨hx, _⟩ | ⟨_, _, hx⟩
    · cases hx
    · exact hx u hF.u1 (by have := hF.u2; omega) rfl
  · rcases h2 with ⟨hx, _⟩ | ⟨_, _, hx⟩
    · cases hx
    · exact hx s (Nat.zero_le _) hF.s2 rfl
  · have := (form_let hF.good h3).1
    cases this
theorem ichain_yes {t r1 a r2 st le : List UInt8} {n1 n2 f : Nat} (h : ICuts t r1 a r2 st le true true true) (h1 : RdIs a 1 4294967295 n1 true) (h2 : RdIs st 0 1000000000000 n2 true) (h3 : AnsIs (le.map UInt8.toNat) true f) : AnsM t true n1 n2 f ∧ n1 ≤ 4294967295 ∧ n2 ≤ 1000000000000 := by
  rcases h1 with ⟨_, ha, hl1, hl2⟩ | ⟨hx, _⟩
  · rcases h2 with ⟨_, hst, _, hl4⟩ | ⟨hx, _⟩
    · rcases h3 with ⟨_, is, hg, hle, rfl⟩ | ⟨hx, _⟩
      · have e1 := pre_yes h.pre.symm
        rw [← h.rest] at e1
        have e2 := cut_true (s := r1) (sep := [46]) (by rw [h.dot])
        rw [h.dot] at e2
        have e3 := cut_true (s := r2) (sep := [58, 50, 44]) (by rw [h.sign])
        rw [h.sign] at e3
        have e4 := lets_of hle
        refine ⟨Or.inl ⟨rfl, is, ⟨hg, hl1, by omega, hl4, ?_⟩, rfl⟩, hl2, hl4⟩
        unfold nm
        rw [← ha, ← hst, ← e4, e1]
        congr 1
        rw [e2]
        show a ++ ([46] ++ r2) = _
        congr 2
      · cases hx
    · cases hx
  · cases hx
theorem cut_len (s sep : List UInt8) : (Lib.cut s sep).1.length ≤ s.length ∧ (Lib.cut s sep).2.1.length ≤ s.length := by
  unfold Lib.cut
  split
  · simp; omega
  · simp
theorem rtrim_len (s p : List UInt8) : (Lib.trimPrefix s p).length ≤ s.length := by
  unfold Lib.trimPrefix
  split <;> simp
/-- The result's block. -/
structure One (w W : World) : Prop where
  r2 : W.heap[w.heap.size]? = some (.cells #[.bool false, .int .u32 0, .int .i64 0, .int .u32 0] 24 (0, 0))
  bel : Below w.heap.size w W
  env : Env W
theorem One.below {w W W' : World} (h : One w W) (hb : Below W.heap.size W W') : One w W' :=
  ⟨(hb.block _ (lt_of_block h.r2)).trans h.r2, h.bel.trans (hb.mono h.bel.size), h.env.below hb⟩
theorem One.back {w W : World} (h : One w W) (v0 v1 v2 v3 : Value) : Below w.heap.size w ((((W.setCell ⟨w.heap.size, 0, none⟩ v0).setCell ⟨w.heap.size, 1, none⟩ v1).setCell ⟨w.heap.size, 2, none⟩ v2).setCell ⟨w.heap.size, 3, none⟩ v3) :=
  (((h.bel.setCell (p := ⟨w.heap.size, 0, none⟩) (Nat.le_refl _) _).setCell (p := ⟨w.heap.size, 1, none⟩) (Nat.le_refl _) _).setCell (p := ⟨w.heap.size, 2, none⟩) (Nat.le_refl _) _).setCell (p := ⟨w.heap.size, 3, none⟩) (Nat.le_refl _) _
set_option maxRecDepth 20000 in
set_option maxHeartbeats 2000000 in
theorem implRead_any (s : ByteArray) (w : World) (hs : s.size ≤ 1048576) (hE : Env w) :
    Calls Tryd.prog 7 #[.string s] w (MPost s.data.toList w) := by
  have O0 : One w (w.alloc (.cells #[.bool false, .int .u32 0, .int .i64 0, .int .u32 0] 24)) :=
    ⟨heap_alloc_new w _, (Below.refl w.heap.size w).alloc (Nat.le_refl _) _, hE.below ((Below.refl w.heap.size w).alloc (Nat.le_refl _) _)⟩
  go_enter Tryd.func7, Tryd.ntmps7
  go_wp2_with fail
  generalize w.alloc (.cells #[.bool false, .int .u32 0, .int .i64 0, .int .u32 0] 24) = W0 at O0 ⊢
  refine (Tryd.strings_CutPrefix s ⟨#[99, 117, 114, 47]⟩ W0).mono ?_
  rintro e W1 ⟨rfl, rfl⟩
  have I1 : Hid (Lib.hasPrefix s.data.toList [99, 117, 114, 47] = Lib.hasPrefix s.data.toList [99, 117, 114, 47]) := rfl
  have l1 := rtrim_len s.data.toList [99, 117, 114, 47]
  rw [sz_list] at l1
  obtain ⟨r1, hr1⟩ : ∃ r1, r1 = Lib.trimPrefix s.data.toList [99, 117, 114, 47] := ⟨_, rfl⟩
  obtain ⟨b1, hb1⟩ : ∃ b1, b1 = Lib.hasPrefix s.data.toList [99, 117, 114, 47] := ⟨_, rfl⟩
  rw [← hr1] at l1
  have HR := hide hr1
  have HB := hide hb1
  rw [show Lib.trimPrefix s.data.toList (⟨#[99, 117, 114, 47]⟩ : ByteArray).data.toList = r1 from hr1.symm, show Lib.hasPrefix s.data.toList (⟨#[99, 117, 114, 47]⟩ : ByteArray).data.toList = b1 from hb1.symm]
  clear hr1 hb1 I1 hE
  go_wp2_with fail
  obtain ⟨m, hm⟩ := O0.env.max
  refine (Tryd.strings_Cut ⟨r1.toArray⟩ ⟨#[46]⟩ m W1 (by show r1.toArray.size < _; simp; omega) hm).mono ?_
  rintro e W2 ⟨rfl, n, hW2⟩
  have O2 := O0.below (W' := W2) (by rw [hW2]; exact below_drewN (Below.refl _ _) n)
  have l2 := cut_len r1 [46]
  rw [show Lib.cut (⟨r1.toArray⟩ : ByteArray).data.toList (⟨#[46]⟩ : ByteArray).data.toList = Lib.cut r1 [46] from rfl]
  obtain ⟨⟨a, r2, d⟩, hc1⟩ : ∃ x, x = Lib.cut r1 [46] := ⟨_, rfl⟩
  rw [← hc1] at l2 ⊢
  have HC1 := hide hc1.symm
  clear hW2 hc1 hm m O0
  simp only [] at l2 ⊢
  go_wp2_with fail
  obtain ⟨m, hm⟩ := O2.env.max
  refine (Tryd.strings_Cut ⟨r2.toArray⟩ ⟨#[58, 50, 44]⟩ m W2 (by show r2.toArray.size < _; simp; omega) hm).mono ?_
  rintro e W3 ⟨rfl, n, hW3⟩
  have O3 := O2.below (W' := W3) (by rw [hW3]; exact below_drewN (Below.refl _ _) n)
  have l3 := cut_len r2 [58, 50, 44]
  rw [show Lib.cut (⟨r2.toArray⟩ : ByteArray).data.toList (⟨#[58, 50, 44]⟩ : ByteArray).data.toList = Lib.cut r2 [58, 50, 44] from rfl]
  obtain ⟨⟨st, le, sg⟩, hc2⟩ : ∃ x, x = Lib.cut r2 [58, 50, 44] := ⟨_, rfl⟩
  rw [← hc2] at l3 ⊢
  have IC := hide (ICuts.mk HB.out HR.out HC1.out hc2.symm)
  clear hW3 hc2 hm m O2 HR HB HC1
  simp only [] at l3 ⊢
  obtain ⟨p0, p1, p2, p3⟩ := cell4 O3.r2
  have fz := fun j => frozen_of_row _ w.heap.size j _ _ O3.r2
  have HO3 := hide O3
  clear O3
  by_cases hg : b1 = true ∧ d = true ∧ sg = true
  · obtain ⟨rfl, rfl, rfl⟩ := hg
    clear p0 p1 p2 p3 fz
    go_wp2_with fail
    have R1 := readDecimal_any ⟨a.toArray⟩ 1 4294967295 W3 HO3.out.env (by show a.toArray.size ≤ _; simp; omega) (by omega)
    refine (show Calls _ _ #[_, .int .u64 1, .int .u64 4294967295] _ _ from R1).mono ?_
    rintro e W4 ⟨n1, k1, rfl, hn1, hb4⟩
    have HN1 := hide (show RdIs a 1 4294967295 n1 k1 from hn1)
    have HO4 := hide (HO3.out.below hb4)
    clear hn1 hb4 HO3 R1
    go_wp2_with fail
    have R2 := readDecimal_any ⟨st.toArray⟩ 0 1000000000000 W4 HO4.out.env (by show st.toArray.size ≤ _; simp; omega) (by omega)
    refine (show Calls _ _ #[_, .int .u64 0, .int .u64 1000000000000] _ _ from R2).mono ?_
    rintro e W5 ⟨n2, k2, rfl, hn2, hb5⟩
    have HN2 := hide (show RdIs st 0 1000000000000 n2 k2 from hn2)
    have HO5 := hide (HO4.out.below hb5)
    clear hn2 hb5 HO4 R2
    go_wp2_with fail
    refine (implLetterFlags_any ⟨le.toArray⟩ W5).mono ?_
    rintro e W6 ⟨fok, f, rfl, hlet, hb6⟩
    have HL := hide (show AnsIs (le.map UInt8.toNat) fok f from hlet)
    have hf32 : f < 4294967296 := by
      rcases hlet with ⟨_, is, hg, _, rfl⟩ | ⟨_, rfl, _⟩
      · exact orB_lt hg
      · decide
    have O7 := (HO5.out.below hb6).below ((Below.refl _ _).alloc (Nat.le_refl _) (.cells #[.bool fok, .int .u32 (f : Int)] 32))
    have hx7 := heap_alloc_new W6 (.cells #[.bool fok, .int .u32 (f : Int)] 32)
    have e0 : (W6.alloc (.cells #[.bool fok, .int .u32 (f : Int)] 32)).cell? ⟨W6.heap.size, 0, none⟩ = some (.bool fok) := by rw [cell_of_row _ _ _ _ _ _ hx7]; rfl
    have e1 : (W6.alloc (.cells #[.bool fok, .int .u32 (f : Int)] 32)).cell? ⟨W6.heap.size, 1, none⟩ = some (.int .u32 (f : Int)) := by rw [cell_of_row _ _ _ _ _ _ hx7]; rfl
    obtain ⟨p0, p1, p2, p3⟩ := cell4 O7.r2
    have fz := fun j => frozen_of_row _ w.heap.size j _ _ O7.r2
    have HO7 := hide O7
    clear O7 hx7 hb6 HO5 hlet
    by_cases hg : k1 = true ∧ k2 = true ∧ fok = true
    · obtain ⟨rfl, rfl, rfl⟩ := hg
      obtain ⟨hA, g1, g2⟩ := ichain_yes IC.out HN1.out HN2.out HL.out
      have HA := hide hA
      have g1' : (n1 : Int) ≤ 4294967295 := by omega
      have g2' : (n2 : Int) ≤ 1000000000000 := by omega
      clear hA IC HN1 HN2 HL
      go_wp2
      exact bodyPost_ret (ret_mailed w.heap.size _ true n1 n2 f rfl rfl (row4_set HO7.out.r2 _ _ _ _)) rfl ⟨true, n1, n2, f, rfl, HA.out, HO7.out.back _ _ _ _⟩
    · have HA := hide (ichain_no IC.out HN1.out HN2.out HL.out (by cases k1 <;> cases k2 <;> cases fok <;> simp at hg ⊢))
      clear IC HN1 HN2 HL
      cases k1 with
      | false =>
        go_wp2
        exact bodyPost_ret (ret_mailed w.heap.size _ false 0 0 0 rfl rfl (row4_set HO7.out.r2 _ _ _ _)) rfl ⟨false, 0, 0, 0, rfl, HA.out, HO7.out.back _ _ _ _⟩
      | true =>
        cases k2 with
        | false =>
          go_wp2
          exact bodyPost_ret (ret_mailed w.heap.size _ false 0 0 0 rfl rfl (row4_set HO7.out.r2 _ _ _ _)) rfl ⟨false, 0, 0, 0, rfl, HA.out, HO7.out.back _ _ _ _⟩
        | true =>
          cases fok with
          | false =>
            go_wp2
            exact bodyPost_ret (ret_mailed w.heap.size _ false 0 0 0 rfl rfl (row4_set HO7.out.r2 _ _ _ _)) rfl ⟨false, 0, 0, 0, rfl, HA.out, HO7.out.back _ _ _ _⟩
          | true => simp at hg
  · have HA := hide (icuts_no IC.out (by cases b1 <;> cases d <;> cases sg <;> simp at hg ⊢))
    clear IC
    cases b1 with
    | false =>
      go_wp2
      exact bodyPost_ret (ret_mailed w.heap.size _ false 0 0 0 rfl rfl (row4_set HO3.out.r2 _ _ _ _)) rfl ⟨false, 0, 0, 0, rfl, HA.out, HO3.out.back _ _ _ _⟩
    | true =>
      cases d with
      | false =>
        go_wp2
        exact bodyPost_ret (ret_mailed w.heap.size _ false 0 0 0 rfl rfl (row4_set HO3.out.r2 _ _ _ _)) rfl ⟨false, 0, 0, 0, rfl, HA.out, HO3.out.back _ _ _ _⟩
      | true =>
        cases sg with
        | false =>
          go_wp2
          exact bodyPost_ret (ret_mailed w.heap.size _ false 0 0 0 rfl rfl (row4_set HO3.out.r2 _ _ _ _)) rfl ⟨false, 0, 0, 0, rfl, HA.out, HO3.out.back _ _ _ _⟩
        | true => simp at hg
end Go.Proofs.YtknnpgffdbkfnaaDoor
