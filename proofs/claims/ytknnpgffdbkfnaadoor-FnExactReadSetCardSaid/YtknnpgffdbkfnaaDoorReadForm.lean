import Derived.Test.YtknnpgffdbkfnaaDoorSpecRd
namespace Go.Proofs.YtknnpgffdbkfnaaDoor
open Go.RowKit
theorem cutIs_same {t a c a' c' : List UInt8} {b : UInt8} {ok : Bool} (h : CutIs t b a c ok) (e : t = a' ++ b :: c') (hn : b ∉ a') : ok = true ∧ a = a' ∧ c = c' := by
  rcases h with ⟨rfl, h, hb⟩ | ⟨rfl, h, _, _⟩
  · have c1 := cut_first a c b [] hb
    have c2 := cut_first a' c' b [] hn
    have h1 : a ++ ([b] ++ c) = a' ++ ([b] ++ c') := by
      have := h.symm.trans e
      simpa using this
    rw [h1] at c1
    have c3 := c1.symm.trans c2
    simp only [Prod.mk.injEq, and_true] at c3
    exact ⟨rfl, c3.1, c3.2⟩
  · exact absurd (by rw [e]; simp) h
theorem form_len {t : List UInt8} {u s : Nat} {is : List Nat} (h : IsNm t u s is) : 4 ≤ t.length ∧ t.length ≤ 100 ∧ t.take 4 = [99, 117, 114, 47] := by
  have h1 := Lib.decDigits_length u
  have h2 := Lib.decDigits_length s
  have h3 := nd_le 9 u (by have := h.u2; omega)
  have h4 := nd_le 12 s (by have := h.s2; omega)
  have h5 : (lets is).length ≤ 31 := by
    have e := congrArg List.length (letters_orB h.good)
    have l := lettersTo_len (orB is) 31
    unfold lets
    rw [List.length_map] at e ⊢
    have : (lettersOf (orB is)).length ≤ 31 := l
    omega
  rw [h.eq]
  unfold nm
  refine ⟨by simp, ?_, rfl⟩
  simp only [List.length_append, List.length_cons, List.length_nil]
  omega
theorem form_drop {t : List UInt8} {u s : Nat} {is : List Nat} (h : IsNm t u s is) : t.drop 4 = (Lib.decDigits u ++ 46 :: Lib.decDigits s) ++ 58 :: 50 :: 44 :: lets is := by
  rw [h.eq]
  unfold nm
  simp
theorem form_cut {t : List UInt8} {u s : Nat} {is : List Nat} (h : IsNm t u s is) {a c : List UInt8} {ok : Bool} (hc : CutIs (t.drop 4) 58 a c ok) : ok = true ∧ a = Lib.decDigits u ++ 46 :: Lib.decDigits s ∧ c = 50 :: 44 :: lets is :=
  cutIs_same hc (form_drop h) (by
    intro hm
    rcases List.mem_append.1 hm with hm | hm
    · exact dec_not not58 hm
    · rcases List.mem_cons.1 hm with hm | hm
      · cases hm
      · exact dec_not not58 hm)
theorem form_dot {u s : Nat} {a c : List UInt8} {ok : Bool} (hc : CutIs (Lib.decDigits u ++ 46 :: Lib.decDigits s) 46 a c ok) : ok = true ∧ a = Lib.decDigits u ∧ c = Lib.decDigits s := cutIs_same hc rfl (dec_not not46)
theorem form_num {u n : Nat} {ok : Bool} (hu : u < 10000000000000) (h : NumIs (Lib.decDigits u) n ok) : ok = true ∧ n = u := by
  rcases h with ⟨rfl, e, _⟩ | ⟨rfl, h⟩
  · exact ⟨rfl, (dec_inj e).symm⟩
  · exact absurd rfl (h u hu)
theorem form_let {is : List Nat} {f : Nat} {ok : Bool} (hg : Good is) (h : AnsIs ((lets is).map UInt8.toNat) ok f) : ok = true ∧ f = orB is := by
  rw [lets_nat hg] at h
  exact ans_same h (Or.inl ⟨rfl, is, hg, rfl, rfl⟩)
/-- All that the specification finds of a name. -/
structure Chain (t a c a2 c2 : List UInt8) (ok ok2 k1 k2 fok : Bool) (n1 n2 f : Nat) : Prop where
  cut : CutIs (t.drop 4) 58 a c ok
  dot : CutIs a 46 a2 c2 ok2
  num1 : NumIs a2 n1 k1
  num2 : NumIs c2 n2 k2
  let_ : AnsIs ((c.drop 2).map UInt8.toNat) fok f
theorem chain_form {t a c a2 c2 : List UInt8} {ok ok2 k1 k2 fok : Bool} {n1 n2 f : Nat} (h : Chain t a c a2 c2 ok ok2 k1 k2 fok n1 n2 f) {u s : Nat} {is : List Nat} (hF : IsNm t u s is) : ok2 = true ∧ k1 = true ∧ k2 = true ∧ fok = true ∧ n1 = u ∧ n2 = s ∧ f = orB is := by
  obtain ⟨_, rfl, rfl⟩ := form_cut hF h.cut
  obtain ⟨rfl, rfl, rfl⟩ := form_dot h.dot
  obtain ⟨rfl, rfl⟩ := form_num (by have := hF.u2; omega) h.num1
  obtain ⟨rfl, rfl⟩ := form_num (by have := hF.s2; omega) h.num2
  obtain ⟨rfl, rfl⟩ := form_let hF.good h.let_
  exact ⟨rfl, rfl, rfl, rfl, rfl, rfl, rfl⟩
/-- Where all is well and the name made again is the name, it is one. -/
theorem chain_yes {t a c a2 c2 : List UInt8} {ok ok2 k1 k2 : Bool} {n1 n2 f : Nat} (h : Chain t a c a2 c2 ok ok2 k1 k2 true n1 n2 f) (h1 : 1 ≤ n1) (h2 : n1 ≤ 4294967295) (h4 : 4 ≤ t.length) (he : (nameOf n1 (n2 : Int) f).data.toList = t) : AnsM t true n1 n2 f := by
  have hs : n2 ≤ 1000000000000 := by
    by_cases hs : n2 ≤ 1000000000000
    · exact hs
    · rw [nameOf_bad f (by omega)] at he
      rw [← he] at h4
      simp at h4
  rcases h.let_ with ⟨_, is, hg, hl, rfl⟩ | ⟨hf, _⟩
  · rw [nameOf_nm h1 hs hg] at he
    exact Or.inl ⟨rfl, is, ⟨hg, h1, by omega, hs, he.symm⟩, rfl⟩
  · cases hf
theorem chain_no {t a c a2 c2 : List UInt8} {ok ok2 k1 k2 fok : Bool} {n1 n2 f : Nat} (h : Chain t a c a2 c2 ok ok2 k1 k2 fok n1 n2 f) (hn : ok2 = false ∨ k1 = false ∨ k2 = false ∨ fok = false ∨ n1 < 1 ∨ 4294967295 < n1 ∨ (nameOf n1 (n2 : Int) f).data.toList ≠ t) : AnsM t false 0 0 0 := by
  refine Or.inr ⟨rfl, rfl, rfl, rfl, ?_⟩
  rintro ⟨u, s, is, hF⟩
  obtain ⟨e1, e2, e3, e4, e5, e6, e7⟩ := chain_form h hF
  rcases hn with hn | hn | hn | hn | hn | hn | hn
  · rw [e1] at hn; cases hn
  · rw [e2] at hn; cases hn
  · rw [e3] at hn; cases hn
  · rw [e4] at hn; cases hn
  · have := hF.u1; omega
  · have := hF.u2; omega
  · rw [e5, e6, e7] at hn
    exact hn (by rw [nameOf_nm hF.u1 hF.s2 hF.good]; exact hF.eq.symm)
theorem no_len {t : List UInt8} (h : 100 < t.length ∨ t.length < 4 ∨ t.take 4 ≠ [99, 117, 114, 47]) : AnsM t false 0 0 0 := by
  refine Or.inr ⟨rfl, rfl, rfl, rfl, ?_⟩
  rintro ⟨u, s, is, hF⟩
  obtain ⟨h1, h2, h3⟩ := form_len hF
  rcases h with h | h | h
  · omega
  · omega
  · exact h h3
theorem no_cut {t a c : List UInt8} {ok : Bool} (hc : CutIs (t.drop 4) 58 a c ok) (h : ok = false ∨ c.length < 2 ∨ c.take 2 ≠ [50, 44]) : AnsM t false 0 0 0 := by
  refine Or.inr ⟨rfl, rfl, rfl, rfl, ?_⟩
  rintro ⟨u, s, is, hF⟩
  obtain ⟨h1, h2, h3⟩ := form_cut hF hc
  rcases h with h | h | h
  · rw [h1] at h; cases h
  · rw [h3] at h; simp at h; omega
  · rw [h3] at h; exact h rfl
end Go.Proofs.YtknnpgffdbkfnaaDoor
