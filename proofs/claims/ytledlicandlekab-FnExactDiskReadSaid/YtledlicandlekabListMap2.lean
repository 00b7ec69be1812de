import Derived.Test.YtledlicandlekabListMap
namespace Go.Proofs.Ytledlicandlekab
open Go.RowKit Go.Maps
/-- No name twice, no node twice. -/
structure Good (es : List EN) : Prop where
  g1 : ∀ s n m, (s, n) ∈ es → (s, m) ∈ es → n = m
  g2 : ∀ s t n, (s, n) ∈ es → (t, n) ∈ es → s = t
/-- The two maps read as the list. -/
structure Reads (D1 D2 : DU) (es : List EN) : Prop where
  m1 : IsMap D1
  ti : Tidy D1
  sz : Maps.size D1 = es.length
  m2 : IsMap D2
  r1 : ∀ s n, (s, n) ∈ es → Maps.has D1 (kS s) = true ∧ D1.atKey (kS s) (.lit (.int .i64 0)) = .lit (.int .i64 n)
  r2 : ∀ s, Maps.has D1 (kS s) = true → ∃ n, (s, n) ∈ es
  r3 : ∀ n, Maps.has D2 (kN n) = true ↔ ∃ s, (s, n) ∈ es
theorem kS_inj {s t : ByteArray} (h : kS s = kS t) : s = t := by
  unfold kS at h
  simp only [Lit.string.injEq] at h
  cases s; cases t
  simpa using h
theorem kN_inj {n m : Int} (h : kN n = kN m) : n = m := by
  unfold kN at h
  simpa using h
theorem mem_noName {es : List EN} {s t : ByteArray} {n : Int} : (t, n) ∈ noName es s ↔ (t, n) ∈ es ∧ t ≠ s := by
  unfold noName
  simp
theorem mem_insE {l : List EN} {nm s : ByteArray} {nd n : Int} : (s, n) ∈ insE l nm nd ↔ (s = nm ∧ n = nd) ∨ (s, n) ∈ l := by
  unfold insE
  rw [List.mem_append, List.mem_cons]
  constructor
  · rintro (h | h | h)
    · exact .inr (List.mem_of_mem_take h)
    · exact .inl (by simpa using h)
    · exact .inr (List.mem_of_mem_drop h)
  · rintro (⟨rfl, rfl⟩ | h)
    · exact .inr (.inl rfl)
    · rw [← List.take_append_drop (posE l nm) l, List.mem_append] at h
      rcases h with h | h
      · exact .inl h
      · exact .inr (.inr h)
/-- A list without a name or a node twice. -/
def Apart (es : List EN) : Prop := es.Pairwise fun x y => x.1 ≠ y.1 ∧ x.2 ≠ y.2
theorem Apart.good {es : List EN} (h : Apart es) : Good es := by
  have hp := List.pairwise_iff_getElem.1 h
  refine ⟨fun s n m h1 h2 => ?_, fun s t n h1 h2 => ?_⟩
  · obtain ⟨i, hi, ei⟩ := List.getElem_of_mem h1
    obtain ⟨j, hj, ej⟩ := List.getElem_of_mem h2
    rcases Nat.lt_trichotomy i j with c | c | c
    · have := (hp i j hi hj c).1; rw [ei, ej] at this; exact absurd rfl this
    · subst c; rw [ei] at ej; simpa using congrArg Prod.snd ej
    · have := (hp j i hj hi c).1; rw [ei, ej] at this; exact absurd rfl this
  · obtain ⟨i, hi, ei⟩ := List.getElem_of_mem h1
    obtain ⟨j, hj, ej⟩ := List.getElem_of_mem h2
    rcases Nat.lt_trichotomy i j with c | c | c
    · have := (hp i j hi hj c).2; rw [ei, ej] at this; exact absurd rfl this
    · subst c; rw [ei] at ej; simpa using congrArg Prod.fst ej
    · have := (hp j i hj hi c).2; rw [ei, ej] at this; exact absurd rfl this
theorem noName_same {es : List EN} {s : ByteArray} (h : ∀ n, (s, n) ∉ es) : noName es s = es := by
  unfold noName
  rw [List.filter_eq_self]
  intro e he
  simp only [ne_eq, decide_not, Bool.not_eq_eq_eq_not, Bool.not_true, decide_eq_false_iff_not]
  intro e2
  exact h e.2 (by rw [← e2]; exact he)
theorem noName_len {es : List EN} (h : Apart es) {s : ByteArray} {n : Int} (hm : (s, n) ∈ es) : (noName es s).length + 1 = es.length := by
  induction es with
  | nil => cases hm
  | cons x r ih =>
    obtain ⟨h1, h2⟩ := List.pairwise_cons.1 h
    by_cases e : x.1 = s
    · have hr : noName r s = r := noName_same (fun m hm' => (h1 _ hm').1 e)
      have : noName (x :: r) s = noName r s := by unfold noName; rw [List.filter_cons_of_neg (by simpa using e)]
      rw [this, hr]
      rfl
    · have : noName (x :: r) s = x :: noName r s := by unfold noName; rw [List.filter_cons_of_pos (by simpa using e)]
      rw [this, List.length_cons, List.length_cons]
      have := ih h2 (by
        rcases List.mem_cons.1 hm with h' | h'
        · exact absurd (by rw [← h']) e
        · exact h')
      omega
theorem insE_len (l : List EN) (nm : ByteArray) (nd : Int) : (insE l nm nd).length = l.length + 1 := by
  unfold insE
  rw [List.length_append, List.length_cons, List.length_take, List.length_drop]
  have : posE l nm ≤ l.length := List.findIdx_le_length
  omega
theorem Apart.noName {es : List EN} (h : Apart es) (s : ByteArray) : Apart (noName es s) := List.Pairwise.sublist List.filter_sublist h
theorem Apart.ins {l : List EN} (h : Apart l) {nm : ByteArray} {nd : Int} (h1 : ∀ n, (nm, n) ∉ l) (h2 : ∀ s, (s, nd) ∉ l) : Apart (insE l nm nd) := by
  have hp : (insE l nm nd).Perm ((nm, nd) :: l) := by
    have := (List.perm_middle (a := ((nm, nd) : EN)) (l₁ := l.take (posE l nm)) (l₂ := l.drop (posE l nm)))
    rw [List.take_append_drop] at this
    exact this
  refine (hp.pairwise_iff (fun {x y} h => ⟨fun e => h.1 e.symm, fun e => h.2 e.symm⟩)).2 ?_
  exact List.pairwise_cons.2 ⟨fun y hy => ⟨fun e => h1 y.2 (by have e' : nm = y.1 := e; rw [e']; exact hy), fun e => h2 y.1 (by have e' : nd = y.2 := e; rw [e']; exact hy)⟩, h⟩
theorem Reads.del {D1 D2 : DU} {es : List EN} {s : ByteArray} {c : Int} (h : Reads D1 D2 es) (ap : Apart es) (hs : Maps.has D1 (kS s) = true) (hc : D1.atKey (kS s) (.lit (.int .i64 0)) = .lit (.int .i64 c)) : Reads (D1.del (kS s)) (D2.del (kN c)) (noName es s) := by
  have g := ap.good
  obtain ⟨n0, hn0⟩ := h.r2 s hs
  have e := (h.r1 s n0 hn0).2
  rw [hc] at e
  have e2 : c = n0 := by simpa using e
  subst e2
  refine ⟨h.m1.del _, h.ti.del _, by have e1 := size_del (k := kS s) h.ti; rw [hs, if_pos rfl, h.sz] at e1; have e2 := noName_len ap hn0; omega, h.m2.del _, fun t n ht => ?_, fun t ht => ?_, fun n => ⟨fun hn => ?_, fun hn => ?_⟩⟩
  · obtain ⟨h1, h2⟩ := mem_noName.1 ht
    have hne : kS t ≠ kS s := fun e => h2 (kS_inj e)
    rw [has_del_other hne, atKey_del_other hne]
    exact h.r1 t n h1
  · have hne : t ≠ s := fun e => by rw [e, has_del_same] at ht; cases ht
    rw [has_del_other (fun e => hne (kS_inj e))] at ht
    obtain ⟨n, hn⟩ := h.r2 t ht
    exact ⟨n, mem_noName.2 ⟨hn, hne⟩⟩
  · have hne : n ≠ c := fun e => by rw [e, has_del_same] at hn; cases hn
    rw [has_del_other (fun e => hne (kN_inj e))] at hn
    obtain ⟨t, ht⟩ := (h.r3 n).1 hn
    exact ⟨t, mem_noName.2 ⟨ht, fun e => hne (g.g1 s n c (by rw [← e]; exact ht) hn0)⟩⟩
  · obtain ⟨t, ht⟩ := hn
    obtain ⟨h1, h2⟩ := mem_noName.1 ht
    have hne : n ≠ c := fun e => h2 (g.g2 t s c (by rw [← e]; exact h1) hn0)
    rw [has_del_other (fun e => hne (kN_inj e))]
    exact (h.r3 n).2 ⟨t, h1⟩
theorem Reads.same {D1 D2 : DU} {es : List EN} {s : ByteArray} (h : Reads D1 D2 es) (hs : Maps.has D1 (kS s) = false) : Reads D1 D2 (noName es s) := by
  rw [noName_same (fun n hn => by rw [(h.r1 s n hn).1] at hs; cases hs)]
  exact h
theorem Good.noName {es : List EN} (g : Good es) (s : ByteArray) : Good (noName es s) := ⟨fun t n m h1 h2 => g.g1 t n m (mem_noName.1 h1).1 (mem_noName.1 h2).1, fun t u n h1 h2 => g.g2 t u n (mem_noName.1 h1).1 (mem_noName.1 h2).1⟩
theorem Good.ins {l : List EN} (g : Good l) {nm : ByteArray} {nd : Int} (h1 : ∀ n, (nm, n) ∉ l) (h2 : ∀ s, (s, nd) ∉ l) : Good (insE l nm nd) := by
  refine ⟨fun s n m a b => ?_, fun s t n a b => ?_⟩
  · rcases mem_insE.1 a with ⟨e1, e2⟩ | a'
    · rcases mem_insE.1 b with ⟨_, e4⟩ | b'
      · rw [e2, e4]
      · exact absurd (by rw [← e1]; exact b') (h1 m)
    · rcases mem_insE.1 b with ⟨e3, _⟩ | b'
      · exact absurd (by rw [← e3]; exact a') (h1 n)
      · exact g.g1 s n m a' b'
  · rcases mem_insE.1 a with ⟨e1, e2⟩ | a'
    · rcases mem_insE.1 b with ⟨e3, _⟩ | b'
      · rw [e1, e3]
      · exact absurd (by rw [← e2]; exact b') (h2 t)
    · rcases mem_insE.1 b with ⟨_, e4⟩ | b'
      · exact absurd (by rw [← e4]; exact a') (h2 s)
      · exact g.g2 s t n a' b'
theorem Reads.put {D1 D2 : DU} {l : List EN} {nm : ByteArray} {nd : Int} (h : Reads D1 D2 l) (hk1 : WideAt.IsKeyLit (kS nm)) (hk2 : WideAt.IsKeyLit (kN nd)) (h1 : ∀ n, (nm, n) ∉ l) : Reads (D1.put (kS nm) (.lit (.int .i64 nd))) (D2.put (kN nd) (.agg [])) (insE l nm nd) := by
  have hno : Maps.has D1 (kS nm) = false := by
    cases e : Maps.has D1 (kS nm) with
    | false => rfl
    | true => obtain ⟨n, hn⟩ := h.r2 nm e; exact absurd hn (h1 n)
  refine ⟨h.m1.put _ _, h.ti.put hk1 _, by rw [size_put h.ti, hno, insE_len, h.sz]; rfl, h.m2.put _ _, fun t n ht => ?_, fun t ht => ?_, fun n => ⟨fun hn => ?_, fun hn => ?_⟩⟩
  · rcases mem_insE.1 ht with ⟨rfl, rfl⟩ | ht
    · exact ⟨has_put_same h.m1 hk1 _, atKey_put_same h.m1 hk1 _ _⟩
    · have hne : kS t ≠ kS nm := fun e => h1 n (by rw [← kS_inj e]; exact ht)
      rw [has_put_other hne, atKey_put_other hne]
      exact h.r1 t n ht
  · by_cases e : t = nm
    · exact ⟨nd, mem_insE.2 (.inl ⟨e, rfl⟩)⟩
    · rw [has_put_other (fun e' => e (kS_inj e'))] at ht
      obtain ⟨n, hn⟩ := h.r2 t ht
      exact ⟨n, mem_insE.2 (.inr hn)⟩
  · by_cases e : n = nd
    · exact ⟨nm, mem_insE.2 (.inl ⟨rfl, e⟩)⟩
    · rw [has_put_other (fun e' => e (kN_inj e'))] at hn
      obtain ⟨t, ht⟩ := (h.r3 n).1 hn
      exact ⟨t, mem_insE.2 (.inr ht)⟩
  · obtain ⟨t, ht⟩ := hn
    by_cases e : n = nd
    · subst e; exact has_put_same h.m2 hk2 _
    · rw [has_put_other (fun e' => e (kN_inj e'))]
      rcases mem_insE.1 ht with ⟨_, e'⟩ | ht
      · exact absurd e' e
      · exact (h.r3 n).2 ⟨t, ht⟩
/-- drop, told by the list. -/
def LstAt (w : World) (b1 b2 n : Nat) (es : List EN) : Prop := ∃ D1 D2, Lst w b1 b2 n D1 D2 ∧ Reads D1 D2 es
theorem drop_list (b1 b2 n : Nat) (es : List EN) (s : ByteArray) (w : World) (hs : s.size ≤ 1048576) (hL : LstAt w b1 b2 n es) (g : Apart es) :
    Calls Try.prog 75 #[lstV b1 b2, .string s] w fun e w' => (∃ v, e = .returned v) ∧ LstAt w' b1 b2 n (noName es s) ∧ Off b1 b2 w w' := by
  obtain ⟨D1, D2, hl, hr⟩ := hL
  refine (drop_any b1 b2 n D1 D2 s w hs hl).mono ?_
  rintro e w' ⟨v, rfl, D1', D2', hl', hb, ⟨hh, rfl, rfl⟩ | ⟨hh, c, hc, rfl, rfl⟩⟩
  · exact ⟨⟨v, rfl⟩, ⟨_, _, hl', hr.same hh⟩, hb⟩
  · exact ⟨⟨v, rfl⟩, ⟨_, _, hl', hr.del g hh hc⟩, hb⟩
theorem has_list (b1 b2 n : Nat) (es : List EN) (s : ByteArray) (w : World) (hs : s.size ≤ 1048576) (hL : LstAt w b1 b2 n es) :
    Calls Try.prog 83 #[lstV b1 b2, .string s] w fun e w' => (∃ r : Bool, e = .returned (.bool r) ∧ (r = true ↔ ∃ m, (s, m) ∈ es)) ∧ Below w.heap.size w w' := by
  obtain ⟨D1, D2, hl, hr⟩ := hL
  have hk := keyS s (by unfold maxLen; omega)
  have hA := (Below.refl w.heap.size w).alloc (Nat.le_refl _) (.cells #[.map (some b1), .map (some b2)] 80)
  have hLA := hl.below hA hl.o1.lt hl.o2.lt
  have HR := hide (show Maps.has D1 (kS s) = true ↔ ∃ m, (s, m) ∈ es from ⟨hr.r2 s, fun ⟨m, hm⟩ => (hr.r1 s m hm).1⟩)
  have HA := hide hA
  have HLA := hide hLA
  unfold lstV
  clear hA hLA hl hr
  generalize hq : Maps.has D1 (kS s) = q at HR
  go_enter Try.func83, Try.ntmps83
  go_wp2_with (at_lookup; refine wpList_lookup_own_ok_int _ rfl _ _ 77 rfl 9 3 .i64 lawStr Try.underlying77 Try.underlying3 (zeroInt _) b1 n D1 rfl HLA.out.o1 _ _ rfl hk ?_; intro c hat hwc)
  go_ret
  exact ⟨⟨q, rfl, HR.out⟩, HA.out⟩
theorem isKeyS (s : ByteArray) : WideAt.IsKeyLit (kS s) := trivial
theorem isKeyN (n : Int) : WideAt.IsKeyLit (kN n) := trivial
theorem Lst.mono {w : World} {b1 b2 n m : Nat} {D1 D2 : DU} (h : Lst w b1 b2 n D1 D2) (hn : n ≤ m) : Lst w b1 b2 m D1 D2 := ⟨h.o1.mono hn, h.o2.mono hn, h.ne⟩
set_option maxRecDepth 20000 in
theorem bind_list (b1 b2 n : Nat) (es : List EN) (s : ByteArray) (nd : Int) (w : World) (hs : s.size ≤ 1048576) (hw : (Lit.int .i64 nd).wf = true) (hn : n ≤ 1048576) (hL : LstAt w b1 b2 n es) (g : Apart es) :
    Calls Try.prog 73 #[lstV b1 b2, .string s, .int .i64 nd] w fun e w' => (∃ v, e = .returned v) ∧ LstAt w' b1 b2 (n + 1) (insE (noName es s) s nd) ∧ Off b1 b2 w w' := by
  have hk := keyS s (by unfold maxLen; omega)
  have hkn := keyN nd hw
  have hpe : plainElem (H := Unit) Try.prog 3 (.int .i64 nd) = some (.lit (.int .i64 nd), []) := plainElem_int Try.underlying3 hw
  have hA := (Below.refl w.heap.size w).alloc (Nat.le_refl _) (.cells #[.map (some b1), .map (some b2)] 80)
  have L0 := Laid.new w #[.map (some b1), .map (some b2)] 80
  have hlt : b1 < w.heap.size ∧ b2 < w.heap.size := by obtain ⟨D1, D2, hl, _⟩ := hL; exact ⟨hl.o1.lt, hl.o2.lt⟩
  have hLA : LstAt (w.alloc (.cells #[.map (some b1), .map (some b2)] 80)) b1 b2 n es := by
    obtain ⟨D1, D2, hl, hr⟩ := hL
    exact ⟨D1, D2, hl.below hA hlt.1 hlt.2, hr⟩
  have DR := hide (drop_list b1 b2 n es s _ hs hLA g)
  have HA := hide hA
  have HL0 := hide L0
  clear hA L0 hLA hL
  unfold lstV at DR ⊢
  go_enter Try.func73, Try.ntmps73
  go_wp2_with fail
  refine (DR.out).mono ?_
  rintro e w2 ⟨⟨v, rfl⟩, ⟨D1, D2, hl2, hr2⟩, hof2⟩
  have hL2 := HL0.out.off hof2 (by omega) (by omega)
  have q0 : w2.cell? ⟨w.heap.size, 0, none⟩ = some (.map (some b1)) := hL2.cell 0
  have HOF := hide ((Off.of_below HA.out).trans hof2)
  have HL2 := hide hL2
  have HLL := hide hl2
  have HRR := hide hr2
  have HMV := hide (fun (w3 : World) (h3 : w2.grownBy w3 (some b1)) => (show w3.cell? ⟨w.heap.size, 1, none⟩ = some (.map (some b2)) from (hL2.off (Off.of_grown (b1 := b1) (b2 := b2) h3 (.inl rfl)) (by omega) (by omega)).cell 1))
  clear hL2 hl2 hr2 hof2 DR
  go_wp2_with (first
    | (at_mapUpdate; refine wpList_mapUpdate_own _ rfl _ _ _ 77 rfl 9 3 lawStr Try.underlying77 (plainElem Try.prog 3) b1 n D1 rfl HLL.out.o1 (by unfold maxLen; omega) _ _ _ rfl rfl hk _ [] hpe ?_; intro w3 ho3 hg3; have HO3 := hide ho3; have HG3 := hide hg3; have q1 := HMV.out w3 hg3; have HP3 := hide (HLL.out.o2.kept hg3 (fun e => HLL.out.ne (by simpa using e.symm))); clear ho3 hg3)
    | (at_mapUpdate; refine wpList_mapUpdate_own _ rfl _ _ _ 78 rfl 3 113 lawInt Try.underlying78 unitElem b2 n D2 rfl HP3.out (by unfold maxLen; omega) _ _ _ rfl rfl hkn _ [] unitElem_mk ?_; intro w4 ho4 hg4; have HO4 := hide ho4; have HG4 := hide hg4; clear ho4 hg4)
    | go_in)
  go_end0
  refine ⟨⟨_, rfl⟩, ⟨_, _, ⟨HO3.out.kept HG4.out (fun e => HLL.out.ne (by simpa using e)), HO4.out, HLL.out.ne⟩, HRR.out.put (isKeyS s) (isKeyN nd) (fun m hm => (mem_noName.1 hm).2 rfl)⟩, (HOF.out.trans (Off.of_grown HG3.out (.inl rfl))).trans (Off.of_grown HG4.out (.inr rfl))⟩
end Go.Proofs.Ytledlicandlekab
