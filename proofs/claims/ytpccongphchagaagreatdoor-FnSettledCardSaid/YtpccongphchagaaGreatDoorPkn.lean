import Derived.Test.YtpccongphchagaaGreatDoorPkg
import Derived.Test.YtpccongphchagaaGreatDoorPkm
import Derived.Deep.Cut
namespace Go.Proofs.YtpccongphchagaaGreatDoor
open Go.RowKit Go.Maps
def kS (s : ByteArray) : Lit := .string s.data.toList
def kN (n : Int) : Lit := .int .i64 n
theorem lawStr : Keyed Tryz.prog 9 := string_keyed Tryz.underlying9
theorem zeroInt (w : World) : (zeroValue 3).run Tryz.prog w = .ok (.int .i64 0) w := by kernel_rfl
theorem keyS (s : ByteArray) (h : s.size ≤ maxLen) : keyOf Tryz.prog 9 (.string s) = some (kS s) := by
  rw [keyOf_string Tryz.underlying9]
  simp [mapKey, Tryz.underlying9, h, kS]
theorem keyN (n : Int) (h : (Lit.int .i64 n).wf = true) : keyOf Tryz.prog 3 (.int .i64 n) = some (kN n) := keyOf_int_mk Tryz.underlying3 h
abbrev DU := DataW Unit
/-- A listing: its two maps, in blocks of their own. -/
structure Lst (w : World) (b1 b2 n : Nat) (D1 D2 : DU) : Prop where
  o1 : w.ownsMap Tryz.prog 9 (plainElem Tryz.prog 3) b1 n D1
  o2 : w.ownsMap Tryz.prog 3 unitElem b2 n D2
  ne : b1 ≠ b2
def lstV (b1 b2 : Nat) : Value := .agg #[.map (some b1), .map (some b2)]
theorem Lst.below {B : Nat} {w w' : World} {b1 b2 n : Nat} {D1 D2 : DU} (h : Lst w b1 b2 n D1 D2) (hb : Below B w w') (h1 : b1 < B) (h2 : b2 < B) : Lst w' b1 b2 n D1 D2 := ⟨ownsMap_below h.o1 hb h1, ownsMap_below h.o2 hb h2, h.ne⟩
/-- Nothing but two blocks may have changed. -/
structure Off (b1 b2 : Nat) (w w' : World) : Prop where
  os : w'.os = w.os
  tape : w'.tape = w.tape
  output : w'.output = w.output
  size : w.heap.size ≤ w'.heap.size
  block : ∀ k, k < w.heap.size → k ≠ b1 → k ≠ b2 → w'.heap[k]? = w.heap[k]?
theorem Off.trans {b1 b2 : Nat} {a b c : World} (h : Off b1 b2 a b) (k : Off b1 b2 b c) : Off b1 b2 a c :=
  ⟨k.os.trans h.os, k.tape.trans h.tape, k.output.trans h.output, Nat.le_trans h.size k.size, fun j hj h1 h2 => (k.block j (Nat.lt_of_lt_of_le hj h.size) h1 h2).trans (h.block j hj h1 h2)⟩
theorem Off.of_below {b1 b2 : Nat} {w w' : World} (h : Below w.heap.size w w') : Off b1 b2 w w' := ⟨h.os, h.tape, h.output, h.size, fun k hk _ _ => h.block k hk⟩
theorem Off.of_grown {b1 b2 b : Nat} {w w' : World} (h : w.grownBy w' (some b)) (hb : b = b1 ∨ b = b2) : Off b1 b2 w w' :=
  ⟨h.os, h.tape, h.output, h.size, fun k hk h1 h2 => h.block k hk (fun e => by simp only [Option.some.injEq] at e; rcases hb with rfl | rfl <;> omega)⟩
theorem Off.below {b1 b2 B : Nat} {w w' : World} (h : Off b1 b2 w w') (h1 : B ≤ b1) (h2 : B ≤ b2) (hB : B ≤ w.heap.size) : Below B w w' :=
  ⟨h.os, h.tape, h.output, h.size, fun k hk => h.block k (by omega) (by omega) (by omega)⟩
theorem Laid.off {b1 b2 g : Nat} {w w' : World} {cs : Array Value} {t : TypeId} (h : Laid w g cs t) (ho : Off b1 b2 w w') (h1 : g ≠ b1) (h2 : g ≠ b2) : Laid w' g cs t := (ho.block g h.lt h1 h2).trans h
/-- What drop leaves. -/
def DropPost (w : World) (b1 b2 n : Nat) (D1 D2 : DU) (s : ByteArray) (e : Ending) (w' : World) : Prop := ∃ v, e = .returned v ∧ ∃ D1' D2', Lst w' b1 b2 n D1' D2' ∧ Off b1 b2 w w' ∧
  ((Maps.has D1 (kS s) = false ∧ D1' = D1 ∧ D2' = D2) ∨ (Maps.has D1 (kS s) = true ∧ ∃ c : Int, D1.atKey (kS s) (.lit (.int .i64 0)) = .lit (.int .i64 c) ∧ D1' = D1.del (kS s) ∧ D2' = D2.del (kN c)))
set_option maxRecDepth 20000 in
theorem drop_any (b1 b2 n : Nat) (D1 D2 : DU) (s : ByteArray) (w : World) (hs : s.size ≤ 1048576) (hL : Lst w b1 b2 n D1 D2) :
    Calls Tryz.prog 62 #[lstV b1 b2, .string s] w (DropPost w b1 b2 n D1 D2 s) := by
  have hk := keyS s (by unfold maxLen; omega)
  have hA := (Below.refl w.heap.size w).alloc (Nat.le_refl _) (.cells #[.map (some b1), .map (some b2)] 77)
  have L0 := Laid.new w #[.map (some b1), .map (some b2)] 77
  have hLA := hL.below hA hL.o1.lt hL.o2.lt
  unfold lstV
  have HA := hide hA
  have HLA := hide hLA
  have HL := hide hL
  have HL0 := hide L0
  clear hA hLA hL L0
  have hb1 := HL.out.o1.lt
  have hb2 := HL.out.o2.lt
  cases hh : Maps.has D1 (kS s) with
  | false =>
    go_enter Tryz.func62, Tryz.ntmps62
    go_wp2_with (at_lookup; refine wpList_lookup_own_ok_int _ rfl _ _ 74 rfl 9 3 .i64 lawStr Tryz.underlying74 Tryz.underlying3 (zeroInt _) b1 n D1 rfl HLA.out.o1 _ _ rfl hk ?_; intro c hat hwc)
    go_end0
    exact ⟨_, rfl, D1, D2, HLA.out, Off.of_below HA.out, .inl ⟨hh, rfl, rfl⟩⟩
  | true =>
    have hmv : ∀ w3 : World, (w.alloc (.cells #[.map (some b1), .map (some b2)] 77)).mapTurned w3 b2 → w3.cell? ⟨w.heap.size, 0, none⟩ = some (.map (some b1)) := fun w3 ht => by
      have h : Laid w3 w.heap.size #[.map (some b1), .map (some b2)] 77 := (ht.grown.block w.heap.size HL0.out.lt (fun e => by simp at e; omega)).trans HL0.out
      exact h.cell 0
    have HMV := hide hmv
    have HH := hide hh
    clear hmv
    go_enter Tryz.func62, Tryz.ntmps62
    go_wp2_with (first
      | (at_lookup; refine wpList_lookup_own_ok_int _ rfl _ _ 74 rfl 9 3 .i64 lawStr Tryz.underlying74 Tryz.underlying3 (zeroInt _) b1 n D1 rfl HLA.out.o1 _ _ rfl hk ?_; intro c hat hwc; have HAT := hide hat; have hkc := keyN c hwc; clear hat)
      | (at_delete; refine wpList_delete_own _ rfl _ _ 75 3 rfl 108 lawInt Tryz.underlying75 unitElem b2 n D2 rfl HLA.out.o2 _ _ rfl hkc ?_; intro w3 ho3 ht3; have HO3 := hide ho3; have HT3 := hide ht3; have q0 := HMV.out w3 ht3; have HP3 := hide (HLA.out.o1.kept ht3.grown (fun e => HL.out.ne (by simpa using e))); clear ho3 ht3)
      | (at_delete; refine wpList_delete_own _ rfl _ _ 74 9 rfl 3 lawStr Tryz.underlying74 (plainElem Tryz.prog 3) b1 n D1 rfl HP3.out _ _ rfl hk ?_; intro w4 ho4 ht4; have HO4 := hide ho4; have HT4 := hide ht4; clear ho4 ht4))
    go_end0
    refine ⟨_, rfl, _, _, ⟨HO4.out, HO3.out.kept HT4.out.grown (fun e => HL.out.ne (by simpa using e.symm)), HL.out.ne⟩, ?_, .inr ⟨HH.out, c, HAT.out, rfl, rfl⟩⟩
    exact ((Off.of_below HA.out).trans (Off.of_grown HT3.out.grown (.inr rfl))).trans (Off.of_grown HT4.out.grown (.inl rfl))
end Go.Proofs.YtpccongphchagaaGreatDoor
namespace Go.Proofs.YtpccongphchagaaGreatDoor
open Go.RowKit Go.Maps
/-- No name twice, no node twice. -/
structure Good (es : List EN) : Prop where
  g1 : ∀ s n m, (s, n) ∈ es → (s, m) ∈ es → n = m
  g2 : ∀ s t n, (s, n) ∈ es → (t, n) ∈ es → s = t
/-- The two maps read as the list. -/
structure Reads (D1 D2 : DU) (es : List EN) : Prop where
  m1 : IsMap D1
  ti : Tidy D1
  sz : Maps.size D1 = es.length
  m2 : IsMap D2
  r1 : ∀ s n, (s, n) ∈ es → Maps.has D1 (kS s) = true ∧ D1.atKey (kS s) (.lit (.int .i64 0)) = .lit (.int .i64 n)
  r2 : ∀ s, Maps.has D1 (kS s) = true → ∃ n, (s, n) ∈ es
  r3 : ∀ n, Maps.has D2 (kN n) = true ↔ ∃ s, (s, n) ∈ es
theorem kS_inj {s t : ByteArray} (h : kS s = kS t) : s = t := by
  unfold kS at h
  simp only [Lit.string.injEq] at h
  cases s; cases t
  simpa using h
theorem kN_inj {n m : Int} (h : kN n = kN m) : n = m := by
  unfold kN at h
  simpa using h
theorem mem_noName {es : List EN} {s t : ByteArray} {n : Int} : (t, n) ∈ noName es s ↔ (t, n) ∈ es ∧ t ≠ s := by
  unfold noName
  simp
theorem mem_insE {l : List EN} {nm s : ByteArray} {nd n : Int} : (s, n) ∈ insE l nm nd ↔ (s = nm ∧ n = nd) ∨ (s, n) ∈ l := by
  unfold insE
  rw [List.mem_append, List.mem_cons]
  constructor
  · rintro (h | h | h)
    · exact .inr (List.mem_of_mem_take h)
    · exact .inl (by simpa using h)
    · exact .inr (List.mem_of_mem_drop h)
  · rintro (⟨rfl, rfl⟩ | h)
    · exact .inr (.inl rfl)
    · rw [← List.take_append_drop (posE l nm) l, List.mem_append] at h
      rcases h with h | h
      · exact .inl h
      · exact .inr (.inr h)
/-- A list without a name or a node twice. -/
def Apart (es : List EN) : Prop := es.Pairwise fun x y => x.1 ≠ y.1 ∧ x.2 ≠ y.2
theorem Apart.good {es : List EN} (h : Apart es) : Good es := by
  have hp := List.pairwise_iff_getElem.1 h
  refine ⟨fun s n m h1 h2 => ?_, fun s t n h1 h2 => ?_⟩
  · obtain ⟨i, hi, ei⟩ := List.getElem_of_mem h1
    obtain ⟨j, hj, ej⟩ := List.getElem_of_mem h2
    rcases Nat.lt_trichotomy i j with c | c | c
    · have := (hp i j hi hj c).1; rw [ei, ej] at this; exact absurd rfl this
    · subst c; rw [ei] at ej; simpa using congrArg Prod.snd ej
    · have := (hp j i hj hi c).1; rw [ei, ej] at this; exact absurd rfl this
  · obtain ⟨i, hi, ei⟩ := List.getElem_of_mem h1
    obtain ⟨j, hj, ej⟩ := List.getElem_of_mem h2
    rcases Nat.lt_trichotomy i j with c | c | c
    · have := (hp i j hi hj c).2; rw [ei, ej] at this; exact absurd rfl this
    · subst c; rw [ei] at ej; simpa using congrArg Prod.fst ej
    · have := (hp j i hj hi c).2; rw [ei, ej] at this; exact absurd rfl this
theorem noName_same {es : List EN} {s : ByteArray} (h : ∀ n, (s, n) ∉ es) : noName es s = es := by
  unfold noName
  rw [List.filter_eq_self]
  intro e he
  simp only [ne_eq, decide_not, Bool.not_eq_eq_eq_not, Bool.not_true, decide_eq_false_iff_not]
  intro e2
  exact h e.2 (by rw [← e2]; exact he)
theorem noName_len {es : List EN} (h : Apart es) {s : ByteArray} {n : Int} (hm : (s, n) ∈ es) : (noName es s).length + 1 = es.length := by
  induction es with
  | nil => cases hm
  | cons x r ih =>
    obtain ⟨h1, h2⟩ := List.pairwise_cons.1 h
    by_cases e : x.1 = s
    · have hr : noName r s = r := noName_same (fun m hm' => (h1 _ hm').1 e)
      have : noName (x :: r) s = noName r s := by unfold noName; rw [List.filter_cons_of_neg (by simpa using e)]
      rw [this, hr]
      rfl
    · have : noName (x :: r) s = x :: noName r s := by unfold noName; rw [List.filter_cons_of_pos (by simpa using e)]
      rw [this, List.length_cons, List.length_cons]
      have := ih h2 (by
        rcases List.mem_cons.1 hm with h' | h'
        · exact absurd (by rw [← h']) e
        · exact h')
      omega
theorem insE_len (l : List EN) (nm : ByteArray) (nd : Int) : (insE l nm nd).length = l.length + 1 := by
  unfold insE
  rw [List.length_append, List.length_cons, List.length_take, List.length_drop]
  have : posE l nm ≤ l.length := List.findIdx_le_length
  omega
theorem Apart.noName {es : List EN} (h : Apart es) (s : ByteArray) : Apart (noName es s) := List.Pairwise.sublist List.filter_sublist h
theorem Apart.ins {l : List EN} (h : Apart l) {nm : ByteArray} {nd : Int} (h1 : ∀ n, (nm, n) ∉ l) (h2 : ∀ s, (s, nd) ∉ l) : Apart (insE l nm nd) := by
  have hp : (insE l nm nd).Perm ((nm, nd) :: l) := by
    have := (List.perm_middle (a := ((nm, nd) : EN)) (l₁ := l.take (posE l nm)) (l₂ := l.drop (posE l nm)))
    rw [List.take_append_drop] at this
    exact this
  refine (hp.pairwise_iff (fun {x y} h => ⟨fun e => h.1 e.symm, fun e => h.2 e.symm⟩)).2 ?_
  exact List.pairwise_cons.2 ⟨fun y hy => ⟨fun e => h1 y.2 (by have e' : nm = y.1 := e; rw [e']; exact hy), fun e => h2 y.1 (by have e' : nd = y.2 := e; rw [e']; exact hy)⟩, h⟩
theorem Reads.del {D1 D2 : DU} {es : List EN} {s : ByteArray} {c : Int} (h : Reads D1 D2 es) (ap : Apart es) (hs : Maps.has D1 (kS s) = true) (hc : D1.atKey (kS s) (.lit (.int .i64 0)) = .lit (.int .i64 c)) : Reads (D1.del (kS s)) (D2.del (kN c)) (noName es s) := by
  have g := ap.good
  obtain ⟨n0, hn0⟩ := h.r2 s hs
  have e := (h.r1 s n0 hn0).2
  rw [hc] at e
  have e2 : c = n0 := by simpa using e
  subst e2
  refine ⟨h.m1.del _, h.ti.del _, by have e1 := size_del (k := kS s) h.ti; rw [hs, if_pos rfl, h.sz] at e1; have e2 := noName_len ap hn0; omega, h.m2.del _, fun t n ht => ?_, fun t ht => ?_, fun n => ⟨fun hn => ?_, fun hn => ?_⟩⟩
  · obtain ⟨h1, h2⟩ := mem_noName.1 ht
    have hne : kS t ≠ kS s := fun e => h2 (kS_inj e)
    rw [has_del_other hne, atKey_del_other hne]
    exact h.r1 t n h1
  · have hne : t ≠ s := fun e => by rw [e, has_del_same] at ht; cases ht
    rw [has_del_other (fun e => hne (kS_inj e))] at ht
    obtain ⟨n, hn⟩ := h.r2 t ht
    exact ⟨n, mem_noName.2 ⟨hn, hne⟩⟩
  · have hne : n ≠ c := fun e => by rw [e, has_del_same] at hn; cases hn
    rw [has_del_other (fun e => hne (kN_inj e))] at hn
    obtain ⟨t, ht⟩ := (h.r3 n).1 hn
    exact ⟨t, mem_noName.2 ⟨ht, fun e => hne (g.g1 s n c (by rw [← e]; exact ht) hn0)⟩⟩
  · obtain ⟨t, ht⟩ := hn
    obtain ⟨h1, h2⟩ := mem_noName.1 ht
    have hne : n ≠ c := fun e => h2 (g.g2 t s c (by rw [← e]; exact h1) hn0)
    rw [has_del_other (fun e => hne (kN_inj e))]
    exact (h.r3 n).2 ⟨t, h1⟩
theorem Reads.same {D1 D2 : DU} {es : List EN} {s : ByteArray} (h : Reads D1 D2 es) (hs : Maps.has D1 (kS s) = false) : Reads D1 D2 (noName es s) := by
  rw [noName_same (fun n hn => by rw [(h.r1 s n hn).1] at hs; cases hs)]
  exact h
theorem Good.noName {es : List EN} (g : Good es) (s : ByteArray) : Good (noName es s) := ⟨fun t n m h1 h2 => g.g1 t n m (mem_noName.1 h1).1 (mem_noName.1 h2).1, fun t u n h1 h2 => g.g2 t u n (mem_noName.1 h1).1 (mem_noName.1 h2).1⟩
theorem Good.ins {l : List EN} (g : Good l) {nm : ByteArray} {nd : Int} (h1 : ∀ n, (nm, n) ∉ l) (h2 : ∀ s, (s, nd) ∉ l) : Good (insE l nm nd) := by
  refine ⟨fun s n m a b => ?_, fun s t n a b => ?_⟩
  · rcases mem_insE.1 a with ⟨e1, e2⟩ | a'
    · rcases mem_insE.1 b with ⟨_, e4⟩ | b'
      · rw [e2, e4]
      · exact absurd (by rw [← e1]; exact b') (h1 m)
    · rcases mem_insE.1 b with ⟨e3, _⟩ | b'
      · exact absurd (by rw [← e3]; exact a') (h1 n)
      · exact g.g1 s n m a' b'
  · rcases mem_insE.1 a with ⟨e1, e2⟩ | a'
    · rcases mem_insE.1 b with ⟨e3, _⟩ | b'
      · rw [e1, e3]
      · exact absurd (by rw [← e2]; exact b') (h2 t)
    · rcases mem_insE.1 b with ⟨_, e4⟩ | b'
      · exact absurd (by rw [← e4]; exact a') (h2 s)
      · exact g.g2 s t n a' b'
theorem Reads.put {D1 D2 : DU} {l : List EN} {nm : ByteArray} {nd : Int} (h : Reads D1 D2 l) (hk1 : WideAt.IsKeyLit (kS nm)) (hk2 : WideAt.IsKeyLit (kN nd)) (h1 : ∀ n, (nm, n) ∉ l) : Reads (D1.put (kS nm) (.lit (.int .i64 nd))) (D2.put (kN nd) (.agg [])) (insE l nm nd) := by
  have hno : Maps.has D1 (kS nm) = false := by
    cases e : Maps.has D1 (kS nm) with
    | false => rfl
    | true => obtain ⟨n, hn⟩ := h.r2 nm e; exact absurd hn (h1 n)
  refine ⟨h.m1.put _ _, h.ti.put hk1 _, by rw [size_put h.ti, hno, insE_len, h.sz]; rfl, h.m2.put _ _, fun t n ht => ?_, fun t ht => ?_, fun n => ⟨fun hn => ?_, fun hn => ?_⟩⟩
  · rcases mem_insE.1 ht with ⟨rfl, rfl⟩ | ht
    · exact ⟨has_put_same h.m1 hk1 _, atKey_put_same h.m1 hk1 _ _⟩
    · have hne : kS t ≠ kS nm := fun e => h1 n (by rw [← kS_inj e]; exact ht)
      rw [has_put_other hne, atKey_put_other hne]
      exact h.r1 t n ht
  · by_cases e : t = nm
    · exact ⟨nd, mem_insE.2 (.inl ⟨e, rfl⟩)⟩
    · rw [has_put_other (fun e' => e (kS_inj e'))] at ht
      obtain ⟨n, hn⟩ := h.r2 t ht
      exact ⟨n, mem_insE.2 (.inr hn)⟩
  · by_cases e : n = nd
    · exact ⟨nm, mem_insE.2 (.inl ⟨rfl, e⟩)⟩
    · rw [has_put_other (fun e' => e (kN_inj e'))] at hn
      obtain ⟨t, ht⟩ := (h.r3 n).1 hn
      exact ⟨t, mem_insE.2 (.inr ht)⟩
  · obtain ⟨t, ht⟩ := hn
    by_cases e : n = nd
    · subst e; exact has_put_same h.m2 hk2 _
    · rw [has_put_other (fun e' => e (kN_inj e'))]
      rcases mem_insE.1 ht with ⟨_, e'⟩ | ht
      · exact absurd e' e
      · exact (h.r3 n).2 ⟨t, ht⟩
/-- drop, told by the list. -/
def LstAt (w : World) (b1 b2 n : Nat) (es : List EN) : Prop := ∃ D1 D2, Lst w b1 b2 n D1 D2 ∧ Reads D1 D2 es
theorem drop_list (b1 b2 n : Nat) (es : List EN) (s : ByteArray) (w : World) (hs : s.size ≤ 1048576) (hL : LstAt w b1 b2 n es) (g : Apart es) :
    Calls Tryz.prog 62 #[lstV b1 b2, .string s] w fun e w' => (∃ v, e = .returned v) ∧ LstAt w' b1 b2 n (noName es s) ∧ Off b1 b2 w w' := by
  obtain ⟨D1, D2, hl, hr⟩ := hL
  refine (drop_any b1 b2 n D1 D2 s w hs hl).mono ?_
  rintro e w' ⟨v, rfl, D1', D2', hl', hb, ⟨hh, rfl, rfl⟩ | ⟨hh, c, hc, rfl, rfl⟩⟩
  · exact ⟨⟨v, rfl⟩, ⟨_, _, hl', hr.same hh⟩, hb⟩
  · exact ⟨⟨v, rfl⟩, ⟨_, _, hl', hr.del g hh hc⟩, hb⟩
theorem has_list (b1 b2 n : Nat) (es : List EN) (s : ByteArray) (w : World) (hs : s.size ≤ 1048576) (hL : LstAt w b1 b2 n es) :
    Calls Tryz.prog 71 #[lstV b1 b2, .string s] w fun e w' => (∃ r : Bool, e = .returned (.bool r) ∧ (r = true ↔ ∃ m, (s, m) ∈ es)) ∧ Below w.heap.size w w' := by
  obtain ⟨D1, D2, hl, hr⟩ := hL
  have hk := keyS s (by unfold maxLen; omega)
  have hA := (Below.refl w.heap.size w).alloc (Nat.le_refl _) (.cells #[.map (some b1), .map (some b2)] 77)
  have hLA := hl.below hA hl.o1.lt hl.o2.lt
  have HR := hide (show Maps.has D1 (kS s) = true ↔ ∃ m, (s, m) ∈ es from ⟨hr.r2 s, fun ⟨m, hm⟩ => (hr.r1 s m hm).1⟩)
  have HA := hide hA
  have HLA := hide hLA
  unfold lstV
  clear hA hLA hl hr
  generalize hq : Maps.has D1 (kS s) = q at HR
  go_enter Tryz.func71, Tryz.ntmps71
  go_wp2_with (at_lookup; refine wpList_lookup_own_ok_int _ rfl _ _ 74 rfl 9 3 .i64 lawStr Tryz.underlying74 Tryz.underlying3 (zeroInt _) b1 n D1 rfl HLA.out.o1 _ _ rfl hk ?_; intro c hat hwc)
  go_ret
  exact ⟨⟨q, rfl, HR.out⟩, HA.out⟩
theorem isKeyS (s : ByteArray) : WideAt.IsKeyLit (kS s) := trivial
theorem isKeyN (n : Int) : WideAt.IsKeyLit (kN n) := trivial
theorem Lst.mono {w : World} {b1 b2 n m : Nat} {D1 D2 : DU} (h : Lst w b1 b2 n D1 D2) (hn : n ≤ m) : Lst w b1 b2 m D1 D2 := ⟨h.o1.mono hn, h.o2.mono hn, h.ne⟩
set_option maxRecDepth 20000 in
theorem bind_list (b1 b2 n : Nat) (es : List EN) (s : ByteArray) (nd : Int) (w : World) (hs : s.size ≤ 1048576) (hw : (Lit.int .i64 nd).wf = true) (hn : n ≤ 1048576) (hL : LstAt w b1 b2 n es) (g : Apart es) :
    Calls Tryz.prog 60 #[lstV b1 b2, .string s, .int .i64 nd] w fun e w' => (∃ v, e = .returned v) ∧ LstAt w' b1 b2 (n + 1) (insE (noName es s) s nd) ∧ Off b1 b2 w w' := by
  have hk := keyS s (by unfold maxLen; omega)
  have hkn := keyN nd hw
  have hpe : plainElem (H := Unit) Tryz.prog 3 (.int .i64 nd) = some (.lit (.int .i64 nd), []) := plainElem_int Tryz.underlying3 hw
  have hA := (Below.refl w.heap.size w).alloc (Nat.le_refl _) (.cells #[.map (some b1), .map (some b2)] 77)
  have L0 := Laid.new w #[.map (some b1), .map (some b2)] 77
  have hlt : b1 < w.heap.size ∧ b2 < w.heap.size := by obtain ⟨D1, D2, hl, _⟩ := hL; exact ⟨hl.o1.lt, hl.o2.lt⟩
  have hLA : LstAt (w.alloc (.cells #[.map (some b1), .map (some b2)] 77)) b1 b2 n es := by
    obtain ⟨D1, D2, hl, hr⟩ := hL
    exact ⟨D1, D2, hl.below hA hlt.1 hlt.2, hr⟩
  have DR := hide (drop_list b1 b2 n es s _ hs hLA g)
  have HA := hide hA
  have HL0 := hide L0
  clear hA L0 hLA hL
  unfold lstV at DR ⊢
  go_enter Tryz.func60, Tryz.ntmps60
  go_wp2_with fail
  refine (DR.out).mono ?_
  rintro e w2 ⟨⟨v, rfl⟩, ⟨D1, D2, hl2, hr2⟩, hof2⟩
  have hL2 := HL0.out.off hof2 (by omega) (by omega)
  have q0 : w2.cell? ⟨w.heap.size, 0, none⟩ = some (.map (some b1)) := hL2.cell 0
  have HOF := hide ((Off.of_below HA.out).trans hof2)
  have HL2 := hide hL2
  have HLL := hide hl2
  have HRR := hide hr2
  have HMV := hide (fun (w3 : World) (h3 : w2.grownBy w3 (some b1)) => (show w3.cell? ⟨w.heap.size, 1, none⟩ = some (.map (some b2)) from (hL2.off (Off.of_grown (b1 := b1) (b2 := b2) h3 (.inl rfl)) (by omega) (by omega)).cell 1))
  clear hL2 hl2 hr2 hof2 DR
  go_wp2_with (first
    | (at_mapUpdate; refine wpList_mapUpdate_own _ rfl _ _ _ 74 rfl 9 3 lawStr Tryz.underlying74 (plainElem Tryz.prog 3) b1 n D1 rfl HLL.out.o1 (by unfold maxLen; omega) _ _ _ rfl rfl hk _ [] hpe ?_; intro w3 ho3 hg3; have HO3 := hide ho3; have HG3 := hide hg3; have q1 := HMV.out w3 hg3; have HP3 := hide (HLL.out.o2.kept hg3 (fun e => HLL.out.ne (by simpa using e.symm))); clear ho3 hg3)
    | (at_mapUpdate; refine wpList_mapUpdate_own _ rfl _ _ _ 75 rfl 3 108 lawInt Tryz.underlying75 unitElem b2 n D2 rfl HP3.out (by unfold maxLen; omega) _ _ _ rfl rfl hkn _ [] unitElem_mk ?_; intro w4 ho4 hg4; have HO4 := hide ho4; have HG4 := hide hg4; clear ho4 hg4)
    | go_in)
  go_end0
  refine ⟨⟨_, rfl⟩, ⟨_, _, ⟨HO3.out.kept HG4.out (fun e => HLL.out.ne (by simpa using e)), HO4.out, HLL.out.ne⟩, HRR.out.put (isKeyS s) (isKeyN nd) (fun m hm => (mem_noName.1 hm).2 rfl)⟩, (HOF.out.trans (Off.of_grown HG3.out (.inl rfl))).trans (Off.of_grown HG4.out (.inr rfl))⟩
end Go.Proofs.YtpccongphchagaaGreatDoor
namespace Go.Proofs.YtpccongphchagaaGreatDoor
open Go.RowKit Go.Maps
theorem nodeIn_of {es : List EN} {s : ByteArray} {n : Int} (h : nodeIn es s = some n) : (s, n) ∈ es := by
  unfold nodeIn at h
  cases hf : es.find? (fun e => decide (e.1 = s)) with
  | none => rw [hf] at h; cases h
  | some e =>
    rw [hf] at h
    have h1 := List.find?_some hf
    have h2 := List.mem_of_find?_eq_some hf
    simp at h h1
    rw [← h1, ← h]
    exact h2
theorem nodeIn_no {es : List EN} {s : ByteArray} (h : nodeIn es s = none) : ∀ n, (s, n) ∉ es := by
  intro n hn
  unfold nodeIn at h
  simp only [Option.map_eq_none_iff] at h
  have := List.find?_eq_none.1 h _ hn
  simp at this
theorem nodeIn_iff {es : List EN} (g : Good es) {s : ByteArray} {n : Int} : nodeIn es s = some n ↔ (s, n) ∈ es := by
  refine ⟨nodeIn_of, fun h => ?_⟩
  cases e : nodeIn es s with
  | none => exact absurd h (nodeIn_no e n)
  | some m => rw [g.g1 s m n (nodeIn_of e) h]
theorem rep_good {nodes : Int} {es l : List EN} {o : DO} (g : Apart es) (h : repE nodes es o = some l) : Apart l := by
  unfold repE at h
  split at h
  · split at h
    · next c =>
      simp only [Option.some.injEq] at h
      subst h
      exact (g.noName _).ins (fun n hn => (mem_noName.1 hn).2 rfl) (fun s hs => c.2.2.2.2 _ (mem_noName.1 hs).1 rfl)
    · cases h
  · split at h
    · split at h
      · cases h
      · next n0 hn0 =>
        split at h
        · simp only [Option.some.injEq] at h
          subst h
          refine ((g.noName _).noName _).ins (fun n hn => (mem_noName.1 hn).2 rfl) (fun s hs => ?_)
          obtain ⟨h1, _⟩ := mem_noName.1 hs
          obtain ⟨h3, h4⟩ := mem_noName.1 h1
          exact h4 (g.good.g2 s _ n0 h3 (nodeIn_of hn0))
        · cases h
    · split at h
      · split at h
        · cases h
        · split at h
          · simp only [Option.some.injEq] at h
            subst h
            exact g.noName _
          · cases h
      · cases h
/-- What takes tells. -/
def TakePost (w : World) (R : Option (List EN)) (e : Ending) (w' : World) : Prop := ∃ r : Bool, e = .returned (.bool r) ∧ r = R.isSome ∧ Below w.heap.size w w'
theorem take_no {w w' : World} {R : Option (List EN)} (h : R = none) (hb : Below w.heap.size w w') : TakePost w R (.returned (.bool false)) w' := ⟨false, rfl, by rw [h]; rfl, hb⟩
theorem take_yes {w w' : World} {R : Option (List EN)} {l : List EN} (h : R = some l) (hb : Below w.heap.size w w') : TakePost w R (.returned (.bool true)) w' := ⟨true, rfl, by rw [h]; rfl, hb⟩
set_option maxRecDepth 20000 in
set_option maxHeartbeats 1000000 in
theorem takes_list (b1 b2 n : Nat) (es : List EN) (kd : Int) (nm tn : ByteArray) (nd nodes : Int) (w : World) (hs1 : nm.size ≤ 1048576) (hs2 : tn.size ≤ 1048576) (hw : (Lit.int .i64 nd).wf = true) (hL : LstAt w b1 b2 n es) (g : Apart es) :
    Calls Tryz.prog 61 #[lstV b1 b2, .agg #[.int .i64 kd, .string nm, .string tn, .int .i64 nd], .int .i64 nodes] w (TakePost w (repE nodes es (kd, nm, tn, nd))) := by
  have hkn := keyN nd hw
  have hA : Below w.heap.size w ((w.alloc (.cells #[.map (some b1), .map (some b2)] 77)).alloc (.cells #[.int .i64 kd, .string nm, .string tn, .int .i64 nd] 68)) := ((Below.refl _ _).alloc (Nat.le_refl _) _).alloc (by simp) _
  have hlt : b1 < w.heap.size ∧ b2 < w.heap.size := by obtain ⟨D1, D2, hl, _⟩ := hL; exact ⟨hl.o1.lt, hl.o2.lt⟩
  have hLA : LstAt ((w.alloc (.cells #[.map (some b1), .map (some b2)] 77)).alloc (.cells #[.int .i64 kd, .string nm, .string tn, .int .i64 nd] 68)) b1 b2 n es := by
    obtain ⟨D1, D2, hl, hr⟩ := hL
    exact ⟨D1, D2, hl.below hA hlt.1 hlt.2, hr⟩
  have hz : ((w.alloc (.cells #[.map (some b1), .map (some b2)] 77)).alloc (.cells #[.int .i64 kd, .string nm, .string tn, .int .i64 nd] 68)).heap.size = w.heap.size + 2 := by simp
  have L0 : Laid ((w.alloc (.cells #[.map (some b1), .map (some b2)] 77)).alloc (.cells #[.int .i64 kd, .string nm, .string tn, .int .i64 nd] 68)) w.heap.size #[.map (some b1), .map (some b2)] 77 := Laid.below (B := w.heap.size + 1) (Laid.new w _ _) ((Below.refl _ _).alloc (by simp) _) (by omega)
  have L1 := Laid.new (w.alloc (.cells #[.map (some b1), .map (some b2)] 77)) #[.int .i64 kd, .string nm, .string tn, .int .i64 nd] 68
  rw [show (w.alloc (.cells #[.map (some b1), .map (some b2)] 77)).heap.size = w.heap.size + 1 from World.size_alloc ..] at L1
  unfold lstV
  go_enter Tryz.func61, Tryz.ntmps61
  go_upto_region 1 with fail
  generalize (w.alloc (.cells #[.map (some b1), .map (some b2)] 77)).alloc (.cells #[.int .i64 kd, .string nm, .string tn, .int .i64 nd] 68) = W at hA hLA hz L0 L1 ⊢
  have q0 : W.cell? ⟨w.heap.size, 0, none⟩ = some (.map (some b1)) := L0.cell 0
  have q1 : W.cell? ⟨w.heap.size, 1, none⟩ = some (.map (some b2)) := L0.cell 1
  have p0 : W.cell? ⟨w.heap.size + 1, 0, none⟩ = some (.int .i64 kd) := L1.cell 0
  have p1 : W.cell? ⟨w.heap.size + 1, 1, none⟩ = some (.string nm) := L1.cell 1
  have p2 : W.cell? ⟨w.heap.size + 1, 2, none⟩ = some (.string tn) := L1.cell 2
  have p3 : W.cell? ⟨w.heap.size + 1, 3, none⟩ = some (.int .i64 nd) := L1.cell 3
  have HHS := hide (fun s (hs : s.size ≤ 1048576) => has_list b1 b2 n es s W hs hLA)
  obtain ⟨D1, D2, hl, hr⟩ := hLA
  have HTW := hide (hr.r3 nd)
  have HL := hide hl
  have HA := hide hA
  have HL1 := hide L1
  have HG := hide g
  clear hA hl hr L0 L1 hL g
  by_cases k1 : kd = 1
  · subst k1
    have hR := rep1 nodes es nm tn nd
    have HR := hide hR
    clear hR HHS
    generalize htw : Maps.has D2 (kN nd) = tw at HTW
    go_wp2_with (at_lookup; refine wpList_lookup_own_unit _ rfl _ _ 75 rfl 3 108 lawInt Tryz.underlying75 (zeroUnit _) b2 n D2 rfl HL.out.o2 _ _ rfl hkn ?_)
    refine (goodName_any nm _ (by omega)).mono ?_
    rintro e w2 ⟨rfl, hb2⟩
    have hX2 : Below W.heap.size W w2 := ((Below.refl W.heap.size W).alloc (Nat.le_refl _) _).trans (hb2.mono (by simp))
    have hL2 := HL1.out.below hX2 (by omega)
    have t2 : w2.cell? ⟨w.heap.size + 1, 2, none⟩ = some (.string tn) := hL2.cell 2
    have t3 : w2.cell? ⟨w.heap.size + 1, 3, none⟩ = some (.int .i64 nd) := hL2.cell 3
    have HX2 := hide (HA.out.trans (hX2.mono HA.out.size))
    clear hb2 hX2 hL2 q0 q1 p0 p1 p2 p3
    by_cases c1 : okName nm = true
    · rw [c1]
      by_cases c2 : tn.toList = []
      · have c2' : (tn.toList == []) = true := by simpa using c2
        by_cases c3 : 0 ≤ nd
        · by_cases c4 : nd < nodes
          · cases tw with
            | true =>
              have HN := hide (show repE nodes es (1, nm, tn, nd) = none by
                rw [HR.out, if_neg]
                intro h
                obtain ⟨s, hs⟩ := HTW.out.1 rfl
                exact h.2.2.2.2 _ hs rfl)
              go_wp2
              go_ret
              exact take_no HN.out HX2.out
            | false =>
              have HN := hide (show repE nodes es (1, nm, tn, nd) = some (insE (noName es nm) nm nd) by
                rw [HR.out, if_pos ⟨c1, c2, c3, c4, fun e he e2 => by
                  have := HTW.out.2 ⟨e.1, by rw [← e2]; exact he⟩
                  cases this⟩])
              go_wp2
              go_ret
              exact take_yes HN.out HX2.out
          · have HN := hide (HR.out.trans (if_neg (fun h => c4 h.2.2.2.1)))
            go_wp2
            go_ret
            exact take_no HN.out HX2.out
        · have HN := hide (HR.out.trans (if_neg (fun h => c3 h.2.2.1)))
          go_wp2
          go_ret
          exact take_no HN.out HX2.out
      · have c2' : (tn.toList == []) = false := by simpa using c2
        have HN := hide (HR.out.trans (if_neg (fun h => c2 h.2.1)))
        go_wp2
        go_ret
        exact take_no HN.out HX2.out
    · have c1' : okName nm = false := by simpa using c1
      rw [c1']
      have HN := hide (HR.out.trans (if_neg (fun h => c1 h.1)))
      go_wp2
      go_ret
      exact take_no HN.out HX2.out
  · have k1' : (kd == 1) = false := by simpa using k1
    by_cases k4 : kd = 4
    · subst k4
      have HR := hide (rep4 nodes es nm tn nd)
      go_wp2_with fail
      refine (HHS.out nm hs1).mono ?_
      rintro e w2 ⟨⟨r, rfl, hrr⟩, hb2⟩
      have hL2 := HL1.out.below hb2 (by omega)
      have t1 : w2.cell? ⟨w.heap.size + 1, 1, none⟩ = some (.string nm) := hL2.cell 1
      have t2 : w2.cell? ⟨w.heap.size + 1, 2, none⟩ = some (.string tn) := hL2.cell 2
      have t3 : w2.cell? ⟨w.heap.size + 1, 3, none⟩ = some (.int .i64 nd) := hL2.cell 3
      have HX2 := hide (HA.out.trans (hb2.mono HA.out.size))
      have HL2 := hide hL2
      have hs2' := hb2.size
      have HRR := hide hrr
      clear hb2 hL2 q0 q1 p0 p1 p2 p3 hrr HHS
      cases r with
      | false =>
        have HN := hide (show repE nodes es (4, nm, tn, nd) = none by
          rw [HR.out]
          cases e : nodeIn es nm with
          | none => rfl
          | some m => exact absurd (HRR.out.2 ⟨m, nodeIn_of e⟩) (by simp))
        go_wp2
        go_ret
        exact take_no HN.out HX2.out
      | true =>
        obtain ⟨m, hm⟩ := HRR.out.1 rfl
        have HN := hide (show repE nodes es (4, nm, tn, nd) = if okName tn = true ∧ tn ≠ nm ∧ nd = 0 then some (insE (noName (noName es nm) tn) tn m) else none by rw [HR.out, (nodeIn_iff HG.out.good).2 hm])
        clear hm
        go_wp2_with fail
        refine (goodName_any tn w2 (by omega)).mono ?_
        rintro e w3 ⟨rfl, hb3⟩
        have hL3 := HL2.out.below hb3 (by omega)
        have s1 : w3.cell? ⟨w.heap.size + 1, 1, none⟩ = some (.string nm) := hL3.cell 1
        have s2 : w3.cell? ⟨w.heap.size + 1, 2, none⟩ = some (.string tn) := hL3.cell 2
        have s3 : w3.cell? ⟨w.heap.size + 1, 3, none⟩ = some (.int .i64 nd) := hL3.cell 3
        have HX3 := hide (HX2.out.trans (hb3.mono HX2.out.size))
        clear hb3 hL3 t1 t2 t3
        by_cases c1 : okName tn = true
        · rw [c1]
          by_cases c2 : tn = nm
          · have hq := beq_of_eq c2
            have HN2 := hide (HN.out.trans (if_neg (fun h => h.2.1 c2)))
            clear c2
            go_wp2
            go_ret
            exact take_no HN2.out HX3.out
          · have hq := beq_of_ne c2
            by_cases c3 : nd = 0
            · have HN2 := hide (HN.out.trans (if_pos ⟨c1, c2, c3⟩))
              have hz0 : (nd == 0) = true := by simpa using c3
              clear c2 c3
              go_wp2
              go_ret
              exact take_yes HN2.out HX3.out
            · have HN2 := hide (HN.out.trans (if_neg (fun h => c3 h.2.2)))
              have hz0 : (nd == 0) = false := by simpa using c3
              clear c2
              go_wp2
              go_ret
              exact take_no HN2.out HX3.out
        · have c1' : okName tn = false := by simpa using c1
          rw [c1']
          have HN2 := hide (HN.out.trans (if_neg (fun h => c1 h.1)))
          go_wp2
          go_ret
          exact take_no HN2.out HX3.out
    · have k4' : (kd == 4) = false := by simpa using k4
      by_cases k5 : kd = 5
      · subst k5
        have HR := hide (rep5 nodes es nm tn nd)
        go_wp2_with fail
        refine (HHS.out nm hs1).mono ?_
        rintro e w2 ⟨⟨r, rfl, hrr⟩, hb2⟩
        have hL2 := HL1.out.below hb2 (by omega)
        have t2 : w2.cell? ⟨w.heap.size + 1, 2, none⟩ = some (.string tn) := hL2.cell 2
        have t3 : w2.cell? ⟨w.heap.size + 1, 3, none⟩ = some (.int .i64 nd) := hL2.cell 3
        have HX2 := hide (HA.out.trans (hb2.mono HA.out.size))
        have HRR := hide hrr
        clear hb2 hL2 q0 q1 p0 p1 p2 p3 hrr HHS
        cases r with
        | false =>
          have HN := hide (show repE nodes es (5, nm, tn, nd) = none by
            rw [HR.out]
            cases e : nodeIn es nm with
            | none => rfl
            | some m => exact absurd (HRR.out.2 ⟨m, nodeIn_of e⟩) (by simp))
          go_wp2
          go_ret
          exact take_no HN.out HX2.out
        | true =>
          obtain ⟨m, hm⟩ := HRR.out.1 rfl
          have HN := hide (show repE nodes es (5, nm, tn, nd) = if tn.toList = [] ∧ nd = 0 then some (noName es nm) else none by rw [HR.out, (nodeIn_iff HG.out.good).2 hm])
          clear hm
          by_cases c2 : tn.toList = []
          · have c2' : (tn.toList == []) = true := by simpa using c2
            by_cases c3 : nd = 0
            · have HN2 := hide (HN.out.trans (if_pos ⟨c2, c3⟩))
              have hz0 : (nd == 0) = true := by simpa using c3
              clear c3
              go_wp2
              go_ret
              exact take_yes HN2.out HX2.out
            · have HN2 := hide (HN.out.trans (if_neg (fun h => c3 h.2)))
              have hz0 : (nd == 0) = false := by simpa using c3
              go_wp2
              go_ret
              exact take_no HN2.out HX2.out
          · have c2' : (tn.toList == []) = false := by simpa using c2
            have HN2 := hide (HN.out.trans (if_neg (fun h => c2 h.1)))
            go_wp2
            go_ret
            exact take_no HN2.out HX2.out
      · have k5' : (kd == 5) = false := by simpa using k5
        have HN := hide (show repE nodes es (kd, nm, tn, nd) = none by unfold repE; simp only; rw [if_neg k1, if_neg k4, if_neg k5])
        go_wp2
        go_ret
        exact take_no HN.out HA.out
end Go.Proofs.YtpccongphchagaaGreatDoor
namespace Go.Proofs.YtpccongphchagaaGreatDoor
open Go.RowKit Go.Maps
def RplPost (w : World) (b1 b2 n : Nat) (es : List EN) : Option (List EN) → Ending → World → Prop
  | none, e, w' => e = .returned (.bool false) ∧ LstAt w' b1 b2 (n + 1) es ∧ Off b1 b2 w w'
  | some l, e, w' => e = .returned (.bool true) ∧ LstAt w' b1 b2 (n + 1) l ∧ Off b1 b2 w w'
theorem rpl_no {w w' : World} {b1 b2 n : Nat} {es : List EN} {R : Option (List EN)} (h : R = none) (hl : LstAt w' b1 b2 (n + 1) es) (ho : Off b1 b2 w w') : RplPost w b1 b2 n es R (.returned (.bool false)) w' := by subst h; exact ⟨rfl, hl, ho⟩
theorem rpl_yes {w w' : World} {b1 b2 n : Nat} {es l : List EN} {R : Option (List EN)} (h : R = some l) (hl : LstAt w' b1 b2 (n + 1) l) (ho : Off b1 b2 w w') : RplPost w b1 b2 n es R (.returned (.bool true)) w' := by subst h; exact ⟨rfl, hl, ho⟩
theorem LstAt.below {B : Nat} {w w' : World} {b1 b2 n : Nat} {es : List EN} (h : LstAt w b1 b2 n es) (hb : Below B w w') (h1 : b1 < B) (h2 : b2 < B) : LstAt w' b1 b2 n es := by
  obtain ⟨D1, D2, hl, hr⟩ := h
  exact ⟨D1, D2, hl.below hb h1 h2, hr⟩
theorem LstAt.mono {w : World} {b1 b2 n m : Nat} {es : List EN} (h : LstAt w b1 b2 n es) (hn : n ≤ m) : LstAt w b1 b2 m es := by
  obtain ⟨D1, D2, hl, hr⟩ := h
  exact ⟨D1, D2, hl.mono hn, hr⟩
theorem LstAt.lt {w : World} {b1 b2 n : Nat} {es : List EN} (h : LstAt w b1 b2 n es) : b1 < w.heap.size ∧ b2 < w.heap.size := by
  obtain ⟨D1, D2, hl, _⟩ := h
  exact ⟨hl.o1.lt, hl.o2.lt⟩
theorem some1 {nodes : Int} {es : List EN} {nm tn : ByteArray} {nd : Int} (h : (repE nodes es (1, nm, tn, nd)).isSome = true) : repE nodes es (1, nm, tn, nd) = some (insE (noName es nm) nm nd) := by
  rw [rep1] at h ⊢
  split at h
  · next c => rw [if_pos c]
  · cases h
theorem some4 {nodes : Int} {es : List EN} {nm tn : ByteArray} {nd : Int} (h : (repE nodes es (4, nm, tn, nd)).isSome = true) : ∃ m, nodeIn es nm = some m ∧ repE nodes es (4, nm, tn, nd) = some (insE (noName (noName es nm) tn) tn m) := by
  rw [rep4] at h ⊢
  cases e : nodeIn es nm with
  | none => rw [e] at h; cases h
  | some m =>
    rw [e] at h
    simp only at h ⊢
    split at h
    · next c => exact ⟨m, rfl, by rw [if_pos c]⟩
    · cases h
theorem some5 {nodes : Int} {es : List EN} {nm tn : ByteArray} {nd : Int} (h : (repE nodes es (5, nm, tn, nd)).isSome = true) : repE nodes es (5, nm, tn, nd) = some (noName es nm) := by
  rw [rep5] at h ⊢
  cases e : nodeIn es nm with
  | none => rw [e] at h; cases h
  | some m =>
    rw [e] at h
    simp only at h ⊢
    split at h
    · next c => rw [if_pos c]
    · cases h
theorem some_kd {nodes : Int} {es : List EN} {kd : Int} {nm tn : ByteArray} {nd : Int} (h : (repE nodes es (kd, nm, tn, nd)).isSome = true) : kd = 1 ∨ kd = 4 ∨ kd = 5 := by
  unfold repE at h
  simp only at h
  by_cases k1 : kd = 1
  · exact .inl k1
  · by_cases k4 : kd = 4
    · exact .inr (.inl k4)
    · by_cases k5 : kd = 5
      · exact .inr (.inr k5)
      · rw [if_neg k1, if_neg k4, if_neg k5] at h; cases h
set_option maxRecDepth 20000 in
set_option maxHeartbeats 1000000 in
theorem replay_list (b1 b2 n : Nat) (es : List EN) (kd : Int) (nm tn : ByteArray) (nd nodes : Int) (w : World) (hs1 : nm.size ≤ 1048576) (hs2 : tn.size ≤ 1048576) (hn : n ≤ 1048570) (hw : (Lit.int .i64 nd).wf = true) (hL : LstAt w b1 b2 n es) (g : Apart es) :
    Calls Tryz.prog 32 #[lstV b1 b2, .agg #[.int .i64 kd, .string nm, .string tn, .int .i64 nd], .int .i64 nodes] w (RplPost w b1 b2 n es (repE nodes es (kd, nm, tn, nd))) := by
  have hA : Below w.heap.size w ((w.alloc (.cells #[.map (some b1), .map (some b2)] 77)).alloc (.cells #[.int .i64 kd, .string nm, .string tn, .int .i64 nd] 68)) := ((Below.refl _ _).alloc (Nat.le_refl _) _).alloc (by simp) _
  obtain ⟨hlt1, hlt2⟩ := hL.lt
  have hLA := hL.below hA hlt1 hlt2
  have hz : ((w.alloc (.cells #[.map (some b1), .map (some b2)] 77)).alloc (.cells #[.int .i64 kd, .string nm, .string tn, .int .i64 nd] 68)).heap.size = w.heap.size + 2 := by simp
  have L0 : Laid ((w.alloc (.cells #[.map (some b1), .map (some b2)] 77)).alloc (.cells #[.int .i64 kd, .string nm, .string tn, .int .i64 nd] 68)) w.heap.size #[.map (some b1), .map (some b2)] 77 := Laid.below (B := w.heap.size + 1) (Laid.new w _ _) ((Below.refl _ _).alloc (by simp) _) (by omega)
  have L1 := Laid.new (w.alloc (.cells #[.map (some b1), .map (some b2)] 77)) #[.int .i64 kd, .string nm, .string tn, .int .i64 nd] 68
  rw [show (w.alloc (.cells #[.map (some b1), .map (some b2)] 77)).heap.size = w.heap.size + 1 from World.size_alloc ..] at L1
  unfold lstV
  go_enter Tryz.func32, Tryz.ntmps32
  go_wp2_with fail
  generalize (w.alloc (.cells #[.map (some b1), .map (some b2)] 77)).alloc (.cells #[.int .i64 kd, .string nm, .string tn, .int .i64 nd] 68) = W at hA hLA hz L0 L1 ⊢
  refine (takes_list b1 b2 n es kd nm tn nd nodes W hs1 hs2 hw hLA g).mono ?_
  rintro e w2 ⟨r, rfl, hrr, hb2⟩
  have hL2 := hLA.below hb2 (by omega) (by omega)
  have K0 := L0.below hb2 (by omega)
  have K1 := L1.below hb2 (by omega)
  have hof : Off b1 b2 w w2 := (Off.of_below hA).trans (Off.of_below hb2)
  have q0 : w2.cell? ⟨w.heap.size, 0, none⟩ = some (.map (some b1)) := K0.cell 0
  have q1 : w2.cell? ⟨w.heap.size, 1, none⟩ = some (.map (some b2)) := K0.cell 1
  have p0 : w2.cell? ⟨w.heap.size + 1, 0, none⟩ = some (.int .i64 kd) := K1.cell 0
  have p1 : w2.cell? ⟨w.heap.size + 1, 1, none⟩ = some (.string nm) := K1.cell 1
  have p2 : w2.cell? ⟨w.heap.size + 1, 2, none⟩ = some (.string tn) := K1.cell 2
  have p3 : w2.cell? ⟨w.heap.size + 1, 3, none⟩ = some (.int .i64 nd) := K1.cell 3
  have HG := hide g
  have HL2 := hide hL2
  have HOF := hide hof
  have HK0 := hide K0
  have HK1 := hide K1
  clear hA hLA L0 L1 hL g hb2 hL2 hof K0 K1
  cases r with
  | false =>
    have HN := hide (show repE nodes es (kd, nm, tn, nd) = none by
      cases e : repE nodes es (kd, nm, tn, nd) with
      | none => rfl
      | some l => rw [e] at hrr; cases hrr)
    clear hrr
    go_wp2
    go_ret
    exact rpl_no HN.out (HL2.out.mono (by omega)) HOF.out
  | true =>
    have hsome := hrr.symm
    clear hrr
    rcases some_kd hsome with k | k | k
    · subst k
      have HN := hide (some1 hsome)
      have BL := hide (bind_list b1 b2 n es nm nd w2 hs1 hw (by omega) HL2.out HG.out)
      unfold lstV at BL
      clear hsome
      go_wp2_with fail
      refine (BL.out).mono ?_
      rintro e w3 ⟨⟨v, rfl⟩, hl3, hof3⟩
      have HL3 := hide hl3
      have HOF3 := hide (HOF.out.trans hof3)
      clear hl3 hof3 BL
      go_wp2
      go_ret
      exact rpl_yes HN.out HL3.out HOF3.out
    · subst k
      obtain ⟨m, hm, hrep⟩ := some4 hsome
      have HN := hide hrep
      have HM := hide (nodeIn_of hm)
      clear hsome hm hrep
      have hk := keyS nm (by unfold maxLen; omega)
      have DL := hide (drop_list b1 b2 n es nm w2 hs1 HL2.out HG.out)
      unfold lstV at DL
      obtain ⟨D1, D2, hl, hr⟩ := HL2.out
      have HATM := hide (hr.r1 nm m HM.out).2
      have HO1 := hide hl.o1
      clear hl hr
      go_wp2_with (at_lookup; refine wpList_lookup_own_int _ rfl _ _ 74 rfl 9 3 .i64 lawStr Tryz.underlying74 Tryz.underlying3 (zeroInt _) b1 n D1 rfl HO1.out _ _ rfl hk ?_; intro c hat hwc; have HCM := hide (show m = c by have h := HATM.out; rw [hat] at h; simp at h; exact h.symm); clear hat)
      refine (DL.out).mono ?_
      rintro e w3 ⟨⟨v, rfl⟩, hl3, hof3⟩
      have J0 := HK0.out.off hof3 (by omega) (by omega)
      have J1 := HK1.out.off hof3 (by omega) (by omega)
      have s0 : w3.cell? ⟨w.heap.size, 0, none⟩ = some (.map (some b1)) := J0.cell 0
      have s1 : w3.cell? ⟨w.heap.size, 1, none⟩ = some (.map (some b2)) := J0.cell 1
      have s2 : w3.cell? ⟨w.heap.size + 1, 2, none⟩ = some (.string tn) := J1.cell 2
      have BL := hide (bind_list b1 b2 n (noName es nm) tn c w3 hs2 hwc (by omega) hl3 (HG.out.noName nm))
      unfold lstV at BL
      have HOF3 := hide (HOF.out.trans hof3)
      clear hl3 hof3 DL J0 J1 q0 q1 p0 p1 p2 p3
      go_wp2_with fail
      refine (BL.out).mono ?_
      rintro e w4 ⟨⟨v4, rfl⟩, hl4, hof4⟩
      have HL4 := hide hl4
      have HOF4 := hide (HOF3.out.trans hof4)
      clear hl4 hof4 BL
      go_wp2
      go_ret
      exact rpl_yes (by rw [HN.out, HCM.out]) HL4.out HOF4.out
    · subst k
      have HN := hide (some5 hsome)
      have DL := hide (drop_list b1 b2 n es nm w2 hs1 HL2.out HG.out)
      unfold lstV at DL
      clear hsome
      go_wp2_with fail
      refine (DL.out).mono ?_
      rintro e w3 ⟨⟨v, rfl⟩, hl3, hof3⟩
      have HL3 := hide (hl3.mono (show n ≤ n + 1 by omega))
      have HOF3 := hide (HOF.out.trans hof3)
      clear hl3 hof3 DL
      go_wp2
      go_ret
      exact rpl_yes HN.out HL3.out HOF3.out
end Go.Proofs.YtpccongphchagaaGreatDoor
namespace Go.Proofs.YtpccongphchagaaGreatDoor
open Go.RowKit Go.Maps
theorem Reads.mem {D1 D2 : DU} {l l' : List EN} (h : Reads D1 D2 l) (he : ∀ s n, (s, n) ∈ l ↔ (s, n) ∈ l') (hl : l.length = l'.length) : Reads D1 D2 l' :=
  ⟨h.m1, h.ti, h.sz.trans hl, h.m2, fun s n hm => h.r1 s n ((he s n).2 hm), fun s hs => by obtain ⟨n, hn⟩ := h.r2 s hs; exact ⟨n, (he s n).1 hn⟩, fun n => (h.r3 n).trans ⟨fun ⟨s, hs⟩ => ⟨s, (he s n).1 hs⟩, fun ⟨s, hs⟩ => ⟨s, (he s n).2 hs⟩⟩⟩
theorem LstAt.mem {w : World} {b1 b2 n : Nat} {l l' : List EN} (h : LstAt w b1 b2 n l) (he : ∀ s n, (s, n) ∈ l ↔ (s, n) ∈ l') (hl' : l.length = l'.length) : LstAt w b1 b2 n l' := by
  obtain ⟨D1, D2, hl, hr⟩ := h
  exact ⟨D1, D2, hl, hr.mem he hl'⟩
theorem Apart.take {es : List EN} (h : Apart es) (k : Nat) : Apart (es.take k) := List.Pairwise.sublist (List.take_sublist k es) h
theorem take_next {es : List EN} (h : Apart es) (k : Nat) (hk : k < es.length) : ∀ s n, (s, n) ∈ insE (noName (es.take k) es[k].1) es[k].1 es[k].2 ↔ (s, n) ∈ es.take (k + 1) := by
  intro s n
  rw [mem_insE, mem_noName, List.take_succ_eq_append_getElem hk, List.mem_append, List.mem_singleton]
  constructor
  · rintro (⟨rfl, rfl⟩ | ⟨h1, _⟩)
    · exact .inr rfl
    · exact .inl h1
  · rintro (h1 | h1)
    · refine .inr ⟨h1, fun e => ?_⟩
      obtain ⟨i, hi, ei⟩ := List.getElem_of_mem h1
      rw [List.length_take] at hi
      rw [List.getElem_take] at ei
      have := (List.pairwise_iff_getElem.1 h i k (by omega) hk (by omega)).1
      rw [ei] at this
      exact this e
    · left
      rw [← h1]
      exact ⟨rfl, rfl⟩
theorem take_len {es : List EN} (h : Apart es) (k : Nat) (hk : k < es.length) : (insE (noName (es.take k) es[k].1) es[k].1 es[k].2).length = (es.take (k + 1)).length := by
  rw [insE_len, noName_same, List.length_take, List.length_take]
  · omega
  · intro n hn
    obtain ⟨i, hi, ei⟩ := List.getElem_of_mem hn
    rw [List.length_take] at hi
    rw [List.getElem_take] at ei
    have := (List.pairwise_iff_getElem.1 h i k (by omega) hk (by omega)).1
    rw [ei] at this
    exact this rfl
theorem ret_lst {fn : Func} {tmps : Array Value} {p : Tmp} (B : Nat) (W : World) (x y : Value) (hf : fn.results = #[.cell p 77]) (hp : tmps.getD p undef = .pointer (some ⟨B, 0, none⟩)) (hb : Laid W B #[x, y] 77) :
    (results fn tmps).run Tryz.prog W = .ok (.agg #[x, y]) W :=
  results_cell_row (P := Tryz.prog) hf _ _ B _ _ _ _ hp hb Tryz.underlying77 rfl (by kernel_rfl)
theorem LstAt.setCell {w : World} {b1 b2 n : Nat} {es : List EN} (h : LstAt w b1 b2 n es) {p : Addr} (h1 : b1 ≠ p.block) (h2 : b2 ≠ p.block) (u : Value) : LstAt (w.setCell p u) b1 b2 n es := by
  obtain ⟨D1, D2, hl, hr⟩ := h
  exact ⟨D1, D2, ⟨hl.o1.setCell h1 u, hl.o2.setCell h2 u, hl.ne⟩, hr⟩
theorem reads_nil : Reads (.map []) (.map []) [] := ⟨isMap_empty, tidy_empty, rfl, isMap_empty, (fun s n h => by cases h), (fun s h => by cases h), fun n => ⟨(fun h => by cases h), (fun ⟨s, h⟩ => by cases h)⟩⟩
/-- The world when the two maps and the listing are made. -/
def madeL (w : World) : World := (((w.alloc (.cells #[.map none, .map none] 77)).alloc (.map #[] 0)).alloc (.map #[] 0)).alloc (.cells #[.map (some (w.heap.size + 1)), .map (some (w.heap.size + 1 + 1))] 77)
theorem made_below (w : World) : Below w.heap.size w (madeL w) := (((Below.refl _ _).alloc (Nat.le_refl _) _).alloc (by simp) _).alloc (by simp; omega) _ |>.alloc (by simp; omega) _
theorem made_size (w : World) : (madeL w).heap.size = w.heap.size + 4 := by simp [madeL]
theorem made_l0 (w : World) : Laid (madeL w) w.heap.size #[.map none, .map none] 77 := by
  have h0 := Laid.new w #[.map none, .map none] 77
  have hb : Below (w.heap.size + 1) (w.alloc (.cells #[.map none, .map none] 77)) (madeL w) := (((Below.refl _ _).alloc (by simp) _).alloc (by simp) _).alloc (by simp) _
  exact h0.below hb (by omega)
theorem made_l3 (w : World) : Laid (madeL w) (w.heap.size + 1 + 1 + 1) #[.map (some (w.heap.size + 1)), .map (some (w.heap.size + 1 + 1))] 77 := by
  have h := Laid.new (((w.alloc (.cells #[.map none, .map none] 77)).alloc (.map #[] 0)).alloc (.map #[] 0)) #[.map (some (w.heap.size + 1)), .map (some (w.heap.size + 1 + 1))] 77
  have hz : (((w.alloc (.cells #[.map none, .map none] 77)).alloc (.map #[] 0)).alloc (.map #[] 0)).heap.size = w.heap.size + 1 + 1 + 1 := by simp
  rw [hz] at h
  exact h
theorem made_lst (w : World) : LstAt (madeL w) (w.heap.size + 1) (w.heap.size + 1 + 1) 0 [] := by
  have h1 := World.ownsMap_made (H := Unit) (w.alloc (.cells #[.map none, .map none] 77)) Tryz.prog 9 (plainElem Tryz.prog 3)
  have h2 := World.ownsMap_made (H := Unit) ((w.alloc (.cells #[.map none, .map none] 77)).alloc (.map #[] 0)) Tryz.prog 3 unitElem
  rw [show (w.alloc (.cells #[.map none, .map none] 77)).heap.size = w.heap.size + 1 from World.size_alloc ..] at h1
  rw [show ((w.alloc (.cells #[.map none, .map none] 77)).alloc (.map #[] 0)).heap.size = w.heap.size + 1 + 1 from by simp] at h2
  exact ⟨_, _, ⟨(h1.alloc _).alloc _, h2.alloc _, by omega⟩, reads_nil⟩
set_option maxRecDepth 20000 in
set_option maxHeartbeats 1000000 in
theorem listingOf_any (a : Option Addr) (cap : Nat) (es : List EN) (w : World) (hn : es.length ≤ 1048570) (hs : ∀ e ∈ es, e.1.size ≤ 1048576) (hw : ∀ e ∈ es, (Lit.int .i64 e.2).wf = true) (hap : Apart es) (hr : EntAt w a es) :
    Calls Tryz.prog 30 #[.slice a es.length cap] w fun e w' => ∃ b1 b2, e = .returned (lstV b1 b2) ∧ w.heap.size ≤ b1 ∧ w.heap.size ≤ b2 ∧ LstAt w' b1 b2 es.length es ∧ Below w.heap.size w w' := by
  have hmm := @run_makeMap Tryz.prog
  have HS := hide hs
  have HW := hide hw
  have HAP := hide hap
  have HR := hide hr
  clear hs hw hap hr
  go_enter Tryz.func30, Tryz.ntmps30
  go_wp2
  clear hmm
  have m0 := made_l0 w
  have m3 := made_l3 w
  have ml := made_lst w
  have mb := made_below w
  change Code.wp _ _ _ _ (madeL w)
  generalize madeL w = W at m0 m3 ml mb ⊢
  go_loopw [5, 11] (fun _ i wr => ∃ k : Nat, k ≤ es.length ∧ i = .int .i64 (k : Int) ∧ LstAt wr (w.heap.size + 1) (w.heap.size + 1 + 1) k (es.take k) ∧ Laid wr w.heap.size #[.map none, .map none] 77 ∧ Laid wr (w.heap.size + 1 + 1 + 1) #[.map (some (w.heap.size + 1)), .map (some (w.heap.size + 1 + 1))] 77 ∧ Below w.heap.size w wr) (fun _ i _ => es.length - (intOf i).toNat)
  case atStart => exact ⟨0, Nat.zero_le _, rfl, by rw [List.take_zero]; exact ml, m0, m3, mb⟩
  case round =>
    obtain ⟨k, hk, rfl, hl, j0, j3, hb⟩ := hrel
    clear m0 m3 ml mb
    have q0 : wr.cell? ⟨w.heap.size + 1 + 1 + 1, 0, none⟩ = some (.map (some (w.heap.size + 1))) := j3.cell 0
    have q1 : wr.cell? ⟨w.heap.size + 1 + 1 + 1, 1, none⟩ = some (.map (some (w.heap.size + 1 + 1))) := j3.cell 1
    have hlt3 := j3.lt
    by_cases hlt : k < es.length
    · obtain ⟨b, off, rfl, hc⟩ := (HR.out.below hb) (by omega)
      obtain ⟨c0, c1⟩ := hc k hlt
      have hs1 := HS.out _ (List.getElem_mem hlt)
      have hw1 := HW.out _ (List.getElem_mem hlt)
      have HTN := hide (take_next HAP.out k hlt)
      have HTL := hide (take_len HAP.out k hlt)
      generalize es[k].1 = x0 at c0 hs1 HTN HTL
      generalize es[k].2 = x1 at c1 hw1 HTN HTL
      have hAo := (Below.refl wr.heap.size wr).alloc (Nat.le_refl _) (.cells #[.string x0, .int .i64 x1] 37)
      have hlA := hl.below hAo hl.lt.1 hl.lt.2
      have BL := hide (bind_list (w.heap.size + 1) (w.heap.size + 1 + 1) k (es.take k) x0 x1 _ hs1 hw1 (by omega) hlA (HAP.out.take k))
      unfold lstV at BL
      have HJ0 := hide (j0.below hAo j0.lt)
      have HJ3 := hide (j3.below hAo j3.lt)
      have HBA := hide (hb.trans (hAo.mono hb.size))
      have HNW := hide (Laid.new wr #[.string x0, .int .i64 x1] 37)
      have hbs := hb.size
      have q0a : (wr.alloc (.cells #[.string x0, .int .i64 x1] 37)).cell? ⟨w.heap.size + 1 + 1 + 1, 0, none⟩ = some (.map (some (w.heap.size + 1))) := HJ3.out.cell 0
      have q1a : (wr.alloc (.cells #[.string x0, .int .i64 x1] 37)).cell? ⟨w.heap.size + 1 + 1 + 1, 1, none⟩ = some (.map (some (w.heap.size + 1 + 1))) := HJ3.out.cell 1
      clear hc hl j0 j3 hb hAo hlA
      go_wp2_with fail
      refine (BL.out).mono ?_
      rintro e w6 ⟨⟨v, rfl⟩, hl6, hof6⟩
      have HL6 := hide (hl6.mem HTN.out HTL.out)
      have HN0 := hide (HJ0.out.off hof6 (by omega) (by omega))
      have HN3 := hide (HJ3.out.off hof6 (by omega) (by omega))
      have HN6 := hide (HBA.out.trans (hof6.below (B := w.heap.size) (by omega) (by omega) (by simp; omega)))
      clear hl6 hof6 BL q0a q1a q0 q1
      go_wp2
      go_roundw
      case rel => exact ⟨k + 1, by omega, by go_num, HL6.out, HN0.out, HN3.out, HN6.out⟩
      case measure => simp [intOf]; omega
    · obtain rfl : k = es.length := by omega
      rw [List.take_length] at hl
      have f0 : wr.frozen? ⟨w.heap.size, 0, none⟩ = false := frozen_of_row wr w.heap.size 0 _ _ j0
      have f1 : wr.frozen? ⟨w.heap.size, 1, none⟩ = false := frozen_of_row wr w.heap.size 1 _ _ j0
      have z0 : wr.cell? ⟨w.heap.size, 0, none⟩ = some (.map none) := j0.cell 0
      have z1 : wr.cell? ⟨w.heap.size, 1, none⟩ = some (.map none) := j0.cell 1
      have HL := hide hl
      have HJ0 := hide j0
      have HBB := hide hb
      clear hl j0 j3 hb
      go_wp2
      exact bodyPost_ret (ret_lst w.heap.size _ _ _ rfl rfl ((HJ0.out.set 0 _).set 1 _)) rfl ⟨w.heap.size + 1, w.heap.size + 1 + 1, rfl, by omega, by omega, (HL.out.setCell (p := ⟨w.heap.size, 0, none⟩) (by simp) (by simp; omega) _).setCell (p := ⟨w.heap.size, 1, none⟩) (by simp) (by simp; omega) _, (HBB.out.setCell (p := ⟨w.heap.size, 0, none⟩) (Nat.le_refl _) _).setCell (p := ⟨w.heap.size, 1, none⟩) (Nat.le_refl _) _⟩
end Go.Proofs.YtpccongphchagaaGreatDoor
