import Derived.Test.YtledlicandlekabInsLaw
import Derived.Maps.RangeWalk
namespace Go.Proofs.Ytledlicandlekab
open Go.RowKit Go.Maps
theorem keyOf_str_inv {P : Program} {k : TypeId} (hk : P.underlying k = some .string) {key : Value} {kl : Lit} (h : keyOf P k key = some kl) : ∃ s : ByteArray, key = .string s ∧ kl = .string s.data.toList ∧ s.size ≤ maxLen := by
  cases key <;> simp [keyOf, hk, mapKey] at h
  exact ⟨_, rfl, h.2.symm, h.1⟩
/-- The range's step, string keys, integer elements. -/
theorem wpList_next_ranges_si {H : Type} {P : Program} (w : World) {ops : Array Oper} {rest : List Oper} {o : Oper} {a : Act} {Q : Exit → Act → World → Prop}
    (hg : o.guard = none) (it : Operand) (hop : o.op = Op.next it false) (k e : TypeId) (qe : IntKind) (K : Keyed P k) (hk : P.underlying k = some .string) (he : P.underlying e = some (.int qe))
    (b r n : Nat) (D : DataW H) (left : Lit → Bool) (cnt : Nat) (hit : a.eval it = .pointer (some ⟨r, 0, none⟩)) (h : w.ranges P k (plainElem P e) b r n D left cnt)
    (hDone : cnt = 0 → (∀ kl, left kl = false) → wpList P ops Q rest (a.put o.dst (.tuple #[.bool false])) w)
    (hMore : ∀ (x : ByteArray) (c : Int) (w' : World) (cnt' : Nat), x.size ≤ maxLen → left (.string x.data.toList) = true → w'.ranges P k (plainElem P e) b r n D (fun z => left z && !z.sameKey (.string x.data.toList)) cnt' → cnt' < cnt →
      w.grownBy w' (some r) → w'.heap.size = w.heap.size → (Instr.entry (.pointer (some ⟨r, 0, none⟩))).run P w' = .ok (.tuple #[.string x, .int qe c]) w' → wpList P ops Q rest (a.put o.dst (.tuple #[.bool true, .string x, .int qe c])) w') :
    wpList P ops Q (o :: rest) a w :=
  wpList_next_ranges w hg it hop k K (plainElem P e) Value.string (Value.int qe) (fun key kl hkey => by obtain ⟨x, rfl, _⟩ := keyOf_str_inv hk hkey; exact ⟨x, rfl⟩) (fun v y hv => by obtain ⟨c, rfl, _⟩ := plainElem_int_inv he hv; exact ⟨c, rfl⟩)
    b r n D left cnt hit h hDone (fun x c kl y w' cnt' hkey hlk hv hat hrg hlt hgr hsz hen => by
      obtain ⟨x', ex, rfl, hwx⟩ := keyOf_str_inv hk hkey
      cases ex
      exact hMore x c w' cnt' hwx hlk hrg hlt hgr hsz hen)
/-- Names in rising order. -/
def SortedB (xs : List ByteArray) : Prop := xs.Pairwise fun x y => Op.bytesLess x.toList y.toList = true
theorem sorted_ext : ∀ {xs ys : List ByteArray}, SortedB xs → SortedB ys → (∀ s, s ∈ xs ↔ s ∈ ys) → xs = ys
  | [], [], _, _, _ => rfl
  | [], y :: _, _, _, h => absurd ((h y).2 (.head _)) (by simp)
  | x :: _, [], _, _, h => absurd ((h x).1 (.head _)) (by simp)
  | x :: xs, y :: ys, h1, h2, h => by
    obtain ⟨a1, a2⟩ := List.pairwise_cons.1 h1
    obtain ⟨b1, b2⟩ := List.pairwise_cons.1 h2
    have e : x = y := by
      rcases List.mem_cons.1 ((h x).1 (.head _)) with e | hx
      · exact e
      · rcases List.mem_cons.1 ((h y).2 (.head _)) with e | hy
        · exact e.symm
        · exact absurd (less_trans _ _ _ (b1 _ hx) (a1 _ hy)) (by rw [less_irrefl]; decide)
    subst e
    rw [sorted_ext a2 b2 fun s => ⟨fun hs => ?_, fun hs => ?_⟩]
    · rcases List.mem_cons.1 ((h s).1 (.tail _ hs)) with e | h'
      · exact absurd (a1 _ hs) (by rw [e, less_irrefl]; decide)
      · exact h'
    · rcases List.mem_cons.1 ((h s).2 (.tail _ hs)) with e | h'
      · exact absurd (b1 _ hs) (by rw [e, less_irrefl]; decide)
      · exact h'
theorem sorted_put {xs : List ByteArray} {t : ByteArray} {i : Nat} (h : SortedB xs) (ht : t ∉ xs) (hlo : ∀ k (h : k < xs.length), k < i → Op.bytesLess xs[k].toList t.toList = true) (hhi : ∀ k (h : k < xs.length), i ≤ k → Op.bytesLess xs[k].toList t.toList = false) : SortedB (xs.take i ++ t :: xs.drop i) := by
  have hl : ∀ x ∈ xs.take i, Op.bytesLess x.toList t.toList = true := fun x hx => by
    obtain ⟨k, hk, rfl⟩ := List.getElem_of_mem hx
    rw [List.length_take] at hk
    rw [List.getElem_take]
    exact hlo k (by omega) (by omega)
  have hr : ∀ x ∈ xs.drop i, Op.bytesLess t.toList x.toList = true := fun x hx => by
    obtain ⟨k, hk, rfl⟩ := List.getElem_of_mem hx
    rw [List.length_drop] at hk
    rw [List.getElem_drop]
    have hm : xs[i + k]'(by omega) ∈ xs := List.getElem_mem _
    exact less_tri _ _ (hhi (i + k) (by omega) (by omega)) (fun e => ht (by rw [← bytes_eq e]; exact hm))
  refine List.pairwise_append.2 ⟨h.sublist (List.take_sublist _ _), List.pairwise_cons.2 ⟨hr, h.sublist (List.drop_sublist _ _)⟩, fun x hx y hy => ?_⟩
  rcases List.mem_cons.1 hy with rfl | hy
  · exact hl x hx
  · exact less_trans _ _ _ (hl x hx) (hr y hy)
theorem mem_put {xs : List ByteArray} {t s : ByteArray} {i : Nat} : s ∈ xs.take i ++ t :: xs.drop i ↔ s = t ∨ s ∈ xs := by
  rw [List.mem_append, List.mem_cons]
  constructor
  · rintro (h | h | h)
    · exact .inr (List.mem_of_mem_take h)
    · exact .inl h
    · exact .inr (List.mem_of_mem_drop h)
  · rintro (h | h)
    · exact .inr (.inl h)
    · rw [← List.take_append_drop i xs, List.mem_append] at h
      rcases h with h | h
      · exact .inl h
      · exact .inr (.inr h)
/-- The names that have come, of a map whose keys D1 has and of which left are still to come. -/
structure Come (D1 : DU) (left : Lit → Bool) (xs : List ByteArray) : Prop where
  so : SortedB xs
  sub : ∀ s, left (kS s) = true → Maps.has D1 (kS s) = true
  mem : ∀ s, s ∈ xs ↔ Maps.has D1 (kS s) = true ∧ left (kS s) = false
theorem Come.start (D1 : DU) : Come D1 (Maps.has D1) [] := ⟨.nil, fun _ h => h, fun s => ⟨(fun h => by cases h), fun h => by rw [h.1] at h; exact absurd h.2 (by decide)⟩⟩
theorem Come.more {D1 : DU} {left : Lit → Bool} {xs : List ByteArray} {t : ByteArray} {i : Nat} (h : Come D1 left xs) (hx : left (kS t) = true) (hlo : ∀ k (h : k < xs.length), k < i → Op.bytesLess xs[k].toList t.toList = true) (hhi : ∀ k (h : k < xs.length), i ≤ k → Op.bytesLess xs[k].toList t.toList = false) : Come D1 (fun z => left z && !z.sameKey (kS t)) (xs.take i ++ t :: xs.drop i) := by
  have ht : t ∉ xs := fun hm => by rw [((h.mem t).1 hm).2] at hx; cases hx
  refine ⟨sorted_put h.so ht hlo hhi, fun s hs => h.sub s (by simp only [Bool.and_eq_true] at hs; exact hs.1), fun s => ?_⟩
  rw [mem_put, h.mem]
  have hk : (kS s).sameKey (kS t) = true ↔ s = t := ⟨fun e => kS_inj (WideAt.sameKey_eq e), fun e => by rw [e]; exact WideAt.sameKey_self (isKeyS t)⟩
  constructor
  · rintro (rfl | ⟨h1, h2⟩)
    · exact ⟨h.sub _ hx, by rw [hk.2 rfl]; simp⟩
    · exact ⟨h1, by rw [h2]; rfl⟩
  · rintro ⟨h1, h2⟩
    by_cases e : s = t
    · exact .inl e
    · right
      refine ⟨h1, ?_⟩
      cases hl : left (kS s) with
      | false => rfl
      | true =>
        rw [hl] at h2
        simp only [Bool.true_and, Bool.not_eq_false'] at h2
        exact absurd (hk.1 h2) e
theorem Come.done {D1 D2 : DU} {left : Lit → Bool} {xs : List ByteArray} {es : List EN} (h : Come D1 left xs) (h0 : ∀ kl, left kl = false) (hr : Reads D1 D2 es) (hs : Sorted es) : xs = es.map Prod.fst := by
  refine sorted_ext h.so (List.pairwise_map.2 hs) fun s => ?_
  rw [h.mem, List.mem_map]
  constructor
  · rintro ⟨h1, _⟩
    obtain ⟨n, hn⟩ := hr.r2 s h1
    exact ⟨(s, n), hn, rfl⟩
  · rintro ⟨⟨s', n⟩, hn, rfl⟩
    exact ⟨(hr.r1 _ _ hn).1, h0 _⟩
end Go.Proofs.Ytledlicandlekab
