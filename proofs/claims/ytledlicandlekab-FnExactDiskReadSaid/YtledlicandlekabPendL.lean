import Derived.Test.YtledlicandlekabListOf
import Derived.Test.YtledlicandlekabSpecValid
import Derived.Test.YtledlicandlekabEqualE
namespace Go.Proofs.Ytledlicandlekab
open Go.RowKit Go.Maps
/-- In rising order of names. -/
def Sorted (es : List EN) : Prop := es.Pairwise fun x y => Op.bytesLess x.1.toList y.1.toList = true
theorem less_irrefl : ∀ x : List UInt8, Op.bytesLess x x = false
  | [] => rfl
  | a :: x => by
    simp only [Op.bytesLess, less_irrefl x, Bool.and_false, Bool.or_false, decide_eq_false_iff_not]
    exact UInt8.lt_irrefl a
theorem less_tri : ∀ x y : List UInt8, Op.bytesLess x y = false → x ≠ y → Op.bytesLess y x = true
  | [], [], _, h => absurd rfl h
  | [], _ :: _, h, _ => by simp [Op.bytesLess] at h
  | _ :: _, [], _, _ => rfl
  | a :: x, b :: y, h1, h2 => by
    simp only [Op.bytesLess, Bool.or_eq_false_iff, decide_eq_false_iff_not, Bool.and_eq_false_iff] at h1
    simp only [Op.bytesLess, Bool.or_eq_true, decide_eq_true_eq, Bool.and_eq_true, beq_iff_eq]
    by_cases e : a = b
    · subst e
      refine .inr ⟨rfl, less_tri x y ?_ (fun e => h2 (by rw [e]))⟩
      rcases h1.2 with h | h
      · simp at h
      · exact h
    · left
      have : ¬ a < b := h1.1
      have hne : a.toNat ≠ b.toNat := fun h => e (UInt8.toNat_inj.1 h)
      have h3 : ¬ a.toNat < b.toNat := fun h => this (UInt8.lt_iff_toNat_lt.2 h)
      exact UInt8.lt_iff_toNat_lt.2 (by omega)
theorem sorted_ins {l : List EN} (h : Sorted l) {nm : ByteArray} {nd : Int} (h1 : ∀ n, (nm, n) ∉ l) : Sorted (insE l nm nd) := by
  have hlo : ∀ x ∈ l.take (posE l nm), Op.bytesLess x.1.toList nm.toList = true := fun x hx => by
    obtain ⟨i, hi0, rfl⟩ := List.getElem_of_mem hx
    have hi : i < posE l nm ∧ i < l.length := by rw [List.length_take] at hi0; omega
    rw [List.getElem_take]
    have h2 := List.not_of_lt_findIdx (p := fun e : EN => gtB e.1 nm) (xs := l) (i := i) hi.1
    unfold gtB at h2
    simp only [Bool.not_eq_false', Bool.or_eq_true, beq_iff_eq] at h2
    rcases h2 with h2 | h2
    · exact h2
    · have hm : l[i]'hi.2 ∈ l := List.getElem_mem hi.2
      have e := bytes_eq h2
      generalize l[i]'hi.2 = y at hm e
      exact absurd (by rw [← e]; exact hm) (h1 y.2)
  have hhi : ∀ x ∈ l.drop (posE l nm), Op.bytesLess nm.toList x.1.toList = true := fun x hx => by
    obtain ⟨i, hi, rfl⟩ := List.getElem_of_mem hx
    rw [List.length_drop] at hi
    rw [List.getElem_drop]
    have hp : posE l nm < l.length := by omega
    have h2 : gtB (l[posE l nm]'hp).1 nm = true := List.findIdx_getElem (p := fun e : EN => gtB e.1 nm) (w := hp)
    unfold gtB at h2
    simp only [Bool.not_eq_true', Bool.or_eq_false_iff] at h2
    have h3 := less_tri _ _ h2.1 (fun e => by rw [e] at h2; simp at h2)
    by_cases e : i = 0
    · subst e; exact h3
    · exact less_trans _ _ _ h3 (List.pairwise_iff_getElem.1 h (posE l nm) (posE l nm + i) hp (by omega) (by omega))
  unfold insE Sorted
  refine List.pairwise_append.2 ⟨List.Pairwise.sublist (List.take_sublist _ _) h, List.pairwise_cons.2 ⟨fun x hx => hhi x hx, List.Pairwise.sublist (List.drop_sublist _ _) h⟩, fun x hx y hy => ?_⟩
  rcases List.mem_cons.1 hy with rfl | hy
  · exact hlo x hx
  · exact less_trans _ _ _ (hlo x hx) (hhi y hy)
theorem Sorted.noName {es : List EN} (h : Sorted es) (s : ByteArray) : Sorted (noName es s) := List.Pairwise.sublist List.filter_sublist h
theorem rep_sorted {nodes : Int} {es l : List EN} {o : DO} (hs : Sorted es) (h : repE nodes es o = some l) : Sorted l := by
  unfold repE at h
  split at h
  · split at h
    · simp only [Option.some.injEq] at h
      subst h
      exact sorted_ins (hs.noName _) (fun n hn => (mem_noName.1 hn).2 rfl)
    · cases h
  · split at h
    · split at h
      · cases h
      · split at h
        · simp only [Option.some.injEq] at h
          subst h
          exact sorted_ins ((hs.noName _).noName _) (fun n hn => (mem_noName.1 hn).2 rfl)
        · cases h
    · split at h
      · split at h
        · cases h
        · split at h
          · simp only [Option.some.injEq] at h
            subst h
            exact hs.noName _
          · cases h
      · cases h
/-- What listing.entries is asked to do (its own walk is not in this text). -/
def EntriesLaw : Prop := ∀ (b1 b2 n : Nat) (es : List EN) (W : World), n ≤ 1048576 → es.length ≤ 300 → Apart es → Sorted es → (∀ e ∈ es, e.1.size ≤ 1048576) → LstAt W b1 b2 n es →
  Calls Try.prog 46 #[lstV b1 b2] W fun e w' => ∃ v, e = .returned v ∧ OwnE w' W.heap.size v es ∧ Below W.heap.size W w'
theorem mem_size {es l : List EN} {nodes : Int} {o : DO} (h : repE nodes es o = some l) (hs : ∀ e ∈ es, e.1.size ≤ 1048576) (h1 : o.2.1.size ≤ 1048576) (h2 : o.2.2.1.size ≤ 1048576) : ∀ e ∈ l, e.1.size ≤ 1048576 := by
  rintro ⟨s, n⟩ he
  unfold repE at h
  split at h
  · split at h
    · simp only [Option.some.injEq] at h
      subst h
      rcases mem_insE.1 he with ⟨rfl, _⟩ | he
      · exact h1
      · exact hs _ (mem_noName.1 he).1
    · cases h
  · split at h
    · split at h
      · cases h
      · split at h
        · simp only [Option.some.injEq] at h
          subst h
          rcases mem_insE.1 he with ⟨rfl, _⟩ | he
          · exact h2
          · exact hs _ (mem_noName.1 (mem_noName.1 he).1).1
        · cases h
    · split at h
      · split at h
        · cases h
        · split at h
          · simp only [Option.some.injEq] at h
            subst h
            exact hs _ (mem_noName.1 he).1
          · cases h
      · cases h
theorem okList_apart {nodes : Int} {es : List EN} (h : okList nodes es = true) : Apart es ∧ Sorted es ∧ es.length ≤ 300 ∧ ∀ e ∈ es, 0 ≤ e.2 ∧ e.2 < nodes := by
  unfold okList at h
  obtain ⟨h1, h2⟩ := of_decide_eq_true h
  have hp : ∀ i j (hi : i < es.length) (hj : j < es.length), i < j → Op.bytesLess es[i].1.toList es[j].1.toList = true ∧ es[i].2 ≠ es[j].2 := fun i j hi hj hij => by
    have h3 := (h2 j hj).2 i hij
    unfold apart at h3
    exact of_decide_eq_true h3
  refine ⟨List.pairwise_iff_getElem.2 fun i j hi hj hij => ⟨fun e => ?_, (hp i j hi hj hij).2⟩, List.pairwise_iff_getElem.2 fun i j hi hj hij => (hp i j hi hj hij).1, h1, fun e he => ?_⟩
  · have := (hp i j hi hj hij).1
    rw [e, less_irrefl] at this
    cases this
  · obtain ⟨i, hi, rfl⟩ := List.getElem_of_mem he
    have h3 := (h2 i hi).1
    unfold okEnt at h3
    exact (of_decide_eq_true h3).2
end Go.Proofs.Ytledlicandlekab
