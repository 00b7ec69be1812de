import Derived.Test.YtledlicandlekabDiskTo4
namespace Go.Proofs.Ytledlicandlekab
open Go.RowKit
theorem Try.infoNode : (Try.prog.info? 56).map (fun i => (i.zero, i.size, i.bytes)) = some (some (.agg #[.slice none 0 0, .int .i64 0]), 2, 32) := by kernel_rfl
/-- The nodes of a call's own. -/
def OwnN (w : World) (base : Nat) (v : Value) (ns : List (List Nat × Int)) : Prop := ∃ vs : List (Value × Value), vs.length = ns.length ∧ Own2 w base 56 v vs ∧ ∀ i (h : i < ns.length), ∃ x, vs[i]? = some (x, .int .i64 ns[i].2) ∧ OwnB w base x ns[i].1
theorem OwnN.at {w : World} {base : Nat} {a : Option Addr} {n cap : Nat} {ns : List (List Nat × Int)} (h : OwnN w base (.slice a n cap) ns) : NodeAt w a ns := fun hp => by
  obtain ⟨vs, hlen, h2, hi⟩ := h
  rcases h2.2 with ⟨_, hn⟩ | ⟨g, cap', cur, h', _⟩
  · omega
  · simp only [Value.slice.injEq] at h'
    obtain ⟨rfl, rfl, rfl⟩ := h'
    refine ⟨g, 0, rfl, fun i hlt => ?_⟩
    obtain ⟨c0, c1⟩ := Own2.cells h2 i (by omega)
    obtain ⟨x, hx, ho⟩ := hi i hlt
    rw [List.getElem?_eq_getElem (by omega)] at hx
    simp only [Option.some.injEq] at hx
    rw [hx] at c0 c1
    obtain ⟨ai, ci, rfl⟩ := ho.slice
    rw [Nat.zero_add]
    exact ⟨ai, ci, c0, c1, ho.row⟩
def z2 : Value × Value := (.slice none 0 0, .int .i64 0)
/-- k of the nodes are written. -/
def NFill (w : World) (g k : Nat) (ns : List (List Nat × Int)) : Prop := g + 1 ≤ w.heap.size ∧ ∃ vs : List (Value × Value), vs.length = k ∧ Own2 w g 56 (.slice (some ⟨g, 0, none⟩) ns.length ns.length) (vs ++ List.replicate (ns.length - k) z2) ∧ ∀ i (h : i < ns.length), i < k → ∃ x, vs[i]? = some (x, .int .i64 ns[i].2) ∧ OwnB w (g + 1) x ns[i].1
theorem NFill.done {w : World} {g : Nat} {ns : List (List Nat × Int)} (h : NFill w g ns.length ns) : OwnN w g (.slice (some ⟨g, 0, none⟩) ns.length ns.length) ns := by
  obtain ⟨_, vs, hl, h2, hi⟩ := h
  rw [Nat.sub_self, List.replicate_zero, List.append_nil] at h2
  refine ⟨vs, hl, h2, fun i h => ?_⟩
  obtain ⟨x, hx, ho⟩ := hi i h h
  exact ⟨x, hx, ho.mono (by omega)⟩
theorem fill_set {α : Type} (vs : List α) (n k : Nat) (z x : α) (hl : vs.length = k) (hk : k < n) : (vs ++ List.replicate (n - k) z).set k x = (vs ++ [x]) ++ List.replicate (n - (k + 1)) z := by
  rw [List.set_append_right _ _ (by omega), hl, Nat.sub_self, show n - k = (n - (k + 1)) + 1 from by omega, List.replicate_succ, List.set_cons_zero]
  simp
theorem NFill.below {w w2 : World} {g k : Nat} {ns : List (List Nat × Int)} (h : NFill w g k ns) (hb : Below w.heap.size w w2) : NFill w2 g k ns := by
  obtain ⟨hs, vs, hl, h2, hi⟩ := h
  refine ⟨Nat.le_trans hs hb.size, vs, hl, h2.below hb (Nat.le_refl _), fun i h h' => ?_⟩
  obtain ⟨x, hx, ho⟩ := hi i h h'
  exact ⟨x, hx, ho.below hb (Nat.le_refl _)⟩
theorem NFill.next {w : World} {g k : Nat} {ns : List (List Nat × Int)} (h : NFill w g k ns) (hk : k < ns.length) {x : Value} (hx : OwnB w (g + 1) x ns[k].1) :
    NFill ((w.setCell ⟨g, k * 2, none⟩ x).setCell ⟨g, k * 2 + 1, none⟩ (.int .i64 ns[k].2)) g (k + 1) ns := by
  obtain ⟨hs, vs, hl, h2, hi⟩ := h
  refine ⟨by simpa using hs, vs ++ [(x, .int .i64 ns[k].2)], by simp [hl], ?_, fun i h h' => ?_⟩
  · have := Own2.store h2 k x (.int .i64 ns[k].2)
    rw [fill_set vs _ k _ _ hl hk] at this
    exact this
  · by_cases e : i = k
    · subst e
      refine ⟨x, by rw [List.getElem?_append_right (by omega), hl, Nat.sub_self]; rfl, ?_⟩
      exact (hx.set_low (by simp) _).set_low (by simp) _
    · obtain ⟨y, hy, ho⟩ := hi i h (by omega)
      exact ⟨y, by rw [List.getElem?_append_left (by omega)]; exact hy, (ho.set_low (by simp) _).set_low (by simp) _⟩
theorem NFill.cells {w : World} {g k : Nat} {ns : List (List Nat × Int)} (h : NFill w g k ns) (hk : k < ns.length) : w.cell? ⟨g, k * 2, none⟩ = some (.slice none 0 0) ∧ w.cell? ⟨g, k * 2 + 1, none⟩ = some (.int .i64 0) ∧ w.frozen? ⟨g, k * 2, none⟩ = false ∧ w.frozen? ⟨g, k * 2 + 1, none⟩ = false := by
  obtain ⟨hs, vs, hl, h2, hi⟩ := h
  have hlt : k < (vs ++ List.replicate (ns.length - k) z2).length := by simp; omega
  obtain ⟨c0, c1⟩ := Own2.cells h2 k hlt
  have e : (vs ++ List.replicate (ns.length - k) z2)[k] = z2 := by
    rw [List.getElem_append_right (by omega)]; simp
  rw [e] at c0 c1
  exact ⟨c0, c1, Own2.frozen h2 _, Own2.frozen h2 _⟩
theorem wpList_make_nodes {ops : Array Oper} {rest : List Oper} {o : Oper} {act : Act} {Q : Exit → Act → World → Prop} (w : World) (hgd : o.guard = none) (s x : Operand)
    (ho : o.op = Op.makeSlice 32 s x) (ns : List (List Nat × Int)) (hs : act.eval s = .int .i64 (ns.length : Int)) (hx : act.eval x = .int .i64 (ns.length : Int)) (hlen : ns.length ≤ 1048576)
    (h : ∀ w', NFill w' w.heap.size 0 ns → Below w.heap.size w w' → wpList Try.prog ops Q rest (act.put o.dst (.slice (some ⟨w.heap.size, 0, none⟩) ns.length ns.length)) w') : wpList Try.prog ops Q (o :: rest) act w := by
  obtain ⟨i0, hi, hz0, hz1, hz2⟩ := info_parts Try.infoNode
  refine wpList_make_full w hgd s x 32 ho w.heap.size 56 i0 (.agg #[.slice none 0 0, .int .i64 0]) 2 Try.underlying32 hi hz0 hz1 .i64 .i64 _ _ ns.length hs hx rfl rfl (by rw [hz2]; omega) (by unfold maxLen; omega) (Nat.le_refl _) ?_
  intro w1 hown hgrow
  refine h w1 ⟨?_, [], rfl, ?_, fun i _ h => by omega⟩ ((Below.refl _ _).grown hgrow (Nat.le_refl _) (fun k h => by cases h))
  · rcases hown.2 with ⟨h', _⟩ | ⟨g, cap, cur, h', _, hg, _⟩
    · simp at h'
    · simp only [Value.slice.injEq, Option.some.injEq, Addr.mk.injEq, and_true] at h'
      obtain ⟨rfl, _⟩ := h'
      exact lt_of_block hg
  · unfold Own2
    rw [List.nil_append, List.length_replicate, Nat.sub_zero]
    have e : (madeCells (Value.agg #[.slice none 0 0, .int .i64 0]).cells (ns.length * 2)).toList = two (List.replicate ns.length z2) := two_made _ _ _
    rw [e] at hown; exact hown
theorem toNodeS_any (a : Option Addr) (cap : Nat) (ns : List (List Nat × Int)) (w : World) (hl : ns.length ≤ 1048576) (hls : ∀ e ∈ ns, e.1.length ≤ 1048576) (hr : NodeAt w a ns) :
    Calls Try.prog 26 #[.slice a ns.length cap] w fun e w' => e = .returned (.slice (some ⟨w.heap.size, 0, none⟩) ns.length ns.length) ∧ OwnN w' w.heap.size (.slice (some ⟨w.heap.size, 0, none⟩) ns.length ns.length) ns ∧ Below w.heap.size w w' := by
  go_enter Try.func26, Try.ntmps26
  go_wp2_with (at_make; refine wpList_make_nodes _ rfl _ _ rfl ns rfl rfl (by omega) ?_; intro w1 hfill hbel)
  go_loopw [4] (fun i wr => ∃ k : Nat, k ≤ ns.length ∧ i = .int .i64 k ∧ NFill wr w.heap.size k ns ∧ Below w.heap.size w wr) (fun i _ => ns.length - (intOf i).toNat)
  case atStart => exact ⟨0, Nat.zero_le _, rfl, hfill, hbel⟩
  case round =>
    obtain ⟨k, hk, rfl, hf, hnx⟩ := hrel
    clear hfill hbel
    by_cases hlt : k < ns.length
    · obtain ⟨b, off, rfl, hc⟩ := (hr.below hnx) (by omega)
      obtain ⟨ai, ci, hc0, hc1, hri⟩ := hc k hlt
      have hkl := hls _ (List.getElem_mem hlt)
      have HF := hide hf
      have HN := hide hnx
      clear hc hr hls hf hnx
      go_wp2_with fail
      refine (toNode_any ai ci ns[k].1 ns[k].2 wr hkl hri).mono ?_
      rintro e w2 ⟨x, rfl, ho, hb⟩
      have hf2 := HF.out.below hb
      have hx : OwnB w2 (w.heap.size + 1) x ns[k].1 := ho.mono HF.out.1
      obtain ⟨hd0, hd1, hf0, hf1⟩ := hf2.cells hlt
      have HX : Hid (NFill ((w2.setCell ⟨w.heap.size, k * 2, none⟩ x).setCell ⟨w.heap.size, k * 2 + 1, none⟩ (.int .i64 ns[k].2)) w.heap.size (k + 1) ns ∧ Below w.heap.size w ((w2.setCell ⟨w.heap.size, k * 2, none⟩ x).setCell ⟨w.heap.size, k * 2 + 1, none⟩ (.int .i64 ns[k].2))) :=
        ⟨hf2.next hlt hx, ((HN.out.trans (hb.mono HN.out.size)).setCell (Nat.le_refl _) _).setCell (Nat.le_refl _) _⟩
      obtain ⟨ax, cx, hxe⟩ := hx.slice
      clear hf2 hx ho hb HF HN hri hc0 hc1 hkl
      generalize ns[k].2 = sf at HX ⊢
      subst hxe
      generalize ns[k].1.length = n0 at HX ⊢
      go_wp2
      go_roundw
      case rel => exact ⟨k + 1, by omega, by go_num, HX.out.1, HX.out.2⟩
      case measure => simp [intOf]; omega
    · obtain rfl : k = ns.length := by omega
      go_wp2
      go_ret
      exact ⟨rfl, hf.done, hnx⟩
end Go.Proofs.Ytledlicandlekab
