import Derived.Test.YtpbpidfjecejcaaGreatDoorPkc
import Derived.Test.YtpbpidfjecejcaaGreatDoorPka
import Derived.Laws.BytesArg
namespace Go.Proofs.YtpbpidfjecejcaaGreatDoor
open Go.RowKit
theorem Tryz.infoNode : (Tryz.prog.info? 99).map (fun i => (i.zero, i.size, i.bytes)) = some (some (.agg #[.slice none 0 0, .int .i64 0]), 2, 32) := by kernel_rfl
/-- The nodes of a call's own. -/
def OwnN (w : World) (base : Nat) (v : Value) (ns : List (List Nat × Int)) : Prop := ∃ vs : List (Value × Value), vs.length = ns.length ∧ Own2 w base 99 v vs ∧ ∀ i (h : i < ns.length), ∃ x, vs[i]? = some (x, .int .i64 ns[i].2) ∧ OwnB w base x ns[i].1
theorem OwnN.at {w : World} {base : Nat} {a : Option Addr} {n cap : Nat} {ns : List (List Nat × Int)} (h : OwnN w base (.slice a n cap) ns) : NodeAt w a ns := fun hp => by
  obtain ⟨vs, hlen, h2, hi⟩ := h
  rcases h2.2 with ⟨_, hn⟩ | ⟨g, cap', cur, h', _⟩
  · omega
  · simp only [Value.slice.injEq] at h'
    obtain ⟨rfl, rfl, rfl⟩ := h'
    refine ⟨g, 0, rfl, fun i hlt => ?_⟩
    obtain ⟨c0, c1⟩ := Own2.cells h2 i (by omega)
    obtain ⟨x, hx, ho⟩ := hi i hlt
    rw [List.getElem?_eq_getElem (by omega)] at hx
    simp only [Option.some.injEq] at hx
    rw [hx] at c0 c1
    obtain ⟨ai, ci, rfl⟩ := ho.slice
    rw [Nat.zero_add]
    exact ⟨ai, ci, c0, c1, ho.row⟩
def z2 : Value × Value := (.slice none 0 0, .int .i64 0)
/-- k of the nodes are written. -/
def NFill (w : World) (g k : Nat) (ns : List (List Nat × Int)) : Prop := g + 1 ≤ w.heap.size ∧ ∃ vs : List (Value × Value), vs.length = k ∧ Own2 w g 99 (.slice (some ⟨g, 0, none⟩) ns.length ns.length) (vs ++ List.replicate (ns.length - k) z2) ∧ ∀ i (h : i < ns.length), i < k → ∃ x, vs[i]? = some (x, .int .i64 ns[i].2) ∧ OwnB w (g + 1) x ns[i].1
theorem NFill.done {w : World} {g : Nat} {ns : List (List Nat × Int)} (h : NFill w g ns.length ns) : OwnN w g (.slice (some ⟨g, 0, none⟩) ns.length ns.length) ns := by
  obtain ⟨_, vs, hl, h2, hi⟩ := h
  rw [Nat.sub_self, List.replicate_zero, List.append_nil] at h2
  refine ⟨vs, hl, h2, fun i h => ?_⟩
  obtain ⟨x, hx, ho⟩ := hi i h h
  exact ⟨x, hx, ho.mono (by omega)⟩
theorem fill_set {α : Type} (vs : List α) (n k : Nat) (z x : α) (hl : vs.length = k) (hk : k < n) : (vs ++ List.replicate (n - k) z).set k x = (vs ++ [x]) ++ List.replicate (n - (k + 1)) z := by
  rw [List.set_append_right _ _ (by omega), hl, Nat.sub_self, show n - k = (n - (k + 1)) + 1 from by omega, List.replicate_succ, List.set_cons_zero]
  simp
theorem NFill.below {w w2 : World} {g k : Nat} {ns : List (List Nat × Int)} (h : NFill w g k ns) (hb : Below w.heap.size w w2) : NFill w2 g k ns := by
  obtain ⟨hs, vs, hl, h2, hi⟩ := h
  refine ⟨Nat.le_trans hs hb.size, vs, hl, h2.below hb (Nat.le_refl _), fun i h h' => ?_⟩
  obtain ⟨x, hx, ho⟩ := hi i h h'
  exact ⟨x, hx, ho.below hb (Nat.le_refl _)⟩
theorem NFill.next {w : World} {g k : Nat} {ns : List (List Nat × Int)} (h : NFill w g k ns) (hk : k < ns.length) {x : Value} (hx : OwnB w (g + 1) x ns[k].1) :
    NFill ((w.setCell ⟨g, k * 2, none⟩ x).setCell ⟨g, k * 2 + 1, none⟩ (.int .i64 ns[k].2)) g (k + 1) ns := by
  obtain ⟨hs, vs, hl, h2, hi⟩ := h
  refine ⟨by simpa using hs, vs ++ [(x, .int .i64 ns[k].2)], by simp [hl], ?_, fun i h h' => ?_⟩
  · have := Own2.store h2 k x (.int .i64 ns[k].2)
    rw [fill_set vs _ k _ _ hl hk] at this
    exact this
  · by_cases e : i = k
    · subst e
      refine ⟨x, by rw [List.getElem?_append_right (by omega), hl, Nat.sub_self]; rfl, ?_⟩
      exact (hx.set_low (by simp) _).set_low (by simp) _
    · obtain ⟨y, hy, ho⟩ := hi i h (by omega)
      exact ⟨y, by rw [List.getElem?_append_left (by omega)]; exact hy, (ho.set_low (by simp) _).set_low (by simp) _⟩
theorem NFill.cells {w : World} {g k : Nat} {ns : List (List Nat × Int)} (h : NFill w g k ns) (hk : k < ns.length) : w.cell? ⟨g, k * 2, none⟩ = some (.slice none 0 0) ∧ w.cell? ⟨g, k * 2 + 1, none⟩ = some (.int .i64 0) ∧ w.frozen? ⟨g, k * 2, none⟩ = false ∧ w.frozen? ⟨g, k * 2 + 1, none⟩ = false := by
  obtain ⟨hs, vs, hl, h2, hi⟩ := h
  have hlt : k < (vs ++ List.replicate (ns.length - k) z2).length := by simp; omega
  obtain ⟨c0, c1⟩ := Own2.cells h2 k hlt
  have e : (vs ++ List.replicate (ns.length - k) z2)[k] = z2 := by
    rw [List.getElem_append_right (by omega)]; simp
  rw [e] at c0 c1
  exact ⟨c0, c1, Own2.frozen h2 _, Own2.frozen h2 _⟩
theorem wpList_make_nodes {ops : Array Oper} {rest : List Oper} {o : Oper} {act : Act} {Q : Exit → Act → World → Prop} (w : World) (hgd : o.guard = none) (s x : Operand)
    (ho : o.op = Op.makeSlice 23 s x) (ns : List (List Nat × Int)) (hs : act.eval s = .int .i64 (ns.length : Int)) (hx : act.eval x = .int .i64 (ns.length : Int)) (hlen : ns.length ≤ 1048576)
    (h : ∀ w', NFill w' w.heap.size 0 ns → Below w.heap.size w w' → wpList Tryz.prog ops Q rest (act.put o.dst (.slice (some ⟨w.heap.size, 0, none⟩) ns.length ns.length)) w') : wpList Tryz.prog ops Q (o :: rest) act w := by
  obtain ⟨i0, hi, hz0, hz1, hz2⟩ := info_parts Tryz.infoNode
  refine wpList_make_full w hgd s x 23 ho w.heap.size 99 i0 (.agg #[.slice none 0 0, .int .i64 0]) 2 Tryz.underlying23 hi hz0 hz1 .i64 .i64 _ _ ns.length hs hx rfl rfl (by rw [hz2]; omega) (by unfold maxLen; omega) (Nat.le_refl _) ?_
  intro w1 hown hgrow
  refine h w1 ⟨?_, [], rfl, ?_, fun i _ h => by omega⟩ ((Below.refl _ _).grown hgrow (Nat.le_refl _) (fun k h => by cases h))
  · rcases hown.2 with ⟨h', _⟩ | ⟨g, cap, cur, h', _, hg, _⟩
    · simp at h'
    · simp only [Value.slice.injEq, Option.some.injEq, Addr.mk.injEq, and_true] at h'
      obtain ⟨rfl, _⟩ := h'
      exact lt_of_block hg
  · unfold Own2
    rw [List.nil_append, List.length_replicate, Nat.sub_zero]
    have e : (madeCells (Value.agg #[.slice none 0 0, .int .i64 0]).cells (ns.length * 2)).toList = two (List.replicate ns.length z2) := two_made _ _ _
    rw [e] at hown; exact hown
theorem toNodeS_any (a : Option Addr) (cap : Nat) (ns : List (List Nat × Int)) (w : World) (hl : ns.length ≤ 1048576) (hls : ∀ e ∈ ns, e.1.length ≤ 1048576) (hr : NodeAt w a ns) :
    Calls Tryz.prog 44 #[.slice a ns.length cap] w fun e w' => e = .returned (.slice (some ⟨w.heap.size, 0, none⟩) ns.length ns.length) ∧ OwnN w' w.heap.size (.slice (some ⟨w.heap.size, 0, none⟩) ns.length ns.length) ns ∧ Below w.heap.size w w' := by
  go_enter Tryz.func44, Tryz.ntmps44
  go_wp2_with (at_make; refine wpList_make_nodes _ rfl _ _ rfl ns rfl rfl (by omega) ?_; intro w1 hfill hbel)
  go_loopw [4] (fun i wr => ∃ k : Nat, k ≤ ns.length ∧ i = .int .i64 k ∧ NFill wr w.heap.size k ns ∧ Below w.heap.size w wr) (fun i _ => ns.length - (intOf i).toNat)
  case atStart => exact ⟨0, Nat.zero_le _, rfl, hfill, hbel⟩
  case round =>
    obtain ⟨k, hk, rfl, hf, hnx⟩ := hrel
    clear hfill hbel
    by_cases hlt : k < ns.length
    · obtain ⟨b, off, rfl, hc⟩ := (hr.below hnx) (by omega)
      obtain ⟨ai, ci, hc0, hc1, hri⟩ := hc k hlt
      have hkl := hls _ (List.getElem_mem hlt)
      have HF := hide hf
      have HN := hide hnx
      clear hc hr hls hf hnx
      go_wp2_with fail
      refine (toNode_any ai ci ns[k].1 ns[k].2 wr hkl hri).mono ?_
      rintro e w2 ⟨x, rfl, ho, hb⟩
      have hf2 := HF.out.below hb
      have hx : OwnB w2 (w.heap.size + 1) x ns[k].1 := ho.mono HF.out.1
      obtain ⟨hd0, hd1, hf0, hf1⟩ := hf2.cells hlt
      have HX : Hid (NFill ((w2.setCell ⟨w.heap.size, k * 2, none⟩ x).setCell ⟨w.heap.size, k * 2 + 1, none⟩ (.int .i64 ns[k].2)) w.heap.size (k + 1) ns ∧ Below w.heap.size w ((w2.setCell ⟨w.heap.size, k * 2, none⟩ x).setCell ⟨w.heap.size, k * 2 + 1, none⟩ (.int .i64 ns[k].2))) :=
        ⟨hf2.next hlt hx, ((HN.out.trans (hb.mono HN.out.size)).setCell (Nat.le_refl _) _).setCell (Nat.le_refl _) _⟩
      obtain ⟨ax, cx, hxe⟩ := hx.slice
      clear hf2 hx ho hb HF HN hri hc0 hc1 hkl
      generalize ns[k].2 = sf at HX ⊢
      subst hxe
      generalize ns[k].1.length = n0 at HX ⊢
      go_wp2
      go_roundw
      case rel => exact ⟨k + 1, by omega, by go_num, HX.out.1, HX.out.2⟩
      case measure => simp [intOf]; omega
    · obtain rfl : k = ns.length := by omega
      go_wp2
      go_ret
      exact ⟨rfl, hf.done, hnx⟩
end Go.Proofs.YtpbpidfjecejcaaGreatDoor
namespace Go.Proofs.YtpbpidfjecejcaaGreatDoor
open Go.RowKit
structure MDisk where
  nodes : List (List Nat × Int)
  names : List (ByteArray × Int)
  kept : List (ByteArray × Int)
  pend : List (Int × ByteArray × ByteArray × Int)
  quota : Int
/-- v is the disk D. -/
def DiskAt (w : World) (v : Value) (D : MDisk) : Prop := ∃ a1 c1 a2 c2 a3 c3 a4 c4, v = .agg #[.slice a1 D.nodes.length c1, .slice a2 D.names.length c2, .slice a3 D.kept.length c3, .slice a4 D.pend.length c4, .int .i64 D.quota] ∧ NodeAt w a1 D.nodes ∧ EntAt w a2 D.names ∧ EntAt w a3 D.kept ∧ OpAt w a4 D.pend
theorem DiskAt.below {w w' : World} {v : Value} {D : MDisk} (h : DiskAt w v D) (hb : Below w.heap.size w w') : DiskAt w' v D := by
  obtain ⟨a1, c1, a2, c2, a3, c3, a4, c4, e, h1, h2, h3, h4⟩ := h
  exact ⟨a1, c1, a2, c2, a3, c3, a4, c4, e, h1.below hb, h2.below hb, h3.below hb, h4.below hb⟩
/-- v is the disk D, of the call's own. -/
def OwnD (w : World) (base : Nat) (v : Value) (D : MDisk) : Prop := ∃ v1 v2 v3 v4, v = .agg #[v1, v2, v3, v4, .int .i64 D.quota] ∧ OwnN w base v1 D.nodes ∧ OwnE w base v2 D.names ∧ OwnE w base v3 D.kept ∧ OwnO w base v4 D.pend
theorem OwnN.slice {w : World} {base : Nat} {v : Value} {ns : List (List Nat × Int)} (h : OwnN w base v ns) : ∃ a cap, v = .slice a ns.length cap := by
  obtain ⟨vs, hl, h2, _⟩ := h
  rw [← hl]; exact h2.slice
theorem OwnE.slice {w : World} {base : Nat} {v : Value} {es : List (ByteArray × Int)} (h : OwnE w base v es) : ∃ a cap, v = .slice a es.length cap := by
  have := Own2.slice h
  simpa using this
theorem OwnO.slice {w : World} {base : Nat} {v : Value} {es : List (Int × ByteArray × ByteArray × Int)} (h : OwnO w base v es) : ∃ a cap, v = .slice a es.length cap := by
  have := Own4.slice h
  simpa using this
theorem OwnD.at {w : World} {base : Nat} {v : Value} {D : MDisk} (h : OwnD w base v D) : DiskAt w v D := by
  obtain ⟨v1, v2, v3, v4, rfl, h1, h2, h3, h4⟩ := h
  obtain ⟨a1, c1, rfl⟩ := h1.slice
  obtain ⟨a2, c2, rfl⟩ := h2.slice
  obtain ⟨a3, c3, rfl⟩ := h3.slice
  obtain ⟨a4, c4, rfl⟩ := h4.slice
  exact ⟨a1, c1, a2, c2, a3, c3, a4, c4, rfl, h1.at, h2.at, h3.at, h4.at⟩
theorem Own2.mono {w : World} {base base' e : Nat} {v : Value} {l : List (Value × Value)} (h : Own2 w base e v l) (hb : base' ≤ base) : Own2 w base' e v l := by
  refine ⟨h.1, ?_⟩
  rcases h.2 with hn | ⟨g, cap, cur, hv, hg0, rest⟩
  · exact .inl hn
  · exact .inr ⟨g, cap, cur, hv, Nat.le_trans hb hg0, rest⟩
theorem Own4.mono {w : World} {base base' e : Nat} {v : Value} {l : List V4} (h : Own4 w base e v l) (hb : base' ≤ base) : Own4 w base' e v l := by
  refine ⟨h.1, ?_⟩
  rcases h.2 with hn | ⟨g, cap, cur, hv, hg0, rest⟩
  · exact .inl hn
  · exact .inr ⟨g, cap, cur, hv, Nat.le_trans hb hg0, rest⟩
theorem Own2.set_low {w : World} {base e : Nat} {v : Value} {l : List (Value × Value)} (h : Own2 w base e v l) {p : Addr} (hp : p.block < base) (u : Value) : Own2 (w.setCell p u) base e v l := by
  refine ⟨h.1, ?_⟩
  rcases h.2 with hn | ⟨g, cap, cur, hv, hbase, hg, rest⟩
  · exact .inl hn
  · exact .inr ⟨g, cap, cur, hv, hbase, (heap_setCell_other w p g u (by omega)).trans hg, rest⟩
theorem Own4.set_low {w : World} {base e : Nat} {v : Value} {l : List V4} (h : Own4 w base e v l) {p : Addr} (hp : p.block < base) (u : Value) : Own4 (w.setCell p u) base e v l := by
  refine ⟨h.1, ?_⟩
  rcases h.2 with hn | ⟨g, cap, cur, hv, hbase, hg, rest⟩
  · exact .inl hn
  · exact .inr ⟨g, cap, cur, hv, hbase, (heap_setCell_other w p g u (by omega)).trans hg, rest⟩
theorem OwnN.mono {w : World} {base base' : Nat} {v : Value} {ns : List (List Nat × Int)} (h : OwnN w base v ns) (hb : base' ≤ base) : OwnN w base' v ns := by
  obtain ⟨vs, hl, h2, hi⟩ := h
  exact ⟨vs, hl, h2.mono hb, fun i h => by obtain ⟨x, hx, ho⟩ := hi i h; exact ⟨x, hx, ho.mono hb⟩⟩
theorem OwnN.set_low {w : World} {base : Nat} {v : Value} {ns : List (List Nat × Int)} (h : OwnN w base v ns) {p : Addr} (hp : p.block < base) (u : Value) : OwnN (w.setCell p u) base v ns := by
  obtain ⟨vs, hl, h2, hi⟩ := h
  exact ⟨vs, hl, h2.set_low hp u, fun i h => by obtain ⟨x, hx, ho⟩ := hi i h; exact ⟨x, hx, ho.set_low hp u⟩⟩
theorem OwnN.below {w w' : World} {base : Nat} {v : Value} {ns : List (List Nat × Int)} (h : OwnN w base v ns) (hb : Below w.heap.size w w') : OwnN w' base v ns := by
  obtain ⟨vs, hl, h2, hi⟩ := h
  exact ⟨vs, hl, h2.below hb (Nat.le_refl _), fun i h => by obtain ⟨x, hx, ho⟩ := hi i h; exact ⟨x, hx, ho.below hb (Nat.le_refl _)⟩⟩
theorem OwnE.mono {w : World} {base base' : Nat} {v : Value} {es : List (ByteArray × Int)} (h : OwnE w base v es) (hb : base' ≤ base) : OwnE w base' v es := Own2.mono h hb
theorem OwnE.set_low {w : World} {base : Nat} {v : Value} {es : List (ByteArray × Int)} (h : OwnE w base v es) {p : Addr} (hp : p.block < base) (u : Value) : OwnE (w.setCell p u) base v es := Own2.set_low h hp u
theorem OwnE.below {w w' : World} {base : Nat} {v : Value} {es : List (ByteArray × Int)} (h : OwnE w base v es) (hb : Below w.heap.size w w') : OwnE w' base v es := Own2.below h hb (Nat.le_refl _)
theorem OwnO.mono {w : World} {base base' : Nat} {v : Value} {es : List (Int × ByteArray × ByteArray × Int)} (h : OwnO w base v es) (hb : base' ≤ base) : OwnO w base' v es := Own4.mono h hb
theorem OwnO.set_low {w : World} {base : Nat} {v : Value} {es : List (Int × ByteArray × ByteArray × Int)} (h : OwnO w base v es) {p : Addr} (hp : p.block < base) (u : Value) : OwnO (w.setCell p u) base v es := Own4.set_low h hp u
theorem OwnO.below {w w' : World} {base : Nat} {v : Value} {es : List (Int × ByteArray × ByteArray × Int)} (h : OwnO w base v es) (hb : Below w.heap.size w w') : OwnO w' base v es := Own4.below h hb (Nat.le_refl _)
/-- The three blocks of toDisk: its argument, its answer, its 'out'. -/
def TD (w wj : World) (B : Nat) (A res cur : Array Value) : Prop := Laid wj B A 36 ∧ Laid wj (B + 1) res 27 ∧ Laid wj (B + 1 + 1) cur 27 ∧ Below B w wj ∧ B + 3 ≤ wj.heap.size
theorem TD.start (w : World) (A res cur : Array Value) : TD w (((w.alloc (.cells A 36)).alloc (.cells res 27)).alloc (.cells cur 27)) w.heap.size A res cur := by
  refine ⟨?_, ?_, ?_, (((Below.refl w.heap.size w).alloc (Nat.le_refl _) _).alloc (by simp) _).alloc (by simp; omega) _, by simp⟩
  · exact Laid.below (B := w.heap.size + 2) (Laid.below (B := w.heap.size + 1) (Laid.new w _ _) ((Below.refl _ _).alloc (by simp) _) (by omega)) ((Below.refl _ _).alloc (by simp) _) (by omega)
  · have h := Laid.new (w.alloc (.cells A 36)) res 27
    rw [show (w.alloc (.cells A 36)).heap.size = w.heap.size + 1 from by simp] at h
    exact Laid.below (B := w.heap.size + 2) h ((Below.refl _ _).alloc (by simp) _) (by omega)
  · have h := Laid.new ((w.alloc (.cells A 36)).alloc (.cells res 27)) cur 27
    rw [show ((w.alloc (.cells A 36)).alloc (.cells res 27)).heap.size = w.heap.size + 1 + 1 from by simp] at h
    exact h
theorem TD.below {w wj w' : World} {B : Nat} {A res cur : Array Value} (h : TD w wj B A res cur) (hb : Below wj.heap.size wj w') : TD w w' B A res cur := by
  obtain ⟨h0, h1, h2, hn, hs⟩ := h
  exact ⟨h0.below hb h0.lt, h1.below hb h1.lt, h2.below hb h2.lt, hn.trans (hb.mono (by omega)), Nat.le_trans hs hb.size⟩
theorem TD.setOut {w wj : World} {B : Nat} {A res cur : Array Value} (h : TD w wj B A res cur) (j : Nat) (u : Value) : TD w (wj.setCell ⟨B + 1 + 1, j, none⟩ u) B A res (cur.setIfInBounds j u) := by
  obtain ⟨h0, h1, h2, hn, hs⟩ := h
  exact ⟨h0.other (by simp; omega) u, h1.other (by simp) u, h2.set j u, hn.setCell (by simp; omega) u, by simpa using hs⟩
theorem TD.setRes {w wj : World} {B : Nat} {A res cur : Array Value} (h : TD w wj B A res cur) (j : Nat) (u : Value) : TD w (wj.setCell ⟨B + 1, j, none⟩ u) B A (res.setIfInBounds j u) cur := by
  obtain ⟨h0, h1, h2, hn, hs⟩ := h
  exact ⟨h0.other (by simp) u, h1.set j u, h2.other (by simp) u, hn.setCell (by simp) u, by simpa using hs⟩
end Go.Proofs.YtpbpidfjecejcaaGreatDoor
namespace Go.Proofs.YtpbpidfjecejcaaGreatDoor
open Go.RowKit
/-- The bytes l as a string. -/
def strB (l : List Nat) : ByteArray := ⟨(l.map UInt8.ofNat).toArray⟩
theorem map_back (l : List Nat) (h : ∀ x ∈ l, x < 256) : (l.map UInt8.ofNat).map UInt8.toNat = l := by
  rw [List.map_map]
  conv => rhs; rw [← List.map_id l]
  apply List.map_congr_left
  intro x hx
  have := h x hx
  simp
  omega
/-- string of bytes that lie somewhere. -/
theorem run_string_of (w : World) (a : Option Addr) (cap : Nat) (l : List Nat) (hr : RowAt w a l) :
    (convert 52 9 (.slice a l.length cap)).run Tryz.prog w = .ok (.string (strB l)) w := by
  by_cases h0 : l.length = 0
  · obtain rfl : l = [] := List.eq_nil_of_length_eq_zero h0
    rw [run_convert_bytes_string w _ _ 5 a _ cap Tryz.underlying52 Tryz.underlying5 Tryz.underlying9]
    cases a <;> simp [Conv.bytesToString, loadCells] <;> rfl
  · obtain ⟨b, off, rfl, hc⟩ := hr (by omega)
    have h := run_convert_bytes_arg w 52 5 Tryz.underlying52 Tryz.underlying5 b off l.length cap (l.map fun n : Nat => (n : Int)) (by simp) (fun i hi => by rw [hc i hi]; simp [hi]) 9 Tryz.underlying9
    rw [h]
    unfold strOfNums strB
    rw [List.map_map]
    rfl
theorem strB_inj {l m : List Nat} (hl : ∀ x ∈ l, x < 256) (hm : ∀ x ∈ m, x < 256) (h : strB l = strB m) : l = m := by
  unfold strB at h
  have h1 : (l.map UInt8.ofNat).toArray = (m.map UInt8.ofNat).toArray := congrArg ByteArray.data h
  have h2 : l.map UInt8.ofNat = m.map UInt8.ofNat := congrArg Array.toList h1
  rw [← map_back l hl, ← map_back m hm, h2]
theorem strB_dec {l m : List Nat} (hl : ∀ x ∈ l, x < 256) (hm : ∀ x ∈ m, x < 256) : decide (strB l = strB m) = decide (l = m) := by
  by_cases h : l = m
  · subst h; simp
  · rw [decide_eq_false h, decide_eq_false fun e => h (strB_inj hl hm e)]
theorem strB_list (l : List Nat) : (strB l).toList = l.map UInt8.ofNat := by rw [ByteArray.toList_eq]; rfl
theorem strB_beq {l m : List Nat} (hl : ∀ x ∈ l, x < 256) (hm : ∀ x ∈ m, x < 256) : ((strB l).toList == (strB m).toList) = decide (l = m) := by
  rw [strB_list, strB_list]
  by_cases h : l = m
  · subst h; simp
  · rw [decide_eq_false h]
    exact beq_eq_false_iff_ne.2 fun e => h (by rw [← map_back l hl, ← map_back m hm, e])
end Go.Proofs.YtpbpidfjecejcaaGreatDoor
namespace Go.Proofs.YtpbpidfjecejcaaGreatDoor
open Go.RowKit
/-- A block of n cells of type t, whatever they hold. -/
def Raw (w : World) (g : Nat) (t : TypeId) (n : Nat) : Prop := ∃ cur : Array Value, w.heap[g]? = some (.cells cur t (0, 0)) ∧ cur.size = n
theorem Raw.cell {w : World} {g t n : Nat} (h : Raw w g t n) (j : Nat) (hj : j < n) : ∃ v, w.cell? ⟨g, j, none⟩ = some v := by
  obtain ⟨cur, hc, hs⟩ := h
  rw [cell_of_row w g j _ _ _ hc]
  exact ⟨_, Array.getElem?_eq_getElem (by omega)⟩
theorem Raw.frozen {w : World} {g t n : Nat} (h : Raw w g t n) (j : Nat) : w.frozen? ⟨g, j, none⟩ = false := by
  obtain ⟨cur, hc, _⟩ := h
  simp [World.frozen?, hc]
theorem Raw.lt {w : World} {g t n : Nat} (h : Raw w g t n) : g < w.heap.size := by
  obtain ⟨cur, hc, _⟩ := h
  exact lt_of_block hc
theorem Raw.set {w : World} {g t n : Nat} (h : Raw w g t n) (g' j : Nat) (u : Value) : Raw (w.setCell ⟨g', j, none⟩ u) g t n := by
  obtain ⟨cur, hc, hs⟩ := h
  by_cases e : g = g'
  · subst e
    refine ⟨cur.setIfInBounds j u, ?_, by simpa using hs⟩
    rw [setCell_eq_setRow w g j _ _ _ _ hc, setRow_heap w g _ _ _ _ hc]
  · exact ⟨cur, (heap_setCell_other w ⟨g', j, none⟩ g u (by simpa using e)).trans hc, hs⟩
theorem Raw.apart {w : World} {g g' t t' n n' : Nat} (h : Raw w g t n) (h' : Raw w g' t' n') (ht : t ≠ t') : g ≠ g' := by
  rintro rfl
  obtain ⟨c, hc, _⟩ := h
  obtain ⟨c', hc', _⟩ := h'
  rw [hc] at hc'
  simp only [Option.some.injEq, Obj.cells.injEq] at hc'
  exact ht hc'.2.1
theorem Raw.of_eq {w w' : World} {g t n : Nat} (h : Raw w g t n) (e : w'.heap[g]? = w.heap[g]?) : Raw w' g t n := by
  obtain ⟨cur, hc, hs⟩ := h
  exact ⟨cur, e.trans hc, hs⟩
theorem Out.set {lo hi g j : Nat} {a w : World} {u : Value} (h : Out lo hi a w) (h1 : lo ≤ g) (h2 : g < hi) : Out lo hi a (w.setCell ⟨g, j, none⟩ u) :=
  ⟨h.os, h.tape, h.output, by simpa using h.size, fun k hk ho => by
    rw [heap_setCell_other w ⟨g, j, none⟩ k u (by simp; omega)]
    exact h.block k hk ho⟩
theorem Out.andThen {lo hi B : Nat} {a b c : World} (h : Out lo hi a b) (k : Below B b c) (hB : a.heap.size ≤ B) : Out lo hi a c :=
  ⟨k.os.trans h.os, k.tape.trans h.tape, k.output.trans h.output, Nat.le_trans h.size k.size, fun i hi ho => (k.block i (by omega)).trans (h.block i hi ho)⟩
/-- What marking bytes leaves, whatever they were. -/
theorem markB_raw (g n cap m k : Nat) (w : World) (hn : n ≤ m) (hk : k ≤ 4503599627370496) (hn2 : n ≤ 4503599627370496) (hr : Raw w g 5 m) :
    Calls Tryz.prog 56 #[.slice (some ⟨g, 0, none⟩) n cap, .int .i64 (k : Int)] w fun e w' => e = .returned (.int .i64 ((k + n : Nat) : Int)) ∧ (∀ g' t n', Raw w g' t n' → Raw w' g' t n') ∧ (∀ b, b ≠ g → w'.heap[b]? = w.heap[b]?) ∧ w'.os = w.os ∧ w'.tape = w.tape ∧ w'.output = w.output ∧ w'.heap.size = w.heap.size := by
  go_enter Tryz.func56, Tryz.ntmps56
  go_wp2
  go_loopw [1, 5] (fun s i wr => ∃ j : Nat, j ≤ n ∧ i = .int .i64 j ∧ s = .int .i64 ((k + j : Nat) : Int) ∧ (∀ g' t n', Raw w g' t n' → Raw wr g' t n') ∧ (∀ b, b ≠ g → wr.heap[b]? = w.heap[b]?) ∧ wr.os = w.os ∧ wr.tape = w.tape ∧ wr.output = w.output ∧ wr.heap.size = w.heap.size) (fun _ i _ => n - (intOf i).toNat)
  case atStart => exact ⟨0, Nat.zero_le _, rfl, rfl, fun _ _ _ h => h, fun _ _ => rfl, rfl, rfl, rfl, rfl⟩
  case round =>
    obtain ⟨j, hj, rfl, rfl, hrk, hbk, ho, ht, hou, hsz⟩ := hrel
    by_cases hlt : j < n
    · have hraw := hrk g 5 m hr
      obtain ⟨v, hcell⟩ := hraw.cell j (by omega)
      have hfz := hraw.frozen j
      have HX := hide (show (∀ (u : Value) g' t n', Raw w g' t n' → Raw (wr.setCell ⟨g, j, none⟩ u) g' t n') ∧ (∀ (u : Value) b, b ≠ g → (wr.setCell ⟨g, j, none⟩ u).heap[b]? = w.heap[b]?) ∧ (∀ u : Value, (wr.setCell ⟨g, j, none⟩ u).os = w.os ∧ (wr.setCell ⟨g, j, none⟩ u).tape = w.tape ∧ (wr.setCell ⟨g, j, none⟩ u).output = w.output ∧ (wr.setCell ⟨g, j, none⟩ u).heap.size = w.heap.size) from
        ⟨fun u g' t n' h => (hrk g' t n' h).set g j u, fun u b hb => (heap_setCell_other wr ⟨g, j, none⟩ b u (by simpa using hb)).trans (hbk b hb), fun u => ⟨ho, ht, hou, by rw [← hsz]; simp⟩⟩)
      clear hrk hbk ho ht hou hsz hr hraw
      go_wp2
      go_roundw
      case rel => exact ⟨j + 1, by omega, by go_num, val_int (by omega), HX.out.1 _, HX.out.2.1 _, (HX.out.2.2 _).1, (HX.out.2.2 _).2.1, (HX.out.2.2 _).2.2.1, (HX.out.2.2 _).2.2.2⟩
      case measure => simp [intOf]; omega
    · obtain rfl : j = n := by omega
      go_wp2
      go_ret
      exact ⟨rfl, hrk, hbk, ho, ht, hou, hsz⟩
end Go.Proofs.YtpbpidfjecejcaaGreatDoor
namespace Go.Proofs.YtpbpidfjecejcaaGreatDoor
open Go.RowKit
/-- The nodes of a disk, whatever they hold, all in blocks of [lo, hi). -/
structure NodesRaw (w : World) (lo hi g n m : Nat) (vs : Nat → Value) : Prop where
  raw : Raw w g 99 m
  room : n * 2 ≤ m
  low : lo ≤ g
  high : g < hi
  sl : ∀ j, j < n → w.cell? ⟨g, j * 2, none⟩ = some (vs j)
  el : ∀ j, j < n → vs j = .slice none 0 0 ∨ ∃ gj nj cj mj, vs j = .slice (some ⟨gj, 0, none⟩) nj cj ∧ Raw w gj 5 mj ∧ nj ≤ mj ∧ lo ≤ gj ∧ gj < hi ∧ nj ≤ 1048576
theorem NodesRaw.turn {w w' : World} {lo hi g n m : Nat} {vs : Nat → Value} (h : NodesRaw w lo hi g n m vs) (hr : ∀ g' t n', Raw w g' t n' → Raw w' g' t n') (hc : ∀ j, j < n → w'.cell? ⟨g, j * 2, none⟩ = w.cell? ⟨g, j * 2, none⟩) : NodesRaw w' lo hi g n m vs :=
  ⟨hr _ _ _ h.raw, h.room, h.low, h.high, fun j hj => (hc j hj).trans (h.sl j hj), fun j hj => by
    rcases h.el j hj with e | ⟨gj, nj, cj, mj, e, r, rest⟩
    · exact .inl e
    · exact .inr ⟨gj, nj, cj, mj, e, hr _ _ _ r, rest⟩⟩
theorem cell_of_block {w w' : World} {g j : Nat} (h : w'.heap[g]? = w.heap[g]?) : w'.cell? ⟨g, j, none⟩ = w.cell? ⟨g, j, none⟩ := by
  unfold World.cell?
  simp only [h]
theorem Raw.ty {w : World} {g t t' n n' : Nat} (h : Raw w g t n) (h' : Raw w g t' n') : t = t' := by
  obtain ⟨c, hc, _⟩ := h
  obtain ⟨c', hc', _⟩ := h'
  rw [hc] at hc'
  simp only [Option.some.injEq, Obj.cells.injEq] at hc'
  exact hc'.2.1
theorem markB_nil (k : Nat) (w : World) :
    Calls Tryz.prog 56 #[.slice none 0 0, .int .i64 (k : Int)] w fun e w' => e = .returned (.int .i64 (k : Int)) ∧ w' = w := by
  go_enter Tryz.func56, Tryz.ntmps56
  go_wp2
  go_loopw [1, 5] (fun s i wr => i = .int .i64 0 ∧ s = .int .i64 (k : Int) ∧ wr = w) (fun _ _ _ => 0)
  case atStart => exact ⟨rfl, rfl, rfl⟩
  case round =>
    obtain ⟨rfl, rfl, rfl⟩ := hrel
    go_wp2
    go_ret
    exact ⟨rfl, rfl⟩
def ElOk (w : World) (lo hi : Nat) (v : Value) : Prop := v = .slice none 0 0 ∨ ∃ gj nj cj mj, v = .slice (some ⟨gj, 0, none⟩) nj cj ∧ Raw w gj 5 mj ∧ nj ≤ mj ∧ lo ≤ gj ∧ gj < hi ∧ nj ≤ 1048576
theorem markB_el (lo hi k : Nat) (v : Value) (w : World) (hk : k ≤ 4503599627370496) (h : ElOk w lo hi v) :
    Calls Tryz.prog 56 #[v, .int .i64 (k : Int)] w fun e w' => (∃ nn : Nat, nn ≤ 1048576 ∧ e = .returned (.int .i64 ((k + nn : Nat) : Int))) ∧ (∀ g' t n', Raw w g' t n' → Raw w' g' t n') ∧ (∀ b t n', t ≠ 5 → Raw w b t n' → w'.heap[b]? = w.heap[b]?) ∧ Out lo hi w w' := by
  rcases h with rfl | ⟨gj, nj, cj, mj, rfl, r, hnm, hl, hh, hnb⟩
  · refine (markB_nil k w).mono ?_
    rintro e w' ⟨rfl, rfl⟩
    exact ⟨⟨0, by omega, rfl⟩, fun _ _ _ h => h, fun _ _ _ _ _ => rfl, Out.refl _ _ _⟩
  · refine (markB_raw gj nj cj mj k w hnm hk (by omega) r).mono ?_
    rintro e w' ⟨rfl, h1, h2, h3, h4, h5, h6⟩
    refine ⟨⟨nj, hnb, rfl⟩, h1, fun b t n' ht hb => h2 b (hb.apart r ht), ⟨h3, h4, h5, by omega, fun x hx ho => h2 x (by omega)⟩⟩
set_option maxRecDepth 20000 in
set_option maxHeartbeats 1000000 in
theorem markN_raw (lo hi g n cap m k : Nat) (vs : Nat → Value) (w : World) (hn : n ≤ 1048576) (hk : k ≤ 1048576) (hr : NodesRaw w lo hi g n m vs) :
    Calls Tryz.prog 31 #[.slice (some ⟨g, 0, none⟩) n cap, .int .i64 (k : Int)] w fun e w' => (∃ k' : Nat, e = .returned (.int .i64 (k' : Int)) ∧ k' ≤ k + n * 1048577) ∧ (∀ g' t n', Raw w g' t n' → Raw w' g' t n') ∧ Out lo hi w w' := by
  go_enter Tryz.func31, Tryz.ntmps31
  go_wp2
  go_loopw [1, 5] (fun s i wr => ∃ j s' : Nat, j ≤ n ∧ i = .int .i64 j ∧ s = .int .i64 (s' : Int) ∧ s' ≤ k + j * 1048577 ∧ NodesRaw wr lo hi g n m vs ∧ (∀ g' t n', Raw w g' t n' → Raw wr g' t n') ∧ Out lo hi w wr) (fun _ i _ => n - (intOf i).toNat)
  case atStart => exact ⟨0, k, Nat.zero_le _, rfl, rfl, by omega, hr, fun _ _ _ h => h, Out.refl _ _ _⟩
  case round =>
    obtain ⟨j, s', hj, rfl, rfl, hs', hN, hrk, ho⟩ := hrel
    by_cases hlt : j < n
    · have hc0 := hN.sl j hlt
      have HN := hide hN
      have HRK := hide hrk
      have HO := hide ho
      have hsb : s' ≤ 1099512676352 := by
        omega
      have HEL := hide (markB_el lo hi s' (vs j) wr (by omega) (hN.el j hlt))
      have HTN := hide (show (∀ W : World, (∀ g' t n', Raw wr g' t n' → Raw W g' t n') → (∀ b t n', t ≠ 5 → Raw wr b t n' → W.heap[b]? = wr.heap[b]?) → NodesRaw W lo hi g n m vs) from fun W h1 h2 => hN.turn h1 (fun j _ => cell_of_block (h2 g _ _ (by decide) hN.raw)))
      have hsl : ∃ sa sn sc, vs j = .slice sa sn sc := by
        rcases hN.el j hlt with e | ⟨gj, nj, cj, mj, e, _⟩
        · exact ⟨_, _, _, e⟩
        · exact ⟨_, _, _, e⟩
      obtain ⟨sa, sn, sc, esl⟩ := hsl
      rw [esl] at hc0 HEL
      clear hr hN hrk ho esl
      go_wp2_with fail
      refine HEL.out.mono ?_
      rintro e w2 ⟨⟨nn, hnn, rfl⟩, hk1, hk2, ho2⟩
      have hN2 := HTN.out w2 hk1 hk2
      obtain ⟨z, hz⟩ := hN2.raw.cell (j * 2 + 1) (by have := hN2.room; omega)
      have hfz := hN2.raw.frozen (j * 2 + 1)
      have hj2 : j * 1048577 + 1048577 = (j + 1) * 1048577 := by omega
      have HX := hide (show ∀ u : Value, NodesRaw (w2.setCell ⟨g, j * 2 + 1, none⟩ u) lo hi g n m vs ∧ (∀ g' t n', Raw w g' t n' → Raw (w2.setCell ⟨g, j * 2 + 1, none⟩ u) g' t n') ∧ Out lo hi w (w2.setCell ⟨g, j * 2 + 1, none⟩ u) from fun u =>
        ⟨hN2.turn (fun _ _ _ h => h.set _ _ _) (fun i _ => World.cell?_setCell_other _ _ _ _ (by intro e; simp only [Addr.mk.injEq] at e; omega)), fun _ _ _ h => (hk1 _ _ _ (HRK.out _ _ _ h)).set _ _ _, (HO.out.trans ho2).set hN2.low hN2.high⟩)
      clear hN2 hk1 hk2 ho2 HTN HEL HRK HO HN
      go_wp2
      go_roundw
      case rel => exact ⟨j + 1, s' + nn + 1, by omega, by go_num, by go_num, by omega, (HX.out _).1, (HX.out _).2.1, (HX.out _).2.2⟩
      case measure => simp [intOf]; omega
    · obtain rfl : j = n := by omega
      have HF := hide hs'
      clear hs'
      go_wp2
      go_ret
      exact ⟨⟨s', rfl, HF.out⟩, hrk, ho⟩
end Go.Proofs.YtpbpidfjecejcaaGreatDoor
