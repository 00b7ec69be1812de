import Derived.Test.YtpccongphchagaaGreatDoorPke
import Derived.Test.YtpccongphchagaaGreatDoorPkb
import Derived.Laws.IdiomStrings
import Derived.Deep.RegionWith
import Derived.Maps.OwnSet
namespace Go.Proofs.YtpccongphchagaaGreatDoor
open Go.RowKit
theorem Tryz.infoNode : (Tryz.prog.info? 49).map (fun i => (i.zero, i.size, i.bytes)) = some (some (.agg #[.slice none 0 0, .int .i64 0]), 2, 32) := by kernel_rfl
/-- The nodes of a call's own. -/
def OwnN (w : World) (base : Nat) (v : Value) (ns : List (List Nat × Int)) : Prop := ∃ vs : List (Value × Value), vs.length = ns.length ∧ Own2 w base 49 v vs ∧ ∀ i (h : i < ns.length), ∃ x, vs[i]? = some (x, .int .i64 ns[i].2) ∧ OwnB w base x ns[i].1
theorem OwnN.at {w : World} {base : Nat} {a : Option Addr} {n cap : Nat} {ns : List (List Nat × Int)} (h : OwnN w base (.slice a n cap) ns) : NodeAt w a ns := fun hp => by
  obtain ⟨vs, hlen, h2, hi⟩ := h
  rcases h2.2 with ⟨_, hn⟩ | ⟨g, cap', cur, h', _⟩
  · omega
  · simp only [Value.slice.injEq] at h'
    obtain ⟨rfl, rfl, rfl⟩ := h'
    refine ⟨g, 0, rfl, fun i hlt => ?_⟩
    obtain ⟨c0, c1⟩ := Own2.cells h2 i (by omega)
    obtain ⟨x, hx, ho⟩ := hi i hlt
    rw [List.getElem?_eq_getElem (by omega)] at hx
    simp only [Option.some.injEq] at hx
    rw [hx] at c0 c1
    obtain ⟨ai, ci, rfl⟩ := ho.slice
    rw [Nat.zero_add]
    exact ⟨ai, ci, c0, c1, ho.row⟩
def z2 : Value × Value := (.slice none 0 0, .int .i64 0)
/-- k of the nodes are written. -/
def NFill (w : World) (g k : Nat) (ns : List (List Nat × Int)) : Prop := g + 1 ≤ w.heap.size ∧ ∃ vs : List (Value × Value), vs.length = k ∧ Own2 w g 49 (.slice (some ⟨g, 0, none⟩) ns.length ns.length) (vs ++ List.replicate (ns.length - k) z2) ∧ ∀ i (h : i < ns.length), i < k → ∃ x, vs[i]? = some (x, .int .i64 ns[i].2) ∧ OwnB w (g + 1) x ns[i].1
theorem NFill.done {w : World} {g : Nat} {ns : List (List Nat × Int)} (h : NFill w g ns.length ns) : OwnN w g (.slice (some ⟨g, 0, none⟩) ns.length ns.length) ns := by
  obtain ⟨_, vs, hl, h2, hi⟩ := h
  rw [Nat.sub_self, List.replicate_zero, List.append_nil] at h2
  refine ⟨vs, hl, h2, fun i h => ?_⟩
  obtain ⟨x, hx, ho⟩ := hi i h h
  exact ⟨x, hx, ho.mono (by omega)⟩
theorem fill_set {α : Type} (vs : List α) (n k : Nat) (z x : α) (hl : vs.length = k) (hk : k < n) : (vs ++ List.replicate (n - k) z).set k x = (vs ++ [x]) ++ List.replicate (n - (k + 1)) z := by
  rw [List.set_append_right _ _ (by omega), hl, Nat.sub_self, show n - k = (n - (k + 1)) + 1 from by omega, List.replicate_succ, List.set_cons_zero]
  simp
theorem NFill.below {w w2 : World} {g k : Nat} {ns : List (List Nat × Int)} (h : NFill w g k ns) (hb : Below w.heap.size w w2) : NFill w2 g k ns := by
  obtain ⟨hs, vs, hl, h2, hi⟩ := h
  refine ⟨Nat.le_trans hs hb.size, vs, hl, h2.below hb (Nat.le_refl _), fun i h h' => ?_⟩
  obtain ⟨x, hx, ho⟩ := hi i h h'
  exact ⟨x, hx, ho.below hb (Nat.le_refl _)⟩
theorem NFill.next {w : World} {g k : Nat} {ns : List (List Nat × Int)} (h : NFill w g k ns) (hk : k < ns.length) {x : Value} (hx : OwnB w (g + 1) x ns[k].1) :
    NFill ((w.setCell ⟨g, k * 2, none⟩ x).setCell ⟨g, k * 2 + 1, none⟩ (.int .i64 ns[k].2)) g (k + 1) ns := by
  obtain ⟨hs, vs, hl, h2, hi⟩ := h
  refine ⟨by simpa using hs, vs ++ [(x, .int .i64 ns[k].2)], by simp [hl], ?_, fun i h h' => ?_⟩
  · have := Own2.store h2 k x (.int .i64 ns[k].2)
    rw [fill_set vs _ k _ _ hl hk] at this
    exact this
  · by_cases e : i = k
    · subst e
      refine ⟨x, by rw [List.getElem?_append_right (by omega), hl, Nat.sub_self]; rfl, ?_⟩
      exact (hx.set_low (by simp) _).set_low (by simp) _
    · obtain ⟨y, hy, ho⟩ := hi i h (by omega)
      exact ⟨y, by rw [List.getElem?_append_left (by omega)]; exact hy, (ho.set_low (by simp) _).set_low (by simp) _⟩
theorem NFill.cells {w : World} {g k : Nat} {ns : List (List Nat × Int)} (h : NFill w g k ns) (hk : k < ns.length) : w.cell? ⟨g, k * 2, none⟩ = some (.slice none 0 0) ∧ w.cell? ⟨g, k * 2 + 1, none⟩ = some (.int .i64 0) ∧ w.frozen? ⟨g, k * 2, none⟩ = false ∧ w.frozen? ⟨g, k * 2 + 1, none⟩ = false := by
  obtain ⟨hs, vs, hl, h2, hi⟩ := h
  have hlt : k < (vs ++ List.replicate (ns.length - k) z2).length := by simp; omega
  obtain ⟨c0, c1⟩ := Own2.cells h2 k hlt
  have e : (vs ++ List.replicate (ns.length - k) z2)[k] = z2 := by
    rw [List.getElem_append_right (by omega)]; simp
  rw [e] at c0 c1
  exact ⟨c0, c1, Own2.frozen h2 _, Own2.frozen h2 _⟩
theorem wpList_make_nodes {ops : Array Oper} {rest : List Oper} {o : Oper} {act : Act} {Q : Exit → Act → World → Prop} (w : World) (hgd : o.guard = none) (s x : Operand)
    (ho : o.op = Op.makeSlice 23 s x) (ns : List (List Nat × Int)) (hs : act.eval s = .int .i64 (ns.length : Int)) (hx : act.eval x = .int .i64 (ns.length : Int)) (hlen : ns.length ≤ 1048576)
    (h : ∀ w', NFill w' w.heap.size 0 ns → Below w.heap.size w w' → wpList Tryz.prog ops Q rest (act.put o.dst (.slice (some ⟨w.heap.size, 0, none⟩) ns.length ns.length)) w') : wpList Tryz.prog ops Q (o :: rest) act w := by
  obtain ⟨i0, hi, hz0, hz1, hz2⟩ := info_parts Tryz.infoNode
  refine wpList_make_full w hgd s x 23 ho w.heap.size 49 i0 (.agg #[.slice none 0 0, .int .i64 0]) 2 Tryz.underlying23 hi hz0 hz1 .i64 .i64 _ _ ns.length hs hx rfl rfl (by rw [hz2]; omega) (by unfold maxLen; omega) (Nat.le_refl _) ?_
  intro w1 hown hgrow
  refine h w1 ⟨?_, [], rfl, ?_, fun i _ h => by omega⟩ ((Below.refl _ _).grown hgrow (Nat.le_refl _) (fun k h => by cases h))
  · rcases hown.2 with ⟨h', _⟩ | ⟨g, cap, cur, h', _, hg, _⟩
    · simp at h'
    · simp only [Value.slice.injEq, Option.some.injEq, Addr.mk.injEq, and_true] at h'
      obtain ⟨rfl, _⟩ := h'
      exact lt_of_block hg
  · unfold Own2
    rw [List.nil_append, List.length_replicate, Nat.sub_zero]
    have e : (madeCells (Value.agg #[.slice none 0 0, .int .i64 0]).cells (ns.length * 2)).toList = two (List.replicate ns.length z2) := two_made _ _ _
    rw [e] at hown; exact hown
end Go.Proofs.YtpccongphchagaaGreatDoor
namespace Go.Proofs.YtpccongphchagaaGreatDoor
open Go.RowKit
structure MDisk where
  nodes : List (List Nat × Int)
  names : List (ByteArray × Int)
  kept : List (ByteArray × Int)
  pend : List (Int × ByteArray × ByteArray × Int)
  quota : Int
/-- v is the disk D. -/
def DiskAt (w : World) (v : Value) (D : MDisk) : Prop := ∃ a1 c1 a2 c2 a3 c3 a4 c4, v = .agg #[.slice a1 D.nodes.length c1, .slice a2 D.names.length c2, .slice a3 D.kept.length c3, .slice a4 D.pend.length c4, .int .i64 D.quota] ∧ NodeAt w a1 D.nodes ∧ EntAt w a2 D.names ∧ EntAt w a3 D.kept ∧ OpAt w a4 D.pend
theorem DiskAt.below {w w' : World} {v : Value} {D : MDisk} (h : DiskAt w v D) (hb : Below w.heap.size w w') : DiskAt w' v D := by
  obtain ⟨a1, c1, a2, c2, a3, c3, a4, c4, e, h1, h2, h3, h4⟩ := h
  exact ⟨a1, c1, a2, c2, a3, c3, a4, c4, e, h1.below hb, h2.below hb, h3.below hb, h4.below hb⟩
/-- v is the disk D, of the call's own. -/
def OwnD (w : World) (base : Nat) (v : Value) (D : MDisk) : Prop := ∃ v1 v2 v3 v4, v = .agg #[v1, v2, v3, v4, .int .i64 D.quota] ∧ OwnN w base v1 D.nodes ∧ OwnE w base v2 D.names ∧ OwnE w base v3 D.kept ∧ OwnO w base v4 D.pend
theorem OwnN.slice {w : World} {base : Nat} {v : Value} {ns : List (List Nat × Int)} (h : OwnN w base v ns) : ∃ a cap, v = .slice a ns.length cap := by
  obtain ⟨vs, hl, h2, _⟩ := h
  rw [← hl]; exact h2.slice
theorem OwnE.slice {w : World} {base : Nat} {v : Value} {es : List (ByteArray × Int)} (h : OwnE w base v es) : ∃ a cap, v = .slice a es.length cap := by
  have := Own2.slice h
  simpa using this
theorem OwnO.slice {w : World} {base : Nat} {v : Value} {es : List (Int × ByteArray × ByteArray × Int)} (h : OwnO w base v es) : ∃ a cap, v = .slice a es.length cap := by
  have := Own4.slice h
  simpa using this
theorem OwnD.at {w : World} {base : Nat} {v : Value} {D : MDisk} (h : OwnD w base v D) : DiskAt w v D := by
  obtain ⟨v1, v2, v3, v4, rfl, h1, h2, h3, h4⟩ := h
  obtain ⟨a1, c1, rfl⟩ := h1.slice
  obtain ⟨a2, c2, rfl⟩ := h2.slice
  obtain ⟨a3, c3, rfl⟩ := h3.slice
  obtain ⟨a4, c4, rfl⟩ := h4.slice
  exact ⟨a1, c1, a2, c2, a3, c3, a4, c4, rfl, h1.at, h2.at, h3.at, h4.at⟩
theorem Own2.mono {w : World} {base base' e : Nat} {v : Value} {l : List (Value × Value)} (h : Own2 w base e v l) (hb : base' ≤ base) : Own2 w base' e v l := by
  refine ⟨h.1, ?_⟩
  rcases h.2 with hn | ⟨g, cap, cur, hv, hg0, rest⟩
  · exact .inl hn
  · exact .inr ⟨g, cap, cur, hv, Nat.le_trans hb hg0, rest⟩
theorem Own4.mono {w : World} {base base' e : Nat} {v : Value} {l : List V4} (h : Own4 w base e v l) (hb : base' ≤ base) : Own4 w base' e v l := by
  refine ⟨h.1, ?_⟩
  rcases h.2 with hn | ⟨g, cap, cur, hv, hg0, rest⟩
  · exact .inl hn
  · exact .inr ⟨g, cap, cur, hv, Nat.le_trans hb hg0, rest⟩
theorem Own2.set_low {w : World} {base e : Nat} {v : Value} {l : List (Value × Value)} (h : Own2 w base e v l) {p : Addr} (hp : p.block < base) (u : Value) : Own2 (w.setCell p u) base e v l := by
  refine ⟨h.1, ?_⟩
  rcases h.2 with hn | ⟨g, cap, cur, hv, hbase, hg, rest⟩
  · exact .inl hn
  · exact .inr ⟨g, cap, cur, hv, hbase, (heap_setCell_other w p g u (by omega)).trans hg, rest⟩
theorem Own4.set_low {w : World} {base e : Nat} {v : Value} {l : List V4} (h : Own4 w base e v l) {p : Addr} (hp : p.block < base) (u : Value) : Own4 (w.setCell p u) base e v l := by
  refine ⟨h.1, ?_⟩
  rcases h.2 with hn | ⟨g, cap, cur, hv, hbase, hg, rest⟩
  · exact .inl hn
  · exact .inr ⟨g, cap, cur, hv, hbase, (heap_setCell_other w p g u (by omega)).trans hg, rest⟩
theorem OwnN.mono {w : World} {base base' : Nat} {v : Value} {ns : List (List Nat × Int)} (h : OwnN w base v ns) (hb : base' ≤ base) : OwnN w base' v ns := by
  obtain ⟨vs, hl, h2, hi⟩ := h
  exact ⟨vs, hl, h2.mono hb, fun i h => by obtain ⟨x, hx, ho⟩ := hi i h; exact ⟨x, hx, ho.mono hb⟩⟩
theorem OwnN.set_low {w : World} {base : Nat} {v : Value} {ns : List (List Nat × Int)} (h : OwnN w base v ns) {p : Addr} (hp : p.block < base) (u : Value) : OwnN (w.setCell p u) base v ns := by
  obtain ⟨vs, hl, h2, hi⟩ := h
  exact ⟨vs, hl, h2.set_low hp u, fun i h => by obtain ⟨x, hx, ho⟩ := hi i h; exact ⟨x, hx, ho.set_low hp u⟩⟩
theorem OwnN.below {w w' : World} {base : Nat} {v : Value} {ns : List (List Nat × Int)} (h : OwnN w base v ns) (hb : Below w.heap.size w w') : OwnN w' base v ns := by
  obtain ⟨vs, hl, h2, hi⟩ := h
  exact ⟨vs, hl, h2.below hb (Nat.le_refl _), fun i h => by obtain ⟨x, hx, ho⟩ := hi i h; exact ⟨x, hx, ho.below hb (Nat.le_refl _)⟩⟩
theorem OwnE.mono {w : World} {base base' : Nat} {v : Value} {es : List (ByteArray × Int)} (h : OwnE w base v es) (hb : base' ≤ base) : OwnE w base' v es := Own2.mono h hb
theorem OwnE.set_low {w : World} {base : Nat} {v : Value} {es : List (ByteArray × Int)} (h : OwnE w base v es) {p : Addr} (hp : p.block < base) (u : Value) : OwnE (w.setCell p u) base v es := Own2.set_low h hp u
theorem OwnE.below {w w' : World} {base : Nat} {v : Value} {es : List (ByteArray × Int)} (h : OwnE w base v es) (hb : Below w.heap.size w w') : OwnE w' base v es := Own2.below h hb (Nat.le_refl _)
theorem OwnO.mono {w : World} {base base' : Nat} {v : Value} {es : List (Int × ByteArray × ByteArray × Int)} (h : OwnO w base v es) (hb : base' ≤ base) : OwnO w base' v es := Own4.mono h hb
theorem OwnO.set_low {w : World} {base : Nat} {v : Value} {es : List (Int × ByteArray × ByteArray × Int)} (h : OwnO w base v es) {p : Addr} (hp : p.block < base) (u : Value) : OwnO (w.setCell p u) base v es := Own4.set_low h hp u
theorem OwnO.below {w w' : World} {base : Nat} {v : Value} {es : List (Int × ByteArray × ByteArray × Int)} (h : OwnO w base v es) (hb : Below w.heap.size w w') : OwnO w' base v es := Own4.below h hb (Nat.le_refl _)
end Go.Proofs.YtpccongphchagaaGreatDoor
namespace Go.Proofs.YtpccongphchagaaGreatDoor
open Go.RowKit
/-- A byte that a good name may hold. -/
def okB (x : UInt8) : Bool := decide (33 ≤ x.toNat ∧ x.toNat ≤ 126)
/-- A good name. -/
def okName (s : ByteArray) : Bool := decide (1 ≤ s.size ∧ s.size ≤ 80 ∧ ∀ i, i < s.size → okB (s.get! i) = true)
theorem okName_no {s : ByteArray} {i : Nat} (h : i < s.size) (hb : okB (s.get! i) = false) : okName s = false := by
  unfold okName
  refine decide_eq_false fun h' => ?_
  rw [h'.2.2 i h] at hb
  simp at hb
theorem get_bang (s : ByteArray) (k : Nat) (h : k < s.size) : s.get! k = s[k]'h := by
  show s.data[k]! = _
  rw [getElem!_pos s.data k h]
  rfl
theorem l1GoodName_any (s : ByteArray) (w : World) (hs : s.size ≤ 9223372036854775807) :
    Calls Tryz.prog 48 #[.string s] w fun e w' => e = .returned (.bool (okName s)) ∧ w' = w := by
  by_cases h1 : s.size < 1
  · have hf : okName s = false := decide_eq_false fun h => by omega
    rw [hf]
    go_enter Tryz.func48, Tryz.ntmps48
    go_wp2
    go_ret
    exact ⟨rfl, rfl⟩
  by_cases h2 : 80 < s.size
  · have hf : okName s = false := decide_eq_false fun h => by omega
    rw [hf]
    go_enter Tryz.func48, Tryz.ntmps48
    go_wp2
    go_ret
    exact ⟨rfl, rfl⟩
  go_enter Tryz.func48, Tryz.ntmps48
  go_wp2
  go_loop [3] (fun i => ∃ k : Nat, k ≤ s.size ∧ i = .int .i64 k ∧ ∀ i, i < k → okB (s.get! i) = true) (fun i => s.size - (intOf i).toNat)
  case atStart => exact ⟨0, Nat.zero_le _, rfl, fun i h => by omega⟩
  case round =>
    obtain ⟨k, hk, rfl, hok⟩ := hrel
    have HK := hide hok
    clear hok
    by_cases hlt : k < s.size
    · have HG := hide (get_bang s k hlt)
      by_cases lo : s[k].toNat < 33
      · go_wp2
        go_ret
        exact ⟨ret_bool (okName_no hlt (by rw [HG.out]; exact decide_eq_false fun h => by omega)).symm, rfl⟩
      · by_cases hi : 126 < s[k].toNat
        · go_wp2
          go_ret
          exact ⟨ret_bool (okName_no hlt (by rw [HG.out]; exact decide_eq_false fun h => by omega)).symm, rfl⟩
        · have HB := hide (show okB (s.get! k) = true from by rw [HG.out]; exact decide_eq_true ⟨by omega, by omega⟩)
          go_wp2
          go_round
          case rel => exact ⟨k + 1, by omega, by go_num, fun i h => by
            by_cases e : i = k
            · rw [e]; exact HB.out
            · exact HK.out i (by omega)⟩
          case measure => simp [intOf]; omega
    · have hf : okName s = true := decide_eq_true ⟨by omega, by omega, fun i h => HK.out i (by omega)⟩
      go_wp2
      go_ret
      exact ⟨rfl, rfl⟩
set_option maxRecDepth 20000 in
theorem goodName_any (s : ByteArray) (w : World) (hs : s.size ≤ 9223372036854775807) :
    Calls Tryz.prog 58 #[.string s] w fun e w' => e = .returned (.bool (okName s)) ∧ Below w.heap.size w w' := by
  by_cases h1 : s.size < 1
  · have hf : okName s = false := decide_eq_false fun h => by omega
    rw [hf]
    go_enter Tryz.func58, Tryz.ntmps58
    go_wp2
    go_ret
    exact ⟨rfl, Below.refl _ _⟩
  by_cases h2 : 80 < s.size
  · have hf : okName s = false := decide_eq_false fun h => by omega
    rw [hf]
    go_enter Tryz.func58, Tryz.ntmps58
    go_wp2
    go_ret
    exact ⟨rfl, Below.refl _ _⟩
  have hcv := run_bytes_of_string (P := Tryz.prog) w 9 22 5 s (by kernel_rfl) (by kernel_rfl) (by kernel_rfl)
  generalize hcap : grownCap w s.size 0 5 = cap at hcv
  have hrow : ∀ j (h : j < s.size), (w.drew.alloc (.cells (bytesRow s cap) 5 ((bytesRow s cap).size, (bytesRow s cap).size + 1))).cell? ⟨w.heap.size, j, none⟩ = some (.int .u8 (s[j].toNat : Int)) := fun j h => by
    have e := World.cell?_alloc_mark w.drew (bytesRow s cap) 5 ((bytesRow s cap).size, (bytesRow s cap).size + 1) j
    rw [bytesRow_at s cap j h] at e
    exact e
  have hnx : Below w.heap.size w (w.drew.alloc (.cells (bytesRow s cap) 5 ((bytesRow s cap).size, (bytesRow s cap).size + 1))) := (Below.refl _ _).drew.alloc (Nat.le_refl _) _
  generalize (w.drew.alloc (.cells (bytesRow s cap) 5 ((bytesRow s cap).size, (bytesRow s cap).size + 1))) = w1 at hcv hrow hnx
  have HN := hide hnx
  have HRW := hide hrow
  clear hnx hrow hcap
  go_enter Tryz.func58, Tryz.ntmps58
  go_wp2
  clear hcv
  go_loop [16] (fun i => ∃ k : Nat, k ≤ s.size ∧ i = .int .i64 k ∧ ∀ i, i < k → okB (s.get! i) = true) (fun i => s.size - (intOf i).toNat)
  case atStart => exact ⟨0, Nat.zero_le _, rfl, fun i h => by omega⟩
  case round =>
    obtain ⟨k, hk, rfl, hok⟩ := hrel
    have HK := hide hok
    clear hok
    by_cases hlt : k < s.size
    · have HG := hide (get_bang s k hlt)
      have hc := HRW.out k hlt
      by_cases lo : s[k].toNat < 33
      · go_wp2
        go_ret
        exact ⟨ret_bool (okName_no hlt (by rw [HG.out]; exact decide_eq_false fun h => by omega)).symm, HN.out⟩
      · by_cases hi : 126 < s[k].toNat
        · go_wp2
          go_ret
          exact ⟨ret_bool (okName_no hlt (by rw [HG.out]; exact decide_eq_false fun h => by omega)).symm, HN.out⟩
        · have HB := hide (show okB (s.get! k) = true from by rw [HG.out]; exact decide_eq_true ⟨by omega, by omega⟩)
          go_wp2
          go_round
          case rel => exact ⟨k + 1, by omega, by go_num, fun i h => by
            by_cases e : i = k
            · rw [e]; exact HB.out
            · exact HK.out i (by omega)⟩
          case measure => simp [intOf]; omega
    · have hf : okName s = true := decide_eq_true ⟨by omega, by omega, fun i h => HK.out i (by omega)⟩
      go_wp2
      go_ret
      exact ⟨rfl, HN.out⟩
end Go.Proofs.YtpccongphchagaaGreatDoor
namespace Go.Proofs.YtpccongphchagaaGreatDoor
open Go.RowKit
def okEnt (nodes : Int) (e : ByteArray × Int) : Bool := decide (okName e.1 = true ∧ 0 ≤ e.2 ∧ e.2 < nodes)
def apart (x y : ByteArray × Int) : Bool := decide (Op.bytesLess x.1.toList y.1.toList = true ∧ x.2 ≠ y.2)
def okList (nodes : Int) (es : List (ByteArray × Int)) : Bool := decide (es.length ≤ 300 ∧ ∀ i (h : i < es.length), okEnt nodes es[i] = true ∧ ∀ k (hk : k < i), apart es[k] es[i] = true)
theorem okList_no1 {nodes : Int} {es : List (ByteArray × Int)} {i : Nat} (h : i < es.length) (hb : okEnt nodes es[i] = false) : okList nodes es = false := by
  unfold okList
  refine decide_eq_false fun h' => ?_
  rw [(h'.2 i h).1] at hb
  simp at hb
theorem okList_no2 {nodes : Int} {es : List (ByteArray × Int)} {i k : Nat} (h : i < es.length) (hk : k < i) (hb : apart es[k] es[i] = false) : okList nodes es = false := by
  unfold okList
  refine decide_eq_false fun h' => ?_
  rw [(h'.2 i h).2 k hk] at hb
  simp at hb
set_option maxRecDepth 20000 in
theorem l1InOrder_any (a : Option Addr) (cap : Nat) (es : List (ByteArray × Int)) (nodes : Int) (w : World) (hn : es.length ≤ 9223372036854775807) (hes : ∀ e ∈ es, e.1.size ≤ 9223372036854775807) (hr : EntAt w a es) :
    Calls Tryz.prog 43 #[.slice a es.length cap, .int .i64 nodes] w fun e w' => e = .returned (.bool (okList nodes es)) ∧ Below w.heap.size w w' := by
  by_cases h6 : 300 < es.length
  · have hf : okList nodes es = false := decide_eq_false fun h => by omega
    rw [hf]
    go_enter Tryz.func43, Tryz.ntmps43
    go_wp2
    go_ret
    exact ⟨rfl, Below.refl _ _⟩
  go_enter Tryz.func43, Tryz.ntmps43
  go_wp2
  go_loopw [13] (fun i wr => ∃ k : Nat, k ≤ es.length ∧ i = .int .i64 k ∧ (∀ i (h : i < es.length), i < k → okEnt nodes es[i] = true ∧ ∀ k (hk : k < i), apart es[k] es[i] = true) ∧ Below w.heap.size w wr) (fun i _ => es.length - (intOf i).toNat)
  case atStart => exact ⟨0, Nat.zero_le _, rfl, fun i _ h => by omega, Below.refl _ _⟩
  case round =>
    obtain ⟨k, hk, rfl, hok, hnx⟩ := hrel
    have HK := hide hok
    have HR := hide hr
    have HNX := hide hnx
    clear hok
    by_cases hlt : k < es.length
    · obtain ⟨b, off, ha, hc⟩ := (hr.below hnx) (by omega)
      have HA := hide ha
      subst ha
      obtain ⟨hc0, hc1⟩ := hc k hlt
      have hkl := hes _ (List.getElem_mem hlt)
      have HN := hide (hnx.alloc hnx.size (.cells #[.string es[k].1, .int .i64 es[k].2] 37))
      have HL := hide (Laid.new wr #[.string es[k].1, .int .i64 es[k].2] 37)
      have HNO := hide (okList_no1 (nodes := nodes) hlt)
      have HOK := hide (show okEnt nodes es[k] = decide (okName es[k].1 = true ∧ 0 ≤ es[k].2 ∧ es[k].2 < nodes) from rfl)
      clear hc hr hnx hes
      generalize hnm : es[k].1 = nm at hc0 HN HL HOK hkl
      generalize hnd : es[k].2 = nd at hc1 HN HL HOK
      have HNM := hide hnm
      have HND := hide hnd
      clear hnm hnd
      by_cases g1 : okName nm = true
      · go_wp2_with fail
        refine (l1GoodName_any nm _ hkl).mono ?_
        rintro e w2 ⟨rfl, rfl⟩
        rw [g1]
        have HG1 := hide g1
        clear g1 hc0 hc1
        by_cases g2 : nd < 0
        · go_wp2
          go_ret
          exact ⟨ret_bool (HNO.out (by rw [HOK.out]; exact decide_eq_false fun h => by omega)).symm, HN.out⟩
        by_cases g3 : nodes ≤ nd
        · go_wp2
          go_ret
          exact ⟨ret_bool (HNO.out (by rw [HOK.out]; exact decide_eq_false fun h => by omega)).symm, HN.out⟩
        go_wp2
        have HE := hide (show okEnt nodes es[k] = true from by rw [HOK.out]; exact decide_eq_true ⟨HG1.out, by omega, by omega⟩)
        generalize wr.alloc (.cells #[.string nm, .int .i64 nd] 37) = w3 at HN HL ⊢
        generalize wr.heap.size = B at HL ⊢
        clear HNX HNO HOK g2 g3 hkl
        go_loopw [7] (fun j wx => ∃ m : Nat, m ≤ k ∧ j = .int .i64 m ∧ (∀ i (h : i < es.length), i < m → apart es[i] es[k] = true) ∧ Below w.heap.size w wx ∧ Laid wx B #[.string nm, .int .i64 nd] 37) (fun j _ => k - (intOf j).toNat)
        case atStart => exact ⟨0, Nat.zero_le _, rfl, fun i _ h => by omega, HN.out, HL.out⟩
        case round =>
          obtain ⟨m, hm, rfl, hap, hnx, hl⟩ := hrel
          have HAP := hide hap
          have HN2 := hide hnx
          have HL2 := hide hl
          by_cases hmk : m < k
          · obtain ⟨b', off', hb', hcm⟩ := (HR.out.below hnx) (by omega)
            simp only [Option.some.injEq, Addr.mk.injEq, and_true] at hb'
            obtain ⟨rfl, rfl⟩ := hb'
            obtain ⟨hx0, hx1⟩ := hcm m (by omega)
            have q0 : wr.cell? ⟨B, 0, none⟩ = some (.string nm) := by rw [hl.cell]; rfl
            have q1 : wr.cell? ⟨B, 1, none⟩ = some (.int .i64 nd) := by rw [hl.cell]; rfl
            have HNO := hide (okList_no2 (nodes := nodes) hlt hmk)
            have HAD := hide (show apart es[m] es[k] = decide (Op.bytesLess es[m].1.toList nm.toList = true ∧ es[m].2 ≠ nd) from by unfold apart; rw [HNM.out, HND.out])
            clear hcm hnx hl hap
            generalize es[m].1 = xm at hx0 HAD
            generalize es[m].2 = xd at hx1 HAD
            by_cases hb1 : Op.bytesLess xm.toList nm.toList = true
            · by_cases hd1 : xd = nd
              · have hd2 : (xd == nd) = true := by simp [hd1]
                have HBAD := hide (HNO.out (by rw [HAD.out]; exact decide_eq_false fun h => h.2 hd1))
                clear hd1 HAD HNO
                go_wp2
                go_quiet (fail)
                go_wp2
                go_ret
                exact ⟨ret_bool HBAD.out.symm, below_drewN HN2.out _⟩
              · have hd2 : (xd == nd) = false := by simp [hd1]
                have HGOOD := hide (show apart es[m] es[k] = true from by rw [HAD.out]; exact decide_eq_true ⟨hb1, hd1⟩)
                clear hd1 HAD HNO
                go_wp2
                go_quiet (fail)
                go_wp2
                go_roundw
                case rel => exact ⟨m + 1, by omega, by go_num, fun i h h' => by
                  by_cases e : i = m
                  · subst e; exact HGOOD.out
                  · exact HAP.out i h (by omega), below_drewN HN2.out _, HL2.out⟩
                case measure => simp [intOf]; omega
            · have hb2 : Op.bytesLess xm.toList nm.toList = false := by simpa using hb1
              have HBAD := hide (HNO.out (by rw [HAD.out]; exact decide_eq_false fun h => hb1 h.1))
              clear hb1 HAD HNO
              go_wp2
              go_quiet (fail)
              go_wp2
              go_ret
              exact ⟨ret_bool HBAD.out.symm, below_drewN HN2.out _⟩
          · go_wp2
            refine ⟨⟨k + 1, by omega, by go_num, fun i h h' => ?_, HN2.out⟩, by simp [intOf]; omega⟩
            by_cases e : i = k
            · subst e; exact ⟨HE.out, fun j hj => HAP.out j (by omega) (by omega)⟩
            · exact HK.out i h (by omega)
      · have g1' : okName nm = false := by simpa using g1
        go_wp2_with fail
        refine (l1GoodName_any nm _ hkl).mono ?_
        rintro e w2 ⟨rfl, rfl⟩
        rw [g1']
        clear hc0 hc1
        go_wp2
        go_ret
        exact ⟨ret_bool (HNO.out (by rw [HOK.out]; exact decide_eq_false fun h => g1 h.1)).symm, HN.out⟩
    · have hf : okList nodes es = true := decide_eq_true ⟨by omega, fun i h => HK.out i h (by omega)⟩
      have HF := hide hf
      clear hf
      go_wp2
      go_ret
      exact ⟨ret_bool HF.out.symm, HNX.out⟩
end Go.Proofs.YtpccongphchagaaGreatDoor
namespace Go.Proofs.YtpccongphchagaaGreatDoor
open Go.RowKit Go.Maps
theorem less_trans : ∀ x y z : List UInt8, Op.bytesLess x y = true → Op.bytesLess y z = true → Op.bytesLess x z = true
  | _, _, [], _, h => by simp [Op.bytesLess] at h
  | [], _, _ :: _, _, _ => by simp [Op.bytesLess]
  | _ :: _, [], _ :: _, h, _ => by simp [Op.bytesLess] at h
  | a :: x, b :: y, c :: z, h1, h2 => by
    simp only [Op.bytesLess, Bool.or_eq_true, decide_eq_true_eq, Bool.and_eq_true, beq_iff_eq] at h1 h2 ⊢
    rcases h1 with h1 | ⟨rfl, h1⟩
    · rcases h2 with h2 | ⟨rfl, h2⟩
      · exact .inl (UInt8.lt_trans h1 h2)
      · exact .inl h1
    · rcases h2 with h2 | ⟨rfl, h2⟩
      · exact .inl h2
      · exact .inr ⟨rfl, less_trans x y z h1 h2⟩
/-- The nodes of the first k entries, as a set. -/
def nodesSet (es : List (ByteArray × Int)) (k : Nat) : DataW Unit := setOf (.agg []) ((es.take k).map fun e => Lit.int .i64 e.2)
theorem nodesSet_zero (es : List (ByteArray × Int)) : nodesSet es 0 = .map [] := rfl
theorem nodesSet_succ (es : List (ByteArray × Int)) (k : Nat) (h : k < es.length) : nodesSet es (k + 1) = (nodesSet es k).put (.int .i64 es[k].2) (.agg []) := by
  unfold nodesSet
  rw [List.take_succ_eq_append_getElem h, List.map_append]
  exact setOf_snoc _ _ _
theorem has_nodes (es : List (ByteArray × Int)) (k : Nat) (x : Int) : Maps.has (nodesSet es k) (.int .i64 x) = (es.take k).any (fun e => decide (e.2 = x)) := by
  unfold nodesSet
  rw [has_setOf _ _ _ (fun y hy => by obtain ⟨_, _, rfl⟩ := List.mem_map.1 hy; trivial), List.any_map]
  congr 1
  funext e
  simp [Lit.sameKey]
theorem has_nodes_true {es : List (ByteArray × Int)} {k : Nat} {x : Int} (h : Maps.has (nodesSet es k) (.int .i64 x) = true) : ∃ i, ∃ h : i < es.length, i < k ∧ es[i].2 = x := by
  rw [has_nodes, List.any_eq_true] at h
  obtain ⟨e, he, hx⟩ := h
  obtain ⟨i, hi, rfl⟩ := List.getElem_of_mem he
  simp at hi
  refine ⟨i, by omega, by omega, ?_⟩
  simpa using hx
theorem has_nodes_false {es : List (ByteArray × Int)} {k : Nat} {x : Int} (h : Maps.has (nodesSet es k) (.int .i64 x) = false) (i : Nat) (hi : i < es.length) (hk : i < k) : es[i].2 ≠ x := by
  intro e
  have : Maps.has (nodesSet es k) (.int .i64 x) = true := by
    rw [has_nodes, List.any_eq_true]
    exact ⟨es[i], List.mem_take_iff_getElem.2 ⟨i, by omega, rfl⟩, by simp [e]⟩
  rw [this] at h
  simp at h
theorem ownsMap_below {H : Type} {w w' : World} {P : Program} {k : TypeId} {R : Value → Option (DataW H × List MemPlace)} {b n B : Nat} {D : DataW H} (h : w.ownsMap P k R b n D) (hb : Below B w w') (hB : b < B) : w'.ownsMap P k R b n D := by
  obtain ⟨es, c, h1, rest⟩ := h
  exact ⟨es, c, (hb.block b hB).trans h1, rest⟩
end Go.Proofs.YtpccongphchagaaGreatDoor
