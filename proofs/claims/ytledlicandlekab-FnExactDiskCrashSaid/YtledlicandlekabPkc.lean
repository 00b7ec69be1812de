import Derived.Test.YtledlicandlekabPka
import Derived.Test.YtledlicandlekabPkb
import Derived.Laws.IdiomStrings
namespace Go.Proofs.Ytledlicandlekab
open Go.RowKit
theorem Try.infoDirOp : (Try.prog.info? 74).map (fun i => (i.zero, i.size, i.bytes)) = some (some (.agg #[.int .i64 0, .string ByteArray.empty, .string ByteArray.empty, .int .i64 0]), 4, 48) := by kernel_rfl
def opP (e : Int × ByteArray × ByteArray × Int) : V4 := (.int .i64 e.1, .string e.2.1, .string e.2.2.1, .int .i64 e.2.2.2)
/-- The steps of a call's own. -/
def OwnO (w : World) (base : Nat) (v : Value) (es : List (Int × ByteArray × ByteArray × Int)) : Prop := Own4 w base 74 v (es.map opP)
theorem OwnO.at {w : World} {base : Nat} {a : Option Addr} {n cap : Nat} {es : List (Int × ByteArray × ByteArray × Int)} (h : OwnO w base (.slice a n cap) es) : OpAt w a es := fun hp => by
  rcases h.2 with ⟨_, hn⟩ | ⟨g, cap', cur, h', _⟩
  · simp at hn; simp [hn] at hp
  · simp only [Value.slice.injEq] at h'
    obtain ⟨rfl, rfl, rfl⟩ := h'
    refine ⟨g, 0, rfl, fun i hi => ?_⟩
    obtain ⟨h0, h1, h2, h3⟩ := Own4.cells h i (by simpa using hi)
    rw [Nat.zero_add]
    simp [opP] at h0 h1 h2 h3
    exact ⟨h0, h1, h2, h3⟩
theorem wpList_make_steps {ops : Array Oper} {rest : List Oper} {o : Oper} {act : Act} {Q : Exit → Act → World → Prop} (w : World) (hgd : o.guard = none) (s x : Operand)
    (ho : o.op = Op.makeSlice 34 s x) (n : Nat) (hs : act.eval s = .int .i64 (n : Int)) (hx : act.eval x = .int .i64 (n : Int)) (hlen : n ≤ 1048576)
    (h : ∀ w', OwnO w' w.heap.size (.slice (some ⟨w.heap.size, 0, none⟩) n n) (List.replicate n (0, ByteArray.empty, ByteArray.empty, 0)) → Below w.heap.size w w' → wpList Try.prog ops Q rest (act.put o.dst (.slice (some ⟨w.heap.size, 0, none⟩) n n)) w') : wpList Try.prog ops Q (o :: rest) act w := by
  obtain ⟨i0, hi, hz0, hz1, hz2⟩ := info_parts Try.infoDirOp
  refine wpList_make_full w hgd s x 34 ho w.heap.size 74 i0 (.agg #[.int .i64 0, .string ByteArray.empty, .string ByteArray.empty, .int .i64 0]) 4 Try.underlying34 hi hz0 hz1 .i64 .i64 _ _ n hs hx rfl rfl (by rw [hz2]; omega) (by unfold maxLen; omega) (Nat.le_refl _) ?_
  intro w1 hown hgrow
  refine h w1 ?_ ((Below.refl _ _).grown hgrow (Nat.le_refl _) (fun k h => by cases h))
  unfold OwnO Own4
  rw [List.length_map, List.length_replicate, List.map_replicate]
  have e : (madeCells (Value.agg #[.int .i64 0, .string ByteArray.empty, .string ByteArray.empty, .int .i64 0]).cells (n * 4)).toList = four (List.replicate n (opP (0, ByteArray.empty, ByteArray.empty, 0))) := four_made _ _ _ _ _
  rw [e] at hown; exact hown
theorem toDirOpS_any (a : Option Addr) (cap : Nat) (l : List (Int × ByteArray × ByteArray × Int)) (w : World) (hl : l.length ≤ 1048576) (hr : OpAt w a l) :
    Calls Try.prog 28 #[.slice a l.length cap] w fun e w' => e = .returned (.slice (some ⟨w.heap.size, 0, none⟩) l.length l.length) ∧ OwnO w' w.heap.size (.slice (some ⟨w.heap.size, 0, none⟩) l.length l.length) l ∧ Below w.heap.size w w' := by
  go_enter Try.func28, Try.ntmps28
  go_wp2_with (at_make; refine wpList_make_steps _ rfl _ _ rfl l.length rfl rfl (by omega) ?_; intro w1 hown hbel)
  have hown' : OwnO w1 w.heap.size (.slice (some ⟨w.heap.size, 0, none⟩) l.length l.length) (halfA (0, ByteArray.empty, ByteArray.empty, 0) l 0) := by rw [halfA_zero]; exact hown
  clear hown
  go_loopw [4] (fun i wr => ∃ k : Nat, k ≤ l.length ∧ i = .int .i64 k ∧ OwnO wr w.heap.size (.slice (some ⟨w.heap.size, 0, none⟩) l.length l.length) (halfA (0, ByteArray.empty, ByteArray.empty, 0) l k) ∧ Below w.heap.size w wr) (fun i _ => l.length - (intOf i).toNat)
  case atStart => exact ⟨0, Nat.zero_le _, rfl, hown', hbel⟩
  case round =>
    obtain ⟨k, hk, rfl, hown, hnx⟩ := hrel
    clear hown' hbel
    by_cases hlt : k < l.length
    · obtain ⟨b, off, rfl, hc⟩ := (hr.below hnx) (by omega)
      obtain ⟨hc0, hc1, hc2, hc3⟩ := hc k hlt
      have HO := hide hown
      have HR := hide hr
      clear hc hr hown
      go_wp2_with fail
      refine (toDirOp_any _ _ _ _ wr).mono ?_
      rintro e w2 ⟨rfl, hb⟩
      have hown2 : OwnO w2 _ _ _ := HO.out.below hb (Nat.le_refl _)
      obtain ⟨hd0, hd1, hd2, hd3⟩ := Own4.cells hown2 k (by rw [List.length_map, halfA_length _ l k hk]; exact hlt)
      have hf0 := Own4.frozen hown2 (k * 4)
      have hf1 := Own4.frozen hown2 (k * 4 + 1)
      have hf2 := Own4.frozen hown2 (k * 4 + 2)
      have hf3 := Own4.frozen hown2 (k * 4 + 3)
      have hst := Own4.store hown2 k (.int .i64 l[k].1) (.string l[k].2.1) (.string l[k].2.2.1) (.int .i64 l[k].2.2.2)
      have hset : ((halfA (0, ByteArray.empty, ByteArray.empty, 0) l k).map opP).set k (.int .i64 l[k].1, .string l[k].2.1, .string l[k].2.2.1, .int .i64 l[k].2.2.2) = (halfA (0, ByteArray.empty, ByteArray.empty, 0) l (k + 1)).map opP := by
        rw [← halfA_set _ l k hlt, List.map_set]; rfl
      rw [hset] at hst
      have HX : Hid (OwnO ((((w2.setCell ⟨w.heap.size, k * 4, none⟩ (.int .i64 l[k].1)).setCell ⟨w.heap.size, k * 4 + 1, none⟩ (.string l[k].2.1)).setCell ⟨w.heap.size, k * 4 + 2, none⟩ (.string l[k].2.2.1)).setCell ⟨w.heap.size, k * 4 + 3, none⟩ (.int .i64 l[k].2.2.2)) w.heap.size (.slice (some ⟨w.heap.size, 0, none⟩) l.length l.length) (halfA (0, ByteArray.empty, ByteArray.empty, 0) l (k + 1)) ∧ Below w.heap.size w ((((w2.setCell ⟨w.heap.size, k * 4, none⟩ (.int .i64 l[k].1)).setCell ⟨w.heap.size, k * 4 + 1, none⟩ (.string l[k].2.1)).setCell ⟨w.heap.size, k * 4 + 2, none⟩ (.string l[k].2.2.1)).setCell ⟨w.heap.size, k * 4 + 3, none⟩ (.int .i64 l[k].2.2.2))) :=
        ⟨hst, ((((hnx.trans (hb.mono hnx.size)).setCell (Nat.le_refl _) _).setCell (Nat.le_refl _) _).setCell (Nat.le_refl _) _).setCell (Nat.le_refl _) _⟩
      generalize (((halfA (0, ByteArray.empty, ByteArray.empty, 0) l k).map opP)[k]'(by rw [List.length_map, halfA_length _ l k hk]; exact hlt)).1 = y0 at hd0
      generalize (((halfA (0, ByteArray.empty, ByteArray.empty, 0) l k).map opP)[k]'(by rw [List.length_map, halfA_length _ l k hk]; exact hlt)).2.1 = y1 at hd1
      generalize (((halfA (0, ByteArray.empty, ByteArray.empty, 0) l k).map opP)[k]'(by rw [List.length_map, halfA_length _ l k hk]; exact hlt)).2.2.1 = y2 at hd2
      generalize (((halfA (0, ByteArray.empty, ByteArray.empty, 0) l k).map opP)[k]'(by rw [List.length_map, halfA_length _ l k hk]; exact hlt)).2.2.2 = y3 at hd3
      clear hst hset hown2 hc0 hc1 hc2 hc3 HO hnx hb
      generalize l[k].1 = s0 at HX ⊢
      generalize l[k].2.1 = s1 at HX ⊢
      generalize l[k].2.2.1 = s2 at HX ⊢
      generalize l[k].2.2.2 = s3 at HX ⊢
      go_wp2
      go_roundw
      case rel => exact ⟨k + 1, by omega, by go_num, HX.out.1, HX.out.2⟩
      case measure => simp [intOf]; omega
    · obtain rfl : k = l.length := by omega
      rw [halfA_len] at hown
      go_wp2
      go_ret
      exact ⟨rfl, hown, hnx⟩
end Go.Proofs.Ytledlicandlekab
namespace Go.Proofs.Ytledlicandlekab
open Go.RowKit
theorem Try.infoEntry : (Try.prog.info? 58).map (fun i => (i.zero, i.size, i.bytes)) = some (some (.agg #[.string ByteArray.empty, .int .i64 0]), 2, 24) := by kernel_rfl
def entP (e : ByteArray × Int) : Value × Value := (.string e.1, .int .i64 e.2)
/-- The entries of a call's own. -/
def OwnE (w : World) (base : Nat) (v : Value) (es : List (ByteArray × Int)) : Prop := Own2 w base 58 v (es.map entP)
theorem OwnE.at {w : World} {base : Nat} {a : Option Addr} {n cap : Nat} {es : List (ByteArray × Int)} (h : OwnE w base (.slice a n cap) es) : EntAt w a es := fun hp => by
  rcases h.2 with ⟨_, hn⟩ | ⟨g, cap', cur, h', _⟩
  · simp at hn; simp [hn] at hp
  · simp only [Value.slice.injEq] at h'
    obtain ⟨rfl, rfl, rfl⟩ := h'
    refine ⟨g, 0, rfl, fun i hi => ?_⟩
    obtain ⟨h0, h1⟩ := Own2.cells h i (by simpa using hi)
    rw [Nat.zero_add]
    simp [entP] at h0 h1
    exact ⟨h0, h1⟩
theorem wpList_make_entries {ops : Array Oper} {rest : List Oper} {o : Oper} {act : Act} {Q : Exit → Act → World → Prop} (w : World) (hgd : o.guard = none) (s x : Operand)
    (ho : o.op = Op.makeSlice 33 s x) (n : Nat) (hs : act.eval s = .int .i64 (n : Int)) (hx : act.eval x = .int .i64 (n : Int)) (hlen : n ≤ 1048576)
    (h : ∀ w', OwnE w' w.heap.size (.slice (some ⟨w.heap.size, 0, none⟩) n n) (List.replicate n (ByteArray.empty, 0)) → Below w.heap.size w w' → wpList Try.prog ops Q rest (act.put o.dst (.slice (some ⟨w.heap.size, 0, none⟩) n n)) w') : wpList Try.prog ops Q (o :: rest) act w := by
  obtain ⟨i0, hi, hz0, hz1, hz2⟩ := info_parts Try.infoEntry
  refine wpList_make_full w hgd s x 33 ho w.heap.size 58 i0 (.agg #[.string ByteArray.empty, .int .i64 0]) 2 Try.underlying33 hi hz0 hz1 .i64 .i64 _ _ n hs hx rfl rfl (by rw [hz2]; omega) (by unfold maxLen; omega) (Nat.le_refl _) ?_
  intro w1 hown hgrow
  refine h w1 ?_ ((Below.refl _ _).grown hgrow (Nat.le_refl _) (fun k h => by cases h))
  unfold OwnE Own2
  rw [List.length_map, List.length_replicate, List.map_replicate]
  have e : (madeCells (Value.agg #[.string ByteArray.empty, .int .i64 0]).cells (n * 2)).toList = two (List.replicate n (entP (ByteArray.empty, 0))) := two_made _ _ _
  rw [e] at hown; exact hown
theorem toEntryS_any (a : Option Addr) (cap : Nat) (l : List (ByteArray × Int)) (w : World) (hl : l.length ≤ 1048576) (hr : EntAt w a l) :
    Calls Try.prog 27 #[.slice a l.length cap] w fun e w' => e = .returned (.slice (some ⟨w.heap.size, 0, none⟩) l.length l.length) ∧ OwnE w' w.heap.size (.slice (some ⟨w.heap.size, 0, none⟩) l.length l.length) l ∧ Below w.heap.size w w' := by
  go_enter Try.func27, Try.ntmps27
  go_wp2_with (at_make; refine wpList_make_entries _ rfl _ _ rfl l.length rfl rfl (by omega) ?_; intro w1 hown hbel)
  have hown' : OwnE w1 w.heap.size (.slice (some ⟨w.heap.size, 0, none⟩) l.length l.length) (halfA (ByteArray.empty, 0) l 0) := by rw [halfA_zero]; exact hown
  clear hown
  go_loopw [4] (fun i wr => ∃ k : Nat, k ≤ l.length ∧ i = .int .i64 k ∧ OwnE wr w.heap.size (.slice (some ⟨w.heap.size, 0, none⟩) l.length l.length) (halfA (ByteArray.empty, 0) l k) ∧ Below w.heap.size w wr) (fun i _ => l.length - (intOf i).toNat)
  case atStart => exact ⟨0, Nat.zero_le _, rfl, hown', hbel⟩
  case round =>
    obtain ⟨k, hk, rfl, hown, hnx⟩ := hrel
    clear hown' hbel
    by_cases hlt : k < l.length
    · obtain ⟨b, off, rfl, hc⟩ := (hr.below hnx) (by omega)
      obtain ⟨hc0, hc1⟩ := hc k hlt
      have HO := hide hown
      have HR := hide hr
      clear hc hr hown
      go_wp2_with fail
      refine (toEntry_any _ _ wr).mono ?_
      rintro e w2 ⟨rfl, hb⟩
      have hown2 : OwnE w2 _ _ _ := HO.out.below hb (Nat.le_refl _)
      obtain ⟨hd0, hd1⟩ := Own2.cells hown2 k (by rw [List.length_map, halfA_length _ l k hk]; exact hlt)
      have hf0 := Own2.frozen hown2 (k * 2)
      have hf1 := Own2.frozen hown2 (k * 2 + 1)
      have hst := Own2.store hown2 k (.string l[k].1) (.int .i64 l[k].2)
      have hset : ((halfA (ByteArray.empty, 0) l k).map entP).set k (.string l[k].1, .int .i64 l[k].2) = (halfA (ByteArray.empty, 0) l (k + 1)).map entP := by
        rw [← halfA_set _ l k hlt, List.map_set]; rfl
      rw [hset] at hst
      have HX : Hid (OwnE ((w2.setCell ⟨w.heap.size, k * 2, none⟩ (.string l[k].1)).setCell ⟨w.heap.size, k * 2 + 1, none⟩ (.int .i64 l[k].2)) w.heap.size (.slice (some ⟨w.heap.size, 0, none⟩) l.length l.length) (halfA (ByteArray.empty, 0) l (k + 1)) ∧ Below w.heap.size w ((w2.setCell ⟨w.heap.size, k * 2, none⟩ (.string l[k].1)).setCell ⟨w.heap.size, k * 2 + 1, none⟩ (.int .i64 l[k].2))) :=
        ⟨hst, ((hnx.trans (hb.mono hnx.size)).setCell (Nat.le_refl _) _).setCell (Nat.le_refl _) _⟩
      generalize (((halfA (ByteArray.empty, 0) l k).map entP)[k]'(by rw [List.length_map, halfA_length _ l k hk]; exact hlt)).1 = y0 at hd0
      generalize (((halfA (ByteArray.empty, 0) l k).map entP)[k]'(by rw [List.length_map, halfA_length _ l k hk]; exact hlt)).2 = y1 at hd1
      clear hst hset hown2 hc0 hc1 HO hnx hb
      generalize l[k].1 = s0 at HX ⊢
      generalize l[k].2 = n0 at HX ⊢
      go_wp2
      go_roundw
      case rel => exact ⟨k + 1, by omega, by go_num, HX.out.1, HX.out.2⟩
      case measure => simp [intOf]; omega
    · obtain rfl : k = l.length := by omega
      rw [halfA_len] at hown
      go_wp2
      go_ret
      exact ⟨rfl, hown, hnx⟩
end Go.Proofs.Ytledlicandlekab
namespace Go.Proofs.Ytledlicandlekab
open Go.RowKit
theorem OwnB.set_low {w : World} {base : Nat} {v : Value} {l : List Nat} (h : OwnB w base v l) {p : Addr} (hp : p.block < base) (u : Value) : OwnB (w.setCell p u) base v l := by
  refine ⟨h.1, ?_⟩
  rcases h.2 with hn | ⟨g, cap, cur, hv, hbase, hg, rest⟩
  · exact .inl hn
  · exact .inr ⟨g, cap, cur, hv, hbase, (heap_setCell_other w p g u (by omega)).trans hg, rest⟩
theorem Laid.set {w : World} {g : Nat} {cs : Array Value} {t : TypeId} (h : Laid w g cs t) (j : Nat) (u : Value) : Laid (w.setCell ⟨g, j, none⟩ u) g (cs.setIfInBounds j u) t := heap_setCell_same w g j _ _ u h
theorem Laid.other {w : World} {g : Nat} {cs : Array Value} {t : TypeId} (h : Laid w g cs t) {p : Addr} (hp : g ≠ p.block) (u : Value) : Laid (w.setCell p u) g cs t := (heap_setCell_other w p g u hp).trans h
theorem toNode_any (a : Option Addr) (cap : Nat) (l : List Nat) (sf : Int) (w : World) (hl : l.length ≤ 1048576) (hr : RowAt w a l) :
    Calls Try.prog 57 #[.agg #[.slice a l.length cap, .int .i64 sf]] w fun e w' => ∃ x, e = .returned (.agg #[x, .int .i64 sf]) ∧ OwnB w' w.heap.size x l ∧ Below w.heap.size w w' := by
  go_enter Try.func57, Try.ntmps57
  go_wp2_with fail
  refine (toByteS_any a cap l _ hl (hr.below (((((Below.refl _ _).alloc (Nat.le_refl _) _).alloc (by simp) _).alloc (by simp; omega) _)))).mono ?_
  rintro e w2 ⟨rfl, ho, hb⟩
  have l0 : Laid w2 w.heap.size #[.slice a l.length cap, .int .i64 sf] 87 := Laid.below (by
    refine Laid.below (B := w.heap.size + 2) (Laid.below (B := w.heap.size + 1) (Laid.new w _ _) ((Below.refl _ _).alloc (by simp) _) (by omega)) ((Below.refl _ _).alloc (by simp) _) (by omega)) hb (by simp; omega)
  have l1 : Laid w2 (w.heap.size + 1) #[.slice none 0 0, .int .i64 0] 56 := Laid.below (by
    have h := Laid.new (w.alloc (.cells #[.slice a l.length cap, .int .i64 sf] 87)) #[.slice none 0 0, .int .i64 0] 56
    rw [show (w.alloc (.cells #[.slice a l.length cap, .int .i64 sf] 87)).heap.size = w.heap.size + 1 from by simp] at h
    exact Laid.below (B := w.heap.size + 2) h ((Below.refl _ _).alloc (by simp) _) (by omega)) hb (by simp)
  have l2 : Laid w2 (w.heap.size + 1 + 1) #[.slice none 0 0, .int .i64 0] 56 := Laid.below (by
    have h := Laid.new ((w.alloc (.cells #[.slice a l.length cap, .int .i64 sf] 87)).alloc (.cells #[.slice none 0 0, .int .i64 0] 56)) #[.slice none 0 0, .int .i64 0] 56
    rw [show ((w.alloc (.cells #[.slice a l.length cap, .int .i64 sf] 87)).alloc (.cells #[.slice none 0 0, .int .i64 0] 56)).heap.size = w.heap.size + 1 + 1 from by simp] at h
    exact h) hb (by simp)
  have hnx : Below w.heap.size w w2 := ((((Below.refl w.heap.size w).alloc (Nat.le_refl _) _).alloc (by simp) _).alloc (by simp; omega) _).trans (hb.mono (by simp; omega))
  have hG : w.heap.size + 3 = (((w.alloc (.cells #[.slice a l.length cap, .int .i64 sf] 87)).alloc (.cells #[.slice none 0 0, .int .i64 0] 56)).alloc (.cells #[.slice none 0 0, .int .i64 0] 56)).heap.size := by simp
  generalize (((w.alloc (.cells #[.slice a l.length cap, .int .i64 sf] 87)).alloc (.cells #[.slice none 0 0, .int .i64 0] 56)).alloc (.cells #[.slice none 0 0, .int .i64 0] 56)).heap.size = G at hG ho ⊢
  have c0 : w2.cell? ⟨w.heap.size, 1, none⟩ = some (.int .i64 sf) := by rw [l0.cell]; rfl
  have c10 : w2.cell? ⟨w.heap.size + 1, 0, none⟩ = some (.slice none 0 0) := by rw [l1.cell]; rfl
  have c11 : w2.cell? ⟨w.heap.size + 1, 1, none⟩ = some (.int .i64 0) := by rw [l1.cell]; rfl
  have c20 : w2.cell? ⟨w.heap.size + 1 + 1, 0, none⟩ = some (.slice none 0 0) := by rw [l2.cell]; rfl
  have c21 : w2.cell? ⟨w.heap.size + 1 + 1, 1, none⟩ = some (.int .i64 0) := by rw [l2.cell]; rfl
  have f10 := frozen_of_row w2 (w.heap.size + 1) 0 _ _ l1
  have f11 := frozen_of_row w2 (w.heap.size + 1) 1 _ _ l1
  have f20 := frozen_of_row w2 (w.heap.size + 1 + 1) 0 _ _ l2
  have f21 := frozen_of_row w2 (w.heap.size + 1 + 1) 1 _ _ l2
  have HO := hide ho
  have HN := hide hnx
  have HL1 := hide l1
  have HL2 := hide l2
  clear ho hnx hb l0 l1 l2 hr
  go_wp2
  have hl1 := (((HL1.out.other (p := ⟨w.heap.size + 1 + 1, 0, none⟩) (by simp) (.slice (some ⟨G, 0, none⟩) l.length l.length)).other (p := ⟨w.heap.size + 1 + 1, 1, none⟩) (by simp) (.int .i64 sf)).set 0 (.slice (some ⟨G, 0, none⟩) l.length l.length)).set 1 (.int .i64 sf)
  have r0 := hl1.cell 0
  have r1 := hl1.cell 1
  simp at r0 r1
  refine bodyPost_ret (v := .agg #[.slice (some ⟨G, 0, none⟩) l.length l.length, .int .i64 sf]) (by simp [results, Try.results57, go_sem, r0, r1]) rfl ⟨_, rfl, ?_, (((HN.out.setCell (by simp; omega) _).setCell (by simp; omega) _).setCell (by simp) _).setCell (by simp) _⟩
  exact ((((HO.out.set_low (by simp; omega) _).set_low (by simp; omega) _).set_low (by simp; omega) _).set_low (by simp; omega) _).mono (by omega)
end Go.Proofs.Ytledlicandlekab
namespace Go.Proofs.Ytledlicandlekab
open Go.RowKit
theorem Try.infoNode : (Try.prog.info? 56).map (fun i => (i.zero, i.size, i.bytes)) = some (some (.agg #[.slice none 0 0, .int .i64 0]), 2, 32) := by kernel_rfl
/-- The nodes of a call's own. -/
def OwnN (w : World) (base : Nat) (v : Value) (ns : List (List Nat × Int)) : Prop := ∃ vs : List (Value × Value), vs.length = ns.length ∧ Own2 w base 56 v vs ∧ ∀ i (h : i < ns.length), ∃ x, vs[i]? = some (x, .int .i64 ns[i].2) ∧ OwnB w base x ns[i].1
theorem OwnN.at {w : World} {base : Nat} {a : Option Addr} {n cap : Nat} {ns : List (List Nat × Int)} (h : OwnN w base (.slice a n cap) ns) : NodeAt w a ns := fun hp => by
  obtain ⟨vs, hlen, h2, hi⟩ := h
  rcases h2.2 with ⟨_, hn⟩ | ⟨g, cap', cur, h', _⟩
  · omega
  · simp only [Value.slice.injEq] at h'
    obtain ⟨rfl, rfl, rfl⟩ := h'
    refine ⟨g, 0, rfl, fun i hlt => ?_⟩
    obtain ⟨c0, c1⟩ := Own2.cells h2 i (by omega)
    obtain ⟨x, hx, ho⟩ := hi i hlt
    rw [List.getElem?_eq_getElem (by omega)] at hx
    simp only [Option.some.injEq] at hx
    rw [hx] at c0 c1
    obtain ⟨ai, ci, rfl⟩ := ho.slice
    rw [Nat.zero_add]
    exact ⟨ai, ci, c0, c1, ho.row⟩
def z2 : Value × Value := (.slice none 0 0, .int .i64 0)
/-- k of the nodes are written. -/
def NFill (w : World) (g k : Nat) (ns : List (List Nat × Int)) : Prop := g + 1 ≤ w.heap.size ∧ ∃ vs : List (Value × Value), vs.length = k ∧ Own2 w g 56 (.slice (some ⟨g, 0, none⟩) ns.length ns.length) (vs ++ List.replicate (ns.length - k) z2) ∧ ∀ i (h : i < ns.length), i < k → ∃ x, vs[i]? = some (x, .int .i64 ns[i].2) ∧ OwnB w (g + 1) x ns[i].1
theorem NFill.done {w : World} {g : Nat} {ns : List (List Nat × Int)} (h : NFill w g ns.length ns) : OwnN w g (.slice (some ⟨g, 0, none⟩) ns.length ns.length) ns := by
  obtain ⟨_, vs, hl, h2, hi⟩ := h
  rw [Nat.sub_self, List.replicate_zero, List.append_nil] at h2
  refine ⟨vs, hl, h2, fun i h => ?_⟩
  obtain ⟨x, hx, ho⟩ := hi i h h
  exact ⟨x, hx, ho.mono (by omega)⟩
theorem fill_set {α : Type} (vs : List α) (n k : Nat) (z x : α) (hl : vs.length = k) (hk : k < n) : (vs ++ List.replicate (n - k) z).set k x = (vs ++ [x]) ++ List.replicate (n - (k + 1)) z := by
  rw [List.set_append_right _ _ (by omega), hl, Nat.sub_self, show n - k = (n - (k + 1)) + 1 from by omega, List.replicate_succ, List.set_cons_zero]
  simp
theorem NFill.below {w w2 : World} {g k : Nat} {ns : List (List Nat × Int)} (h : NFill w g k ns) (hb : Below w.heap.size w w2) : NFill w2 g k ns := by
  obtain ⟨hs, vs, hl, h2, hi⟩ := h
  refine ⟨Nat.le_trans hs hb.size, vs, hl, h2.below hb (Nat.le_refl _), fun i h h' => ?_⟩
  obtain ⟨x, hx, ho⟩ := hi i h h'
  exact ⟨x, hx, ho.below hb (Nat.le_refl _)⟩
theorem NFill.next {w : World} {g k : Nat} {ns : List (List Nat × Int)} (h : NFill w g k ns) (hk : k < ns.length) {x : Value} (hx : OwnB w (g + 1) x ns[k].1) :
    NFill ((w.setCell ⟨g, k * 2, none⟩ x).setCell ⟨g, k * 2 + 1, none⟩ (.int .i64 ns[k].2)) g (k + 1) ns := by
  obtain ⟨hs, vs, hl, h2, hi⟩ := h
  refine ⟨by simpa using hs, vs ++ [(x, .int .i64 ns[k].2)], by simp [hl], ?_, fun i h h' => ?_⟩
  · have := Own2.store h2 k x (.int .i64 ns[k].2)
    rw [fill_set vs _ k _ _ hl hk] at this
    exact this
  · by_cases e : i = k
    · subst e
      refine ⟨x, by rw [List.getElem?_append_right (by omega), hl, Nat.sub_self]; rfl, ?_⟩
      exact (hx.set_low (by simp) _).set_low (by simp) _
    · obtain ⟨y, hy, ho⟩ := hi i h (by omega)
      exact ⟨y, by rw [List.getElem?_append_left (by omega)]; exact hy, (ho.set_low (by simp) _).set_low (by simp) _⟩
theorem NFill.cells {w : World} {g k : Nat} {ns : List (List Nat × Int)} (h : NFill w g k ns) (hk : k < ns.length) : w.cell? ⟨g, k * 2, none⟩ = some (.slice none 0 0) ∧ w.cell? ⟨g, k * 2 + 1, none⟩ = some (.int .i64 0) ∧ w.frozen? ⟨g, k * 2, none⟩ = false ∧ w.frozen? ⟨g, k * 2 + 1, none⟩ = false := by
  obtain ⟨hs, vs, hl, h2, hi⟩ := h
  have hlt : k < (vs ++ List.replicate (ns.length - k) z2).length := by simp; omega
  obtain ⟨c0, c1⟩ := Own2.cells h2 k hlt
  have e : (vs ++ List.replicate (ns.length - k) z2)[k] = z2 := by
    rw [List.getElem_append_right (by omega)]; simp
  rw [e] at c0 c1
  exact ⟨c0, c1, Own2.frozen h2 _, Own2.frozen h2 _⟩
theorem wpList_make_nodes {ops : Array Oper} {rest : List Oper} {o : Oper} {act : Act} {Q : Exit → Act → World → Prop} (w : World) (hgd : o.guard = none) (s x : Operand)
    (ho : o.op = Op.makeSlice 32 s x) (ns : List (List Nat × Int)) (hs : act.eval s = .int .i64 (ns.length : Int)) (hx : act.eval x = .int .i64 (ns.length : Int)) (hlen : ns.length ≤ 1048576)
    (h : ∀ w', NFill w' w.heap.size 0 ns → Below w.heap.size w w' → wpList Try.prog ops Q rest (act.put o.dst (.slice (some ⟨w.heap.size, 0, none⟩) ns.length ns.length)) w') : wpList Try.prog ops Q (o :: rest) act w := by
  obtain ⟨i0, hi, hz0, hz1, hz2⟩ := info_parts Try.infoNode
  refine wpList_make_full w hgd s x 32 ho w.heap.size 56 i0 (.agg #[.slice none 0 0, .int .i64 0]) 2 Try.underlying32 hi hz0 hz1 .i64 .i64 _ _ ns.length hs hx rfl rfl (by rw [hz2]; omega) (by unfold maxLen; omega) (Nat.le_refl _) ?_
  intro w1 hown hgrow
  refine h w1 ⟨?_, [], rfl, ?_, fun i _ h => by omega⟩ ((Below.refl _ _).grown hgrow (Nat.le_refl _) (fun k h => by cases h))
  · rcases hown.2 with ⟨h', _⟩ | ⟨g, cap, cur, h', _, hg, _⟩
    · simp at h'
    · simp only [Value.slice.injEq, Option.some.injEq, Addr.mk.injEq, and_true] at h'
      obtain ⟨rfl, _⟩ := h'
      exact lt_of_block hg
  · unfold Own2
    rw [List.nil_append, List.length_replicate, Nat.sub_zero]
    have e : (madeCells (Value.agg #[.slice none 0 0, .int .i64 0]).cells (ns.length * 2)).toList = two (List.replicate ns.length z2) := two_made _ _ _
    rw [e] at hown; exact hown
theorem toNodeS_any (a : Option Addr) (cap : Nat) (ns : List (List Nat × Int)) (w : World) (hl : ns.length ≤ 1048576) (hls : ∀ e ∈ ns, e.1.length ≤ 1048576) (hr : NodeAt w a ns) :
    Calls Try.prog 26 #[.slice a ns.length cap] w fun e w' => e = .returned (.slice (some ⟨w.heap.size, 0, none⟩) ns.length ns.length) ∧ OwnN w' w.heap.size (.slice (some ⟨w.heap.size, 0, none⟩) ns.length ns.length) ns ∧ Below w.heap.size w w' := by
  go_enter Try.func26, Try.ntmps26
  go_wp2_with (at_make; refine wpList_make_nodes _ rfl _ _ rfl ns rfl rfl (by omega) ?_; intro w1 hfill hbel)
  go_loopw [4] (fun i wr => ∃ k : Nat, k ≤ ns.length ∧ i = .int .i64 k ∧ NFill wr w.heap.size k ns ∧ Below w.heap.size w wr) (fun i _ => ns.length - (intOf i).toNat)
  case atStart => exact ⟨0, Nat.zero_le _, rfl, hfill, hbel⟩
  case round =>
    obtain ⟨k, hk, rfl, hf, hnx⟩ := hrel
    clear hfill hbel
    by_cases hlt : k < ns.length
    · obtain ⟨b, off, rfl, hc⟩ := (hr.below hnx) (by omega)
      obtain ⟨ai, ci, hc0, hc1, hri⟩ := hc k hlt
      have hkl := hls _ (List.getElem_mem hlt)
      have HF := hide hf
      have HN := hide hnx
      clear hc hr hls hf hnx
      go_wp2_with fail
      refine (toNode_any ai ci ns[k].1 ns[k].2 wr hkl hri).mono ?_
      rintro e w2 ⟨x, rfl, ho, hb⟩
      have hf2 := HF.out.below hb
      have hx : OwnB w2 (w.heap.size + 1) x ns[k].1 := ho.mono HF.out.1
      obtain ⟨hd0, hd1, hf0, hf1⟩ := hf2.cells hlt
      have HX : Hid (NFill ((w2.setCell ⟨w.heap.size, k * 2, none⟩ x).setCell ⟨w.heap.size, k * 2 + 1, none⟩ (.int .i64 ns[k].2)) w.heap.size (k + 1) ns ∧ Below w.heap.size w ((w2.setCell ⟨w.heap.size, k * 2, none⟩ x).setCell ⟨w.heap.size, k * 2 + 1, none⟩ (.int .i64 ns[k].2))) :=
        ⟨hf2.next hlt hx, ((HN.out.trans (hb.mono HN.out.size)).setCell (Nat.le_refl _) _).setCell (Nat.le_refl _) _⟩
      obtain ⟨ax, cx, hxe⟩ := hx.slice
      clear hf2 hx ho hb HF HN hri hc0 hc1 hkl
      generalize ns[k].2 = sf at HX ⊢
      subst hxe
      generalize ns[k].1.length = n0 at HX ⊢
      go_wp2
      go_roundw
      case rel => exact ⟨k + 1, by omega, by go_num, HX.out.1, HX.out.2⟩
      case measure => simp [intOf]; omega
    · obtain rfl : k = ns.length := by omega
      go_wp2
      go_ret
      exact ⟨rfl, hf.done, hnx⟩
end Go.Proofs.Ytledlicandlekab
namespace Go.Proofs.Ytledlicandlekab
open Go.RowKit
structure MDisk where
  nodes : List (List Nat × Int)
  names : List (ByteArray × Int)
  kept : List (ByteArray × Int)
  pend : List (Int × ByteArray × ByteArray × Int)
  quota : Int
/-- v is the disk D. -/
def DiskAt (w : World) (v : Value) (D : MDisk) : Prop := ∃ a1 c1 a2 c2 a3 c3 a4 c4, v = .agg #[.slice a1 D.nodes.length c1, .slice a2 D.names.length c2, .slice a3 D.kept.length c3, .slice a4 D.pend.length c4, .int .i64 D.quota] ∧ NodeAt w a1 D.nodes ∧ EntAt w a2 D.names ∧ EntAt w a3 D.kept ∧ OpAt w a4 D.pend
theorem DiskAt.below {w w' : World} {v : Value} {D : MDisk} (h : DiskAt w v D) (hb : Below w.heap.size w w') : DiskAt w' v D := by
  obtain ⟨a1, c1, a2, c2, a3, c3, a4, c4, e, h1, h2, h3, h4⟩ := h
  exact ⟨a1, c1, a2, c2, a3, c3, a4, c4, e, h1.below hb, h2.below hb, h3.below hb, h4.below hb⟩
/-- v is the disk D, of the call's own. -/
def OwnD (w : World) (base : Nat) (v : Value) (D : MDisk) : Prop := ∃ v1 v2 v3 v4, v = .agg #[v1, v2, v3, v4, .int .i64 D.quota] ∧ OwnN w base v1 D.nodes ∧ OwnE w base v2 D.names ∧ OwnE w base v3 D.kept ∧ OwnO w base v4 D.pend
theorem OwnN.slice {w : World} {base : Nat} {v : Value} {ns : List (List Nat × Int)} (h : OwnN w base v ns) : ∃ a cap, v = .slice a ns.length cap := by
  obtain ⟨vs, hl, h2, _⟩ := h
  rw [← hl]; exact h2.slice
theorem OwnE.slice {w : World} {base : Nat} {v : Value} {es : List (ByteArray × Int)} (h : OwnE w base v es) : ∃ a cap, v = .slice a es.length cap := by
  have := Own2.slice h
  simpa using this
theorem OwnO.slice {w : World} {base : Nat} {v : Value} {es : List (Int × ByteArray × ByteArray × Int)} (h : OwnO w base v es) : ∃ a cap, v = .slice a es.length cap := by
  have := Own4.slice h
  simpa using this
theorem OwnD.at {w : World} {base : Nat} {v : Value} {D : MDisk} (h : OwnD w base v D) : DiskAt w v D := by
  obtain ⟨v1, v2, v3, v4, rfl, h1, h2, h3, h4⟩ := h
  obtain ⟨a1, c1, rfl⟩ := h1.slice
  obtain ⟨a2, c2, rfl⟩ := h2.slice
  obtain ⟨a3, c3, rfl⟩ := h3.slice
  obtain ⟨a4, c4, rfl⟩ := h4.slice
  exact ⟨a1, c1, a2, c2, a3, c3, a4, c4, rfl, h1.at, h2.at, h3.at, h4.at⟩
theorem Own2.mono {w : World} {base base' e : Nat} {v : Value} {l : List (Value × Value)} (h : Own2 w base e v l) (hb : base' ≤ base) : Own2 w base' e v l := by
  refine ⟨h.1, ?_⟩
  rcases h.2 with hn | ⟨g, cap, cur, hv, hg0, rest⟩
  · exact .inl hn
  · exact .inr ⟨g, cap, cur, hv, Nat.le_trans hb hg0, rest⟩
theorem Own4.mono {w : World} {base base' e : Nat} {v : Value} {l : List V4} (h : Own4 w base e v l) (hb : base' ≤ base) : Own4 w base' e v l := by
  refine ⟨h.1, ?_⟩
  rcases h.2 with hn | ⟨g, cap, cur, hv, hg0, rest⟩
  · exact .inl hn
  · exact .inr ⟨g, cap, cur, hv, Nat.le_trans hb hg0, rest⟩
theorem Own2.set_low {w : World} {base e : Nat} {v : Value} {l : List (Value × Value)} (h : Own2 w base e v l) {p : Addr} (hp : p.block < base) (u : Value) : Own2 (w.setCell p u) base e v l := by
  refine ⟨h.1, ?_⟩
  rcases h.2 with hn | ⟨g, cap, cur, hv, hbase, hg, rest⟩
  · exact .inl hn
  · exact .inr ⟨g, cap, cur, hv, hbase, (heap_setCell_other w p g u (by omega)).trans hg, rest⟩
theorem Own4.set_low {w : World} {base e : Nat} {v : Value} {l : List V4} (h : Own4 w base e v l) {p : Addr} (hp : p.block < base) (u : Value) : Own4 (w.setCell p u) base e v l := by
  refine ⟨h.1, ?_⟩
  rcases h.2 with hn | ⟨g, cap, cur, hv, hbase, hg, rest⟩
  · exact .inl hn
  · exact .inr ⟨g, cap, cur, hv, hbase, (heap_setCell_other w p g u (by omega)).trans hg, rest⟩
theorem OwnN.mono {w : World} {base base' : Nat} {v : Value} {ns : List (List Nat × Int)} (h : OwnN w base v ns) (hb : base' ≤ base) : OwnN w base' v ns := by
  obtain ⟨vs, hl, h2, hi⟩ := h
  exact ⟨vs, hl, h2.mono hb, fun i h => by obtain ⟨x, hx, ho⟩ := hi i h; exact ⟨x, hx, ho.mono hb⟩⟩
theorem OwnN.set_low {w : World} {base : Nat} {v : Value} {ns : List (List Nat × Int)} (h : OwnN w base v ns) {p : Addr} (hp : p.block < base) (u : Value) : OwnN (w.setCell p u) base v ns := by
  obtain ⟨vs, hl, h2, hi⟩ := h
  exact ⟨vs, hl, h2.set_low hp u, fun i h => by obtain ⟨x, hx, ho⟩ := hi i h; exact ⟨x, hx, ho.set_low hp u⟩⟩
theorem OwnN.below {w w' : World} {base : Nat} {v : Value} {ns : List (List Nat × Int)} (h : OwnN w base v ns) (hb : Below w.heap.size w w') : OwnN w' base v ns := by
  obtain ⟨vs, hl, h2, hi⟩ := h
  exact ⟨vs, hl, h2.below hb (Nat.le_refl _), fun i h => by obtain ⟨x, hx, ho⟩ := hi i h; exact ⟨x, hx, ho.below hb (Nat.le_refl _)⟩⟩
theorem OwnE.mono {w : World} {base base' : Nat} {v : Value} {es : List (ByteArray × Int)} (h : OwnE w base v es) (hb : base' ≤ base) : OwnE w base' v es := Own2.mono h hb
theorem OwnE.set_low {w : World} {base : Nat} {v : Value} {es : List (ByteArray × Int)} (h : OwnE w base v es) {p : Addr} (hp : p.block < base) (u : Value) : OwnE (w.setCell p u) base v es := Own2.set_low h hp u
theorem OwnE.below {w w' : World} {base : Nat} {v : Value} {es : List (ByteArray × Int)} (h : OwnE w base v es) (hb : Below w.heap.size w w') : OwnE w' base v es := Own2.below h hb (Nat.le_refl _)
theorem OwnO.mono {w : World} {base base' : Nat} {v : Value} {es : List (Int × ByteArray × ByteArray × Int)} (h : OwnO w base v es) (hb : base' ≤ base) : OwnO w base' v es := Own4.mono h hb
theorem OwnO.set_low {w : World} {base : Nat} {v : Value} {es : List (Int × ByteArray × ByteArray × Int)} (h : OwnO w base v es) {p : Addr} (hp : p.block < base) (u : Value) : OwnO (w.setCell p u) base v es := Own4.set_low h hp u
theorem OwnO.below {w w' : World} {base : Nat} {v : Value} {es : List (Int × ByteArray × ByteArray × Int)} (h : OwnO w base v es) (hb : Below w.heap.size w w') : OwnO w' base v es := Own4.below h hb (Nat.le_refl _)
/-- The three blocks of toDisk: its argument, its answer, its 'out'. -/
def TD (w wj : World) (B : Nat) (A res cur : Array Value) : Prop := Laid wj B A 26 ∧ Laid wj (B + 1) res 36 ∧ Laid wj (B + 1 + 1) cur 36 ∧ Below B w wj ∧ B + 3 ≤ wj.heap.size
theorem TD.start (w : World) (A res cur : Array Value) : TD w (((w.alloc (.cells A 26)).alloc (.cells res 36)).alloc (.cells cur 36)) w.heap.size A res cur := by
  refine ⟨?_, ?_, ?_, (((Below.refl w.heap.size w).alloc (Nat.le_refl _) _).alloc (by simp) _).alloc (by simp; omega) _, by simp⟩
  · exact Laid.below (B := w.heap.size + 2) (Laid.below (B := w.heap.size + 1) (Laid.new w _ _) ((Below.refl _ _).alloc (by simp) _) (by omega)) ((Below.refl _ _).alloc (by simp) _) (by omega)
  · have h := Laid.new (w.alloc (.cells A 26)) res 36
    rw [show (w.alloc (.cells A 26)).heap.size = w.heap.size + 1 from by simp] at h
    exact Laid.below (B := w.heap.size + 2) h ((Below.refl _ _).alloc (by simp) _) (by omega)
  · have h := Laid.new ((w.alloc (.cells A 26)).alloc (.cells res 36)) cur 36
    rw [show ((w.alloc (.cells A 26)).alloc (.cells res 36)).heap.size = w.heap.size + 1 + 1 from by simp] at h
    exact h
theorem TD.below {w wj w' : World} {B : Nat} {A res cur : Array Value} (h : TD w wj B A res cur) (hb : Below wj.heap.size wj w') : TD w w' B A res cur := by
  obtain ⟨h0, h1, h2, hn, hs⟩ := h
  exact ⟨h0.below hb h0.lt, h1.below hb h1.lt, h2.below hb h2.lt, hn.trans (hb.mono (by omega)), Nat.le_trans hs hb.size⟩
theorem TD.setOut {w wj : World} {B : Nat} {A res cur : Array Value} (h : TD w wj B A res cur) (j : Nat) (u : Value) : TD w (wj.setCell ⟨B + 1 + 1, j, none⟩ u) B A res (cur.setIfInBounds j u) := by
  obtain ⟨h0, h1, h2, hn, hs⟩ := h
  exact ⟨h0.other (by simp; omega) u, h1.other (by simp) u, h2.set j u, hn.setCell (by simp; omega) u, by simpa using hs⟩
theorem TD.setRes {w wj : World} {B : Nat} {A res cur : Array Value} (h : TD w wj B A res cur) (j : Nat) (u : Value) : TD w (wj.setCell ⟨B + 1, j, none⟩ u) B A (res.setIfInBounds j u) cur := by
  obtain ⟨h0, h1, h2, hn, hs⟩ := h
  exact ⟨h0.other (by simp) u, h1.set j u, h2.other (by simp) u, hn.setCell (by simp) u, by simpa using hs⟩
end Go.Proofs.Ytledlicandlekab
namespace Go.Proofs.Ytledlicandlekab
open Go.RowKit
/-- A byte that a good name may hold. -/
def okB (x : UInt8) : Bool := decide (33 ≤ x.toNat ∧ x.toNat ≤ 126)
/-- A good name. -/
def okName (s : ByteArray) : Bool := decide (1 ≤ s.size ∧ s.size ≤ 80 ∧ ∀ i, i < s.size → okB (s.get! i) = true)
theorem okName_no {s : ByteArray} {i : Nat} (h : i < s.size) (hb : okB (s.get! i) = false) : okName s = false := by
  unfold okName
  refine decide_eq_false fun h' => ?_
  rw [h'.2.2 i h] at hb
  simp at hb
theorem get_bang (s : ByteArray) (k : Nat) (h : k < s.size) : s.get! k = s[k]'h := by
  show s.data[k]! = _
  rw [getElem!_pos s.data k h]
  rfl
theorem l1GoodName_any (s : ByteArray) (w : World) (hs : s.size ≤ 9223372036854775807) :
    Calls Try.prog 70 #[.string s] w fun e w' => e = .returned (.bool (okName s)) ∧ w' = w := by
  by_cases h1 : s.size < 1
  · have hf : okName s = false := decide_eq_false fun h => by omega
    rw [hf]
    go_enter Try.func70, Try.ntmps70
    go_wp2
    go_ret
    exact ⟨rfl, rfl⟩
  by_cases h2 : 80 < s.size
  · have hf : okName s = false := decide_eq_false fun h => by omega
    rw [hf]
    go_enter Try.func70, Try.ntmps70
    go_wp2
    go_ret
    exact ⟨rfl, rfl⟩
  go_enter Try.func70, Try.ntmps70
  go_wp2
  go_loop [3] (fun i => ∃ k : Nat, k ≤ s.size ∧ i = .int .i64 k ∧ ∀ i, i < k → okB (s.get! i) = true) (fun i => s.size - (intOf i).toNat)
  case atStart => exact ⟨0, Nat.zero_le _, rfl, fun i h => by omega⟩
  case round =>
    obtain ⟨k, hk, rfl, hok⟩ := hrel
    have HK := hide hok
    clear hok
    by_cases hlt : k < s.size
    · have HG := hide (get_bang s k hlt)
      by_cases lo : s[k].toNat < 33
      · go_wp2
        go_ret
        exact ⟨ret_bool (okName_no hlt (by rw [HG.out]; exact decide_eq_false fun h => by omega)).symm, rfl⟩
      · by_cases hi : 126 < s[k].toNat
        · go_wp2
          go_ret
          exact ⟨ret_bool (okName_no hlt (by rw [HG.out]; exact decide_eq_false fun h => by omega)).symm, rfl⟩
        · have HB := hide (show okB (s.get! k) = true from by rw [HG.out]; exact decide_eq_true ⟨by omega, by omega⟩)
          go_wp2
          go_round
          case rel => exact ⟨k + 1, by omega, by go_num, fun i h => by
            by_cases e : i = k
            · rw [e]; exact HB.out
            · exact HK.out i (by omega)⟩
          case measure => simp [intOf]; omega
    · have hf : okName s = true := decide_eq_true ⟨by omega, by omega, fun i h => HK.out i (by omega)⟩
      go_wp2
      go_ret
      exact ⟨rfl, rfl⟩
set_option maxRecDepth 20000 in
theorem goodName_any (s : ByteArray) (w : World) (hs : s.size ≤ 9223372036854775807) :
    Calls Try.prog 80 #[.string s] w fun e w' => e = .returned (.bool (okName s)) ∧ Below w.heap.size w w' := by
  by_cases h1 : s.size < 1
  · have hf : okName s = false := decide_eq_false fun h => by omega
    rw [hf]
    go_enter Try.func80, Try.ntmps80
    go_wp2
    go_ret
    exact ⟨rfl, Below.refl _ _⟩
  by_cases h2 : 80 < s.size
  · have hf : okName s = false := decide_eq_false fun h => by omega
    rw [hf]
    go_enter Try.func80, Try.ntmps80
    go_wp2
    go_ret
    exact ⟨rfl, Below.refl _ _⟩
  have hcv := run_bytes_of_string (P := Try.prog) w 9 28 5 s (by kernel_rfl) (by kernel_rfl) (by kernel_rfl)
  generalize hcap : grownCap w s.size 0 5 = cap at hcv
  have hrow : ∀ j (h : j < s.size), (w.drew.alloc (.cells (bytesRow s cap) 5 ((bytesRow s cap).size, (bytesRow s cap).size + 1))).cell? ⟨w.heap.size, j, none⟩ = some (.int .u8 (s[j].toNat : Int)) := fun j h => by
    have e := World.cell?_alloc_mark w.drew (bytesRow s cap) 5 ((bytesRow s cap).size, (bytesRow s cap).size + 1) j
    rw [bytesRow_at s cap j h] at e
    exact e
  have hnx : Below w.heap.size w (w.drew.alloc (.cells (bytesRow s cap) 5 ((bytesRow s cap).size, (bytesRow s cap).size + 1))) := (Below.refl _ _).drew.alloc (Nat.le_refl _) _
  generalize (w.drew.alloc (.cells (bytesRow s cap) 5 ((bytesRow s cap).size, (bytesRow s cap).size + 1))) = w1 at hcv hrow hnx
  have HN := hide hnx
  have HRW := hide hrow
  clear hnx hrow hcap
  go_enter Try.func80, Try.ntmps80
  go_wp2
  clear hcv
  go_loop [16] (fun i => ∃ k : Nat, k ≤ s.size ∧ i = .int .i64 k ∧ ∀ i, i < k → okB (s.get! i) = true) (fun i => s.size - (intOf i).toNat)
  case atStart => exact ⟨0, Nat.zero_le _, rfl, fun i h => by omega⟩
  case round =>
    obtain ⟨k, hk, rfl, hok⟩ := hrel
    have HK := hide hok
    clear hok
    by_cases hlt : k < s.size
    · have HG := hide (get_bang s k hlt)
      have hc := HRW.out k hlt
      by_cases lo : s[k].toNat < 33
      · go_wp2
        go_ret
        exact ⟨ret_bool (okName_no hlt (by rw [HG.out]; exact decide_eq_false fun h => by omega)).symm, HN.out⟩
      · by_cases hi : 126 < s[k].toNat
        · go_wp2
          go_ret
          exact ⟨ret_bool (okName_no hlt (by rw [HG.out]; exact decide_eq_false fun h => by omega)).symm, HN.out⟩
        · have HB := hide (show okB (s.get! k) = true from by rw [HG.out]; exact decide_eq_true ⟨by omega, by omega⟩)
          go_wp2
          go_round
          case rel => exact ⟨k + 1, by omega, by go_num, fun i h => by
            by_cases e : i = k
            · rw [e]; exact HB.out
            · exact HK.out i (by omega)⟩
          case measure => simp [intOf]; omega
    · have hf : okName s = true := decide_eq_true ⟨by omega, by omega, fun i h => HK.out i (by omega)⟩
      go_wp2
      go_ret
      exact ⟨rfl, HN.out⟩
end Go.Proofs.Ytledlicandlekab
