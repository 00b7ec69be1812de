import Derived.Test.YtokcdpamcbpaiaaPairs
import Derived.Deep.RegionWith
namespace Go.Proofs.Ytokcdpamcbpaiaa
open Go.RowKit
/-- The pairs 'ps' (from, to) lie at 'a'. -/
def PrAt (w : World) (a : Option Addr) (ps : List (Int × Int)) : Prop :=
  0 < ps.length → ∃ b off, a = some ⟨b, off, none⟩ ∧ ∀ i (h : i < ps.length), w.cell? ⟨b, off + i * 2, none⟩ = some (.int .u32 ps[i].1) ∧ w.cell? ⟨b, off + i * 2 + 1, none⟩ = some (.int .u32 ps[i].2)
theorem PrAt.below {w w' : World} {a : Option Addr} {ps : List (Int × Int)} (h : PrAt w a ps) (hb : Below w.heap.size w w') : PrAt w' a ps := fun hp => by
  obtain ⟨b, off, rfl, hc⟩ := h hp
  refine ⟨b, off, rfl, fun i hi => ?_⟩
  obtain ⟨h1, h2⟩ := hc i hi
  exact ⟨by rw [hb.cell (p := ⟨b, off + i * 2, none⟩) (lt_of_cell0 h1)]; exact h1, by rw [hb.cell (p := ⟨b, off + i * 2 + 1, none⟩) (lt_of_cell0 h2)]; exact h2⟩
theorem szPairS_any (a : Option Addr) (n cap : Nat) (w : World) (hn : n ≤ 9223372036854775807) :
    Calls Try.prog 17 #[.slice a n cap, .int .i64 1048576] w fun e w' => e = .returned (.int .i64 (if 1048576 < n then -1 else 1048576 - n)) ∧ w' = w := by
  by_cases h : 1048576 < n
  · rw [if_pos h]
    have hlt : (1048576 : Int) - n < 0 := by omega
    go_enter Try.func17, Try.ntmps17
    go_wp2
    go_ret
    exact ⟨rfl, rfl⟩
  · rw [if_neg h]
    have hlt : ¬ (1048576 : Int) - n < 0 := by omega
    go_enter Try.func17, Try.ntmps17
    go_wp2
    go_ret
    exact ⟨rfl, rfl⟩
theorem toPair_any (x y : Int) (w : World) :
    Calls Try.prog 39 #[.agg #[.int .u32 x, .int .u32 y]] w fun e w' => e = .returned (.agg #[.int .u32 x, .int .u32 y]) ∧ Below w.heap.size w w' := by
  go_enter Try.func39, Try.ntmps39
  go_wp2
  refine bodyPost_ret (v := .agg #[.int .u32 x, .int .u32 y]) (by simp [results, Try.results39, go_sem]) rfl ⟨rfl, ?_⟩
  exact (((Below.refl _ _).alloc (Nat.le_refl _) _).alloc (by simp) _).alloc (by simp; omega) _
theorem Try.infoPair : (Try.prog.info? 67).map (fun i => (i.zero, i.size, i.bytes)) = some (some (.agg #[.int .u32 0, .int .u32 0]), 2, 8) := by kernel_rfl
def prP (e : Int × Int) : Value × Value := (.int .u32 e.1, .int .u32 e.2)
/-- The pairs of a call's own. -/
def OwnP (w : World) (base : Nat) (v : Value) (es : List (Int × Int)) : Prop := Own2 w base 67 v (es.map prP)
theorem OwnP.at {w : World} {base : Nat} {a : Option Addr} {n cap : Nat} {es : List (Int × Int)} (h : OwnP w base (.slice a n cap) es) : PrAt w a es := fun hp => by
  rcases h.2 with ⟨_, hn⟩ | ⟨g, cap', cur, h', _⟩
  · simp at hn; simp [hn] at hp
  · simp only [Value.slice.injEq] at h'
    obtain ⟨rfl, rfl, rfl⟩ := h'
    refine ⟨g, 0, rfl, fun i hi => ?_⟩
    obtain ⟨h0, h1⟩ := Own2.cells h i (by simpa using hi)
    rw [Nat.zero_add]
    simp [prP] at h0 h1
    exact ⟨h0, h1⟩
theorem wpList_make_pairs {ops : Array Oper} {rest : List Oper} {o : Oper} {act : Act} {Q : Exit → Act → World → Prop} (w : World) (hgd : o.guard = none) (s x : Operand)
    (ho : o.op = Op.makeSlice 33 s x) (n : Nat) (hs : act.eval s = .int .i64 (n : Int)) (hx : act.eval x = .int .i64 (n : Int)) (hlen : n ≤ 1048576)
    (h : ∀ w', OwnP w' w.heap.size (.slice (some ⟨w.heap.size, 0, none⟩) n n) (List.replicate n (0, 0)) → Below w.heap.size w w' → wpList Try.prog ops Q rest (act.put o.dst (.slice (some ⟨w.heap.size, 0, none⟩) n n)) w') : wpList Try.prog ops Q (o :: rest) act w := by
  obtain ⟨i0, hi, hz0, hz1, hz2⟩ := info_parts Try.infoPair
  refine wpList_make_full w hgd s x 33 ho w.heap.size 67 i0 (.agg #[.int .u32 0, .int .u32 0]) 2 Try.underlying33 hi hz0 hz1 .i64 .i64 _ _ n hs hx rfl rfl (by rw [hz2]; omega) (by unfold maxLen; omega) (Nat.le_refl _) ?_
  intro w1 hown hgrow
  refine h w1 ?_ ((Below.refl _ _).grown hgrow (Nat.le_refl _) (fun k h => by cases h))
  unfold OwnP Own2
  rw [List.length_map, List.length_replicate, List.map_replicate]
  have e : (madeCells (Value.agg #[.int .u32 0, .int .u32 0]).cells (n * 2)).toList = two (List.replicate n (prP (0, 0))) := two_made _ _ _
  rw [e] at hown; exact hown
theorem toPairS_any (a : Option Addr) (cap : Nat) (l : List (Int × Int)) (w : World) (hl : l.length ≤ 1048576) (hr : PrAt w a l) :
    Calls Try.prog 19 #[.slice a l.length cap] w fun e w' => e = .returned (.slice (some ⟨w.heap.size, 0, none⟩) l.length l.length) ∧ PrAt w' (some ⟨w.heap.size, 0, none⟩) l ∧ Below w.heap.size w w' := by
  go_enter Try.func19, Try.ntmps19
  go_wp2_with (at_make; refine wpList_make_pairs _ rfl _ _ rfl l.length rfl rfl (by omega) ?_; intro w1 hown hbel)
  have hown' : OwnP w1 w.heap.size (.slice (some ⟨w.heap.size, 0, none⟩) l.length l.length) (halfA (0, 0) l 0) := by rw [halfA_zero]; exact hown
  clear hown
  go_loopw [4] (fun i wr => ∃ k : Nat, k ≤ l.length ∧ i = .int .i64 k ∧ OwnP wr w.heap.size (.slice (some ⟨w.heap.size, 0, none⟩) l.length l.length) (halfA (0, 0) l k) ∧ Below w.heap.size w wr) (fun i _ => l.length - (intOf i).toNat)
  case atStart => exact ⟨0, Nat.zero_le _, rfl, hown', hbel⟩
  case round =>
    obtain ⟨k, hk, rfl, hown, hnx⟩ := hrel
    clear hown' hbel
    by_cases hlt : k < l.length
    · obtain ⟨b, off, rfl, hc⟩ := (hr.below hnx) (by omega)
      obtain ⟨hc0, hc1⟩ := hc k hlt
      have HO := hide hown
      have HR := hide hr
      clear hc hr hown
      go_wp2_with fail
      refine (toPair_any _ _ wr).mono ?_
      rintro e w2 ⟨rfl, hb⟩
      have hown2 : OwnP w2 _ _ _ := HO.out.below hb (Nat.le_refl _)
      obtain ⟨hd0, hd1⟩ := Own2.cells hown2 k (by rw [List.length_map, halfA_length _ l k hk]; exact hlt)
      have hf0 := Own2.frozen hown2 (k * 2)
      have hf1 := Own2.frozen hown2 (k * 2 + 1)
      have hst := Own2.store hown2 k (.int .u32 l[k].1) (.int .u32 l[k].2)
      have hset : ((halfA (0, 0) l k).map prP).set k (.int .u32 l[k].1, .int .u32 l[k].2) = (halfA (0, 0) l (k + 1)).map prP := by
        rw [← halfA_set _ l k hlt, List.map_set]; rfl
      rw [hset] at hst
      have HX : Hid (OwnP ((w2.setCell ⟨w.heap.size, k * 2, none⟩ (.int .u32 l[k].1)).setCell ⟨w.heap.size, k * 2 + 1, none⟩ (.int .u32 l[k].2)) w.heap.size (.slice (some ⟨w.heap.size, 0, none⟩) l.length l.length) (halfA (0, 0) l (k + 1)) ∧ Below w.heap.size w ((w2.setCell ⟨w.heap.size, k * 2, none⟩ (.int .u32 l[k].1)).setCell ⟨w.heap.size, k * 2 + 1, none⟩ (.int .u32 l[k].2))) :=
        ⟨hst, ((hnx.trans (hb.mono hnx.size)).setCell (Nat.le_refl _) _).setCell (Nat.le_refl _) _⟩
      generalize (((halfA (0, 0) l k).map prP)[k]'(by rw [List.length_map, halfA_length _ l k hk]; exact hlt)).1 = y0 at hd0
      generalize (((halfA (0, 0) l k).map prP)[k]'(by rw [List.length_map, halfA_length _ l k hk]; exact hlt)).2 = y1 at hd1
      clear hst hset hown2 hc0 hc1 HO hnx hb
      generalize l[k].1 = s0 at HX ⊢
      generalize l[k].2 = n0 at HX ⊢
      go_wp2
      go_roundw
      case rel => exact ⟨k + 1, by omega, by go_num, HX.out.1, HX.out.2⟩
      case measure => simp [intOf]; omega
    · obtain rfl : k = l.length := by omega
      rw [halfA_len] at hown
      go_wp2
      go_ret
      exact ⟨rfl, hown.at, hnx⟩
theorem eqPair_same (x y : Int) (w : World) :
    Calls Try.prog 40 #[.agg #[.int .u32 x, .int .u32 y], .agg #[.int .u32 x, .int .u32 y]] w fun e w' => e = .returned (.bool true) ∧ Below w.heap.size w w' := by
  go_enter Try.func40, Try.ntmps40
  go_wp2
  go_ret
  exact ⟨rfl, ((Below.refl _ _).alloc (Nat.le_refl _) _).alloc (by simp) _⟩
theorem eqPairS_same (a a' : Option Addr) (cap cap' : Nat) (es : List (Int × Int)) (w : World) (hl : es.length ≤ 9223372036854775807) (hr : PrAt w a es) (hr' : PrAt w a' es) :
    Calls Try.prog 21 #[.slice a es.length cap, .slice a' es.length cap'] w fun e w' => e = .returned (.bool true) ∧ Below w.heap.size w w' := by
  go_enter Try.func21, Try.ntmps21
  go_wp2
  go_loopw [5] (fun i wr => ∃ k : Nat, k ≤ es.length ∧ i = .int .i64 k ∧ Below w.heap.size w wr) (fun i _ => es.length - (intOf i).toNat)
  case atStart => exact ⟨0, Nat.zero_le _, rfl, Below.refl _ _⟩
  case round =>
    obtain ⟨k, hk, rfl, hnx⟩ := hrel
    by_cases hlt : k < es.length
    · obtain ⟨b, off, rfl, hc⟩ := (hr.below hnx) (by omega)
      obtain ⟨b', off', rfl, hc'⟩ := (hr'.below hnx) (by omega)
      obtain ⟨hc0, hc1⟩ := hc k hlt
      obtain ⟨hd0, hd1⟩ := hc' k hlt
      have HN := hide hnx
      clear hc hc' hr hr' hnx
      generalize es[k].1 = s0 at hc0 hd0
      generalize es[k].2 = n0 at hc1 hd1
      go_wp2
      go_region_with (go_at_call 40; refine (eqPair_same s0 n0 _).mono ?_; rintro e w2 ⟨rfl, hb⟩)
      all_goals
        have hnx2 : Below w.heap.size w w2 := HN.out.drew.trans (hb.mono HN.out.size)
        have HN2 := hide hnx2
        clear hnx2 hb hc0 hc1 hd0 hd1
        go_wp2
        go_roundw
        case rel => exact ⟨k + 1, by omega, by go_num, HN2.out⟩
        case measure => simp [intOf]; omega
    · go_wp2
      go_ret
      exact ⟨rfl, hnx⟩
end Go.Proofs.Ytokcdpamcbpaiaa
