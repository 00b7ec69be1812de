import Derived.Test.YtledlicandlekabDiskTo
import Derived.Test.YtledlicandlekabFours
namespace Go.Proofs.Ytledlicandlekab
open Go.RowKit
theorem Try.infoDirOp : (Try.prog.info? 74).map (fun i => (i.zero, i.size, i.bytes)) = some (some (.agg #[.int .i64 0, .string ByteArray.empty, .string ByteArray.empty, .int .i64 0]), 4, 48) := by kernel_rfl
def opP (e : Int × ByteArray × ByteArray × Int) : V4 := (.int .i64 e.1, .string e.2.1, .string e.2.2.1, .int .i64 e.2.2.2)
/-- The steps of a call's own. -/
def OwnO (w : World) (base : Nat) (v : Value) (es : List (Int × ByteArray × ByteArray × Int)) : Prop := Own4 w base 74 v (es.map opP)
theorem OwnO.at {w : World} {base : Nat} {a : Option Addr} {n cap : Nat} {es : List (Int × ByteArray × ByteArray × Int)} (h : OwnO w base (.slice a n cap) es) : OpAt w a es := fun hp => by
  rcases h.2 with ⟨_, hn⟩ | ⟨g, cap', cur, h', _⟩
  · simp at hn; simp [hn] at hp
  · simp only [Value.slice.injEq] at h'
    obtain ⟨rfl, rfl, rfl⟩ := h'
    refine ⟨g, 0, rfl, fun i hi => ?_⟩
    obtain ⟨h0, h1, h2, h3⟩ := Own4.cells h i (by simpa using hi)
    rw [Nat.zero_add]
    simp [opP] at h0 h1 h2 h3
    exact ⟨h0, h1, h2, h3⟩
theorem wpList_make_steps {ops : Array Oper} {rest : List Oper} {o : Oper} {act : Act} {Q : Exit → Act → World → Prop} (w : World) (hgd : o.guard = none) (s x : Operand)
    (ho : o.op = Op.makeSlice 34 s x) (n : Nat) (hs : act.eval s = .int .i64 (n : Int)) (hx : act.eval x = .int .i64 (n : Int)) (hlen : n ≤ 1048576)
    (h : ∀ w', OwnO w' w.heap.size (.slice (some ⟨w.heap.size, 0, none⟩) n n) (List.replicate n (0, ByteArray.empty, ByteArray.empty, 0)) → Below w.heap.size w w' → wpList Try.prog ops Q rest (act.put o.dst (.slice (some ⟨w.heap.size, 0, none⟩) n n)) w') : wpList Try.prog ops Q (o :: rest) act w := by
  obtain ⟨i0, hi, hz0, hz1, hz2⟩ := info_parts Try.infoDirOp
  refine wpList_make_full w hgd s x 34 ho w.heap.size 74 i0 (.agg #[.int .i64 0, .string ByteArray.empty, .string ByteArray.empty, .int .i64 0]) 4 Try.underlying34 hi hz0 hz1 .i64 .i64 _ _ n hs hx rfl rfl (by rw [hz2]; omega) (by unfold maxLen; omega) (Nat.le_refl _) ?_
  intro w1 hown hgrow
  refine h w1 ?_ ((Below.refl _ _).grown hgrow (Nat.le_refl _) (fun k h => by cases h))
  unfold OwnO Own4
  rw [List.length_map, List.length_replicate, List.map_replicate]
  have e : (madeCells (Value.agg #[.int .i64 0, .string ByteArray.empty, .string ByteArray.empty, .int .i64 0]).cells (n * 4)).toList = four (List.replicate n (opP (0, ByteArray.empty, ByteArray.empty, 0))) := four_made _ _ _ _ _
  rw [e] at hown; exact hown
theorem toDirOpS_any (a : Option Addr) (cap : Nat) (l : List (Int × ByteArray × ByteArray × Int)) (w : World) (hl : l.length ≤ 1048576) (hr : OpAt w a l) :
    Calls Try.prog 28 #[.slice a l.length cap] w fun e w' => e = .returned (.slice (some ⟨w.heap.size, 0, none⟩) l.length l.length) ∧ OwnO w' w.heap.size (.slice (some ⟨w.heap.size, 0, none⟩) l.length l.length) l ∧ Below w.heap.size w w' := by
  go_enter Try.func28, Try.ntmps28
  go_wp2_with (at_make; refine wpList_make_steps _ rfl _ _ rfl l.length rfl rfl (by omega) ?_; intro w1 hown hbel)
  have hown' : OwnO w1 w.heap.size (.slice (some ⟨w.heap.size, 0, none⟩) l.length l.length) (halfA (0, ByteArray.empty, ByteArray.empty, 0) l 0) := by rw [halfA_zero]; exact hown
  clear hown
  go_loopw [4] (fun i wr => ∃ k : Nat, k ≤ l.length ∧ i = .int .i64 k ∧ OwnO wr w.heap.size (.slice (some ⟨w.heap.size, 0, none⟩) l.length l.length) (halfA (0, ByteArray.empty, ByteArray.empty, 0) l k) ∧ Below w.heap.size w wr) (fun i _ => l.length - (intOf i).toNat)
  case atStart => exact ⟨0, Nat.zero_le _, rfl, hown', hbel⟩
  case round =>
    obtain ⟨k, hk, rfl, hown, hnx⟩ := hrel
    clear hown' hbel
    by_cases hlt : k < l.length
    · obtain ⟨b, off, rfl, hc⟩ := (hr.below hnx) (by omega)
      obtain ⟨hc0, hc1, hc2, hc3⟩ := hc k hlt
      have HO := hide hown
      have HR := hide hr
      clear hc hr hown
      go_wp2_with fail
      refine (toDirOp_any _ _ _ _ wr).mono ?_
      rintro e w2 ⟨rfl, hb⟩
      have hown2 : OwnO w2 _ _ _ := HO.out.below hb (Nat.le_refl _)
      obtain ⟨hd0, hd1, hd2, hd3⟩ := Own4.cells hown2 k (by rw [List.length_map, halfA_length _ l k hk]; exact hlt)
      have hf0 := Own4.frozen hown2 (k * 4)
      have hf1 := Own4.frozen hown2 (k * 4 + 1)
      have hf2 := Own4.frozen hown2 (k * 4 + 2)
      have hf3 := Own4.frozen hown2 (k * 4 + 3)
      have hst := Own4.store hown2 k (.int .i64 l[k].1) (.string l[k].2.1) (.string l[k].2.2.1) (.int .i64 l[k].2.2.2)
      have hset : ((halfA (0, ByteArray.empty, ByteArray.empty, 0) l k).map opP).set k (.int .i64 l[k].1, .string l[k].2.1, .string l[k].2.2.1, .int .i64 l[k].2.2.2) = (halfA (0, ByteArray.empty, ByteArray.empty, 0) l (k + 1)).map opP := by
        rw [← halfA_set _ l k hlt, List.map_set]; rfl
      rw [hset] at hst
      have HX : Hid (OwnO ((((w2.setCell ⟨w.heap.size, k * 4, none⟩ (.int .i64 l[k].1)).setCell ⟨w.heap.size, k * 4 + 1, none⟩ (.string l[k].2.1)).setCell ⟨w.heap.size, k * 4 + 2, none⟩ (.string l[k].2.2.1)).setCell ⟨w.heap.size, k * 4 + 3, none⟩ (.int .i64 l[k].2.2.2)) w.heap.size (.slice (some ⟨w.heap.size, 0, none⟩) l.length l.length) (halfA (0, ByteArray.empty, ByteArray.empty, 0) l (k + 1)) ∧ Below w.heap.size w ((((w2.setCell ⟨w.heap.size, k * 4, none⟩ (.int .i64 l[k].1)).setCell ⟨w.heap.size, k * 4 + 1, none⟩ (.string l[k].2.1)).setCell ⟨w.heap.size, k * 4 + 2, none⟩ (.string l[k].2.2.1)).setCell ⟨w.heap.size, k * 4 + 3, none⟩ (.int .i64 l[k].2.2.2))) :=
        ⟨hst, ((((hnx.trans (hb.mono hnx.size)).setCell (Nat.le_refl _) _).setCell (Nat.le_refl _) _).setCell (Nat.le_refl _) _).setCell (Nat.le_refl _) _⟩
      generalize (((halfA (0, ByteArray.empty, ByteArray.empty, 0) l k).map opP)[k]'(by rw [List.length_map, halfA_length _ l k hk]; exact hlt)).1 = y0 at hd0
      generalize (((halfA (0, ByteArray.empty, ByteArray.empty, 0) l k).map opP)[k]'(by rw [List.length_map, halfA_length _ l k hk]; exact hlt)).2.1 = y1 at hd1
      generalize (((halfA (0, ByteArray.empty, ByteArray.empty, 0) l k).map opP)[k]'(by rw [List.length_map, halfA_length _ l k hk]; exact hlt)).2.2.1 = y2 at hd2
      generalize (((halfA (0, ByteArray.empty, ByteArray.empty, 0) l k).map opP)[k]'(by rw [List.length_map, halfA_length _ l k hk]; exact hlt)).2.2.2 = y3 at hd3
      clear hst hset hown2 hc0 hc1 hc2 hc3 HO hnx hb
      generalize l[k].1 = s0 at HX ⊢
      generalize l[k].2.1 = s1 at HX ⊢
      generalize l[k].2.2.1 = s2 at HX ⊢
      generalize l[k].2.2.2 = s3 at HX ⊢
      go_wp2
      go_roundw
      case rel => exact ⟨k + 1, by omega, by go_num, HX.out.1, HX.out.2⟩
      case measure => simp [intOf]; omega
    · obtain rfl : k = l.length := by omega
      rw [halfA_len] at hown
      go_wp2
      go_ret
      exact ⟨rfl, hown, hnx⟩
end Go.Proofs.Ytledlicandlekab
