import Derived.Test.YtledlicandlekabDiskTo
import Derived.Test.YtledlicandlekabPairs
namespace Go.Proofs.Ytledlicandlekab
open Go.RowKit
theorem Try.infoEntry : (Try.prog.info? 58).map (fun i => (i.zero, i.size, i.bytes)) = some (some (.agg #[.string ByteArray.empty, .int .i64 0]), 2, 24) := by kernel_rfl
def entP (e : ByteArray × Int) : Value × Value := (.string e.1, .int .i64 e.2)
/-- The entries of a call's own. -/
def OwnE (w : World) (base : Nat) (v : Value) (es : List (ByteArray × Int)) : Prop := Own2 w base 58 v (es.map entP)
theorem OwnE.at {w : World} {base : Nat} {a : Option Addr} {n cap : Nat} {es : List (ByteArray × Int)} (h : OwnE w base (.slice a n cap) es) : EntAt w a es := fun hp => by
  rcases h.2 with ⟨_, hn⟩ | ⟨g, cap', cur, h', _⟩
  · simp at hn; simp [hn] at hp
  · simp only [Value.slice.injEq] at h'
    obtain ⟨rfl, rfl, rfl⟩ := h'
    refine ⟨g, 0, rfl, fun i hi => ?_⟩
    obtain ⟨h0, h1⟩ := Own2.cells h i (by simpa using hi)
    rw [Nat.zero_add]
    simp [entP] at h0 h1
    exact ⟨h0, h1⟩
theorem wpList_make_entries {ops : Array Oper} {rest : List Oper} {o : Oper} {act : Act} {Q : Exit → Act → World → Prop} (w : World) (hgd : o.guard = none) (s x : Operand)
    (ho : o.op = Op.makeSlice 33 s x) (n : Nat) (hs : act.eval s = .int .i64 (n : Int)) (hx : act.eval x = .int .i64 (n : Int)) (hlen : n ≤ 1048576)
    (h : ∀ w', OwnE w' w.heap.size (.slice (some ⟨w.heap.size, 0, none⟩) n n) (List.replicate n (ByteArray.empty, 0)) → Below w.heap.size w w' → wpList Try.prog ops Q rest (act.put o.dst (.slice (some ⟨w.heap.size, 0, none⟩) n n)) w') : wpList Try.prog ops Q (o :: rest) act w := by
  obtain ⟨i0, hi, hz0, hz1, hz2⟩ := info_parts Try.infoEntry
  refine wpList_make_full w hgd s x 33 ho w.heap.size 58 i0 (.agg #[.string ByteArray.empty, .int .i64 0]) 2 Try.underlying33 hi hz0 hz1 .i64 .i64 _ _ n hs hx rfl rfl (by rw [hz2]; omega) (by unfold maxLen; omega) (Nat.le_refl _) ?_
  intro w1 hown hgrow
  refine h w1 ?_ ((Below.refl _ _).grown hgrow (Nat.le_refl _) (fun k h => by cases h))
  unfold OwnE Own2
  rw [List.length_map, List.length_replicate, List.map_replicate]
  have e : (madeCells (Value.agg #[.string ByteArray.empty, .int .i64 0]).cells (n * 2)).toList = two (List.replicate n (entP (ByteArray.empty, 0))) := two_made _ _ _
  rw [e] at hown; exact hown
theorem toEntryS_any (a : Option Addr) (cap : Nat) (l : List (ByteArray × Int)) (w : World) (hl : l.length ≤ 1048576) (hr : EntAt w a l) :
    Calls Try.prog 27 #[.slice a l.length cap] w fun e w' => e = .returned (.slice (some ⟨w.heap.size, 0, none⟩) l.length l.length) ∧ OwnE w' w.heap.size (.slice (some ⟨w.heap.size, 0, none⟩) l.length l.length) l ∧ Below w.heap.size w w' := by
  go_enter Try.func27, Try.ntmps27
  go_wp2_with (at_make; refine wpList_make_entries _ rfl _ _ rfl l.length rfl rfl (by omega) ?_; intro w1 hown hbel)
  have hown' : OwnE w1 w.heap.size (.slice (some ⟨w.heap.size, 0, none⟩) l.length l.length) (halfA (ByteArray.empty, 0) l 0) := by rw [halfA_zero]; exact hown
  clear hown
  go_loopw [4] (fun i wr => ∃ k : Nat, k ≤ l.length ∧ i = .int .i64 k ∧ OwnE wr w.heap.size (.slice (some ⟨w.heap.size, 0, none⟩) l.length l.length) (halfA (ByteArray.empty, 0) l k) ∧ Below w.heap.size w wr) (fun i _ => l.length - (intOf i).toNat)
  case atStart => exact ⟨0, Nat.zero_le _, rfl, hown', hbel⟩
  case round =>
    obtain ⟨k, hk, rfl, hown, hnx⟩ := hrel
    clear hown' hbel
    by_cases hlt : k < l.length
    · obtain ⟨b, off, rfl, hc⟩ := (hr.below hnx) (by omega)
      obtain ⟨hc0, hc1⟩ := hc k hlt
      have HO := hide hown
      have HR := hide hr
      clear hc hr hown
      go_wp2_with fail
      refine (toEntry_any _ _ wr).mono ?_
      rintro e w2 ⟨rfl, hb⟩
      have hown2 : OwnE w2 _ _ _ := HO.out.below hb (Nat.le_refl _)
      obtain ⟨hd0, hd1⟩ := Own2.cells hown2 k (by rw [List.length_map, halfA_length _ l k hk]; exact hlt)
      have hf0 := Own2.frozen hown2 (k * 2)
      have hf1 := Own2.frozen hown2 (k * 2 + 1)
      have hst := Own2.store hown2 k (.string l[k].1) (.int .i64 l[k].2)
      have hset : ((halfA (ByteArray.empty, 0) l k).map entP).set k (.string l[k].1, .int .i64 l[k].2) = (halfA (ByteArray.empty, 0) l (k + 1)).map entP := by
        rw [← halfA_set _ l k hlt, List.map_set]; rfl
      rw [hset] at hst
      have HX : Hid (OwnE ((w2.setCell ⟨w.heap.size, k * 2, none⟩ (.string l[k].1)).setCell ⟨w.heap.size, k * 2 + 1, none⟩ (.int .i64 l[k].2)) w.heap.size (.slice (some ⟨w.heap.size, 0, none⟩) l.length l.length) (halfA (ByteArray.empty, 0) l (k + 1)) ∧ Below w.heap.size w ((w2.setCell ⟨w.heap.size, k * 2, none⟩ (.string l[k].1)).setCell ⟨w.heap.size, k * 2 + 1, none⟩ (.int .i64 l[k].2))) :=
        ⟨hst, ((hnx.trans (hb.mono hnx.size)).setCell (Nat.le_refl _) _).setCell (Nat.le_refl _) _⟩
      generalize (((halfA (ByteArray.empty, 0) l k).map entP)[k]'(by rw [List.length_map, halfA_length _ l k hk]; exact hlt)).1 = y0 at hd0
      generalize (((halfA (ByteArray.empty, 0) l k).map entP)[k]'(by rw [List.length_map, halfA_length _ l k hk]; exact hlt)).2 = y1 at hd1
      clear hst hset hown2 hc0 hc1 HO hnx hb
      generalize l[k].1 = s0 at HX ⊢
      generalize l[k].2 = n0 at HX ⊢
      go_wp2
      go_roundw
      case rel => exact ⟨k + 1, by omega, by go_num, HX.out.1, HX.out.2⟩
      case measure => simp [intOf]; omega
    · obtain rfl : k = l.length := by omega
      rw [halfA_len] at hown
      go_wp2
      go_ret
      exact ⟨rfl, hown, hnx⟩
end Go.Proofs.Ytledlicandlekab
