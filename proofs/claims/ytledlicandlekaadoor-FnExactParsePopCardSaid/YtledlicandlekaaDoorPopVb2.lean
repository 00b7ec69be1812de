import Derived.Test.YtledlicandlekaaDoorPopVb
import Derived.Test.YtledlicandlekaaDoorPopRd2
namespace Go.Proofs.YtledlicandlekaaDoor
open Go.RowKit
/-- A command of POP: its kind and its number. -/
def cmP (K N : Int) : Array Value := #[.int .i64 K, .string ⟨#[]⟩, .int .u32 N, .bool false, .slice none 0 0, .int .i64 0, .int .i64 0, .int .u32 0, .slice none 0 0]
abbrev CmB (w : World) (g : Nat) (K N : Int) : Prop := Blk w g (cmP K N) 36
theorem CmB.kind {w : World} {g : Nat} {K N : Int} (h : CmB w g K N) (k : Int) : CmB (w.setCell ⟨g, 0, none⟩ (.int .i64 k)) g k N := h.set 0 _
theorem CmB.num {w : World} {g : Nat} {K N : Int} (h : CmB w g K N) (n : Int) : CmB (w.setCell ⟨g, 2, none⟩ (.int .u32 n)) g K n := h.set 2 _
theorem alone1_any (gr gc gb : Nat) (k K N : Int) (s : ByteArray) (f : Bool) (w : World) (hr : RdB w gr s f) (hc : CmB w gc K N) (hb : Blk w gb #[.int .i64 k] 3) (hne : gr ≠ gc) :
    Calls Tryd.prog 81 #[.pointer (some ⟨gr, 0, none⟩), .pointer (some ⟨gc, 0, none⟩), .pointer (some ⟨gb, 0, none⟩)] w fun e w' => (∃ v, e = .returned v) ∧ RdB w' gr s f ∧ CmB w' gc k N ∧ Two gr gc w w' := by
  have c0 : w.cell? ⟨gc, 0, none⟩ = some (.int .i64 K) := hc.cell 0
  have f0 := hc.fz 0
  have b0 : w.cell? ⟨gb, 0, none⟩ = some (.int .i64 k) := hb.cell 0
  have HP := hide (And.intro (hr.other (j := 0) (g' := gc) hne (.int .i64 k)) (And.intro (hc.kind k) ((Two.refl gr gc w).set2 (j := 0) (.int .i64 k))))
  clear hr hc hb
  go_enter Tryd.func81, Tryd.ntmps81
  go_wp2
  go_end0
  exact ⟨⟨_, rfl⟩, HP.out.1, HP.out.2.1, HP.out.2.2⟩
/-- What a verb with a number leaves. -/
def NumDone (gr gc : Nat) (k : Int) (s : ByteArray) (f : Bool) (w w' : World) : Prop := ∃ (n : Nat) (ok : Bool), RdIs (pcL (blB s).data.toList) 1 4294967295 n ok ∧ RdB w' gr (bhB (blB s)) ((f || !blOk s) || !ok) ∧ CmB w' gc k (n : Int) ∧ Two gr gc w w'
theorem bl_len (s : ByteArray) : (blB s).size ≤ s.size := by
  show (Lib.trimPrefix s.data.toList [32]).toArray.size ≤ s.data.toList.length
  rw [List.size_toArray]
  unfold Lib.trimPrefix
  split <;> simp
theorem num1_any (gr gc gb : Nat) (k K N : Int) (s : ByteArray) (f : Bool) (w : World) (hs : s.size ≤ 1048576) (hr : RdB w gr s f) (hc : CmB w gc K N) (hb : Blk w gb #[.int .i64 k] 3) (hne : gr ≠ gc) (hE : ∀ W, Two gr gc w W → Env W) :
    Calls Tryd.prog 82 #[.pointer (some ⟨gr, 0, none⟩), .pointer (some ⟨gc, 0, none⟩), .pointer (some ⟨gb, 0, none⟩)] w fun e w' => (∃ v, e = .returned v) ∧ NumDone gr gc k s f w w' := by
  have c0 : w.cell? ⟨gc, 0, none⟩ = some (.int .i64 K) := hc.cell 0
  have f0 := hc.fz 0
  have b0 : w.cell? ⟨gb, 0, none⟩ = some (.int .i64 k) := hb.cell 0
  have hbl := bl_len s
  have H1 := hide (hr.other (j := 0) (g' := gc) hne (.int .i64 k))
  have C1 := hide (hc.kind k)
  have T1 := hide ((Two.refl gr gc w).set2 (j := 0) (.int .i64 k))
  have HE := hide hE
  clear hr hc hb hE
  go_enter Tryd.func82, Tryd.ntmps82
  go_wp2_with fail
  generalize w.setCell ⟨gc, 0, none⟩ (.int .i64 k) = w1 at H1 C1 T1 ⊢
  refine (blank_any gr gr s f w1 H1.out).mono ?_
  rintro e w2 ⟨⟨v2, rfl⟩, h2, t2⟩
  have H2 := hide h2
  have t2' : Two gr gc w1 w2 := ⟨t2.os, t2.tape, t2.output, t2.size, fun k hk h1 _ => t2.block k hk h1 h1⟩
  have C2 := hide (show CmB w2 gc k N from (t2.block gc C1.out.lt (Ne.symm hne) (Ne.symm hne)).trans C1.out)
  have T2 := hide (T1.out.trans t2')
  clear h2 t2 t2' c0 f0 b0
  go_wp2_with fail
  refine (number_any gr gr (blB s) _ w2 (by omega) H2.out (HE.out w2 T2.out) (fun W h => HE.out W (T2.out.trans ⟨h.os, h.tape, h.output, h.size, fun k hk h1 _ => h.block k hk h1 h1⟩))).mono ?_
  rintro e w3 ⟨n, ok, rfl, hN, h3, t3⟩
  have t3' : Two gr gc w2 w3 := ⟨t3.os, t3.tape, t3.output, t3.size, fun k hk h1 _ => t3.block k hk h1 h1⟩
  have c3 : CmB w3 gc k N := (t3.block gc C2.out.lt (Ne.symm hne) (Ne.symm hne)).trans C2.out
  have HN := hide hN
  have d2 : w3.cell? ⟨gc, 2, none⟩ = some (.int .u32 N) := c3.cell 2
  have f2 := c3.fz 2
  have H4 := hide (h3.other (j := 2) (g' := gc) hne (.int .u32 (n : Int)))
  have C4 := hide (c3.num (n : Int))
  have T4 := hide ((T2.out.trans t3').set2 (j := 2) (.int .u32 (n : Int)))
  clear h3 t3 t3' c3 hN
  go_wp2
  go_end0
  exact ⟨⟨_, rfl⟩, n, ok, HN.out, H4.out, C4.out, T4.out⟩
theorem noa1_any (gr gc gb : Nat) (k K N : Int) (s : ByteArray) (f : Bool) (w : World) (hs : s.size ≤ 1048576) (hr : RdB w gr s f) (hc : CmB w gc K N) (hb : Blk w gb #[.int .i64 k] 3) (hne : gr ≠ gc) (hgb : gb ≠ gr ∧ gb ≠ gc) (hE : ∀ W, Two gr gc w W → Env W) :
    Calls Tryd.prog 85 #[.pointer (some ⟨gr, 0, none⟩), .pointer (some ⟨gc, 0, none⟩), .pointer (some ⟨gb, 0, none⟩)] w fun e w' => (∃ v, e = .returned v) ∧ ((s.data.toList = [] ∧ RdB w' gr s f ∧ CmB w' gc k N ∧ Two gr gc w w') ∨ (s.data.toList ≠ [] ∧ NumDone gr gc k s f w w')) := by
  have c0 : w.cell? ⟨gc, 0, none⟩ = some (.int .i64 K) := hc.cell 0
  have f0 := hc.fz 0
  have b0 : w.cell? ⟨gb, 0, none⟩ = some (.int .i64 k) := hb.cell 0
  have h1 := hr.other (j := 0) (g' := gc) hne (.int .i64 k)
  have r0 : (w.setCell ⟨gc, 0, none⟩ (.int .i64 k)).cell? ⟨gr, 0, none⟩ = some (.string s) := h1.cell 0
  have g1 := hb.other (j := 0) (g' := gc) hgb.2 (.int .i64 k)
  have g0 : (w.setCell ⟨gc, 0, none⟩ (.int .i64 k)).cell? ⟨gb, 0, none⟩ = some (.int .i64 k) := g1.cell 0
  have H1 := hide h1
  have C1 := hide (hc.kind k)
  have T1 := hide ((Two.refl gr gc w).set2 (j := 0) (.int .i64 k))
  have HE := hide hE
  clear hr hc hb hE h1 g1
  by_cases hz : s.data.toList = []
  · have hz2 : s.toList.isEmpty = true := by rw [ByteArray.toList_eq, hz]; rfl
    have HZ := hide hz
    clear hz
    go_enter Tryd.func85, Tryd.ntmps85
    go_wp2
    go_end0
    exact ⟨⟨_, rfl⟩, .inl ⟨HZ.out, H1.out, C1.out, T1.out⟩⟩
  · have hz2 : s.toList.isEmpty = false := by rw [ByteArray.toList_eq]; simpa using hz
    have HZ := hide hz
    clear hz
    go_enter Tryd.func85, Tryd.ntmps85
    go_wp2_with fail
    refine (numbered_any k _).mono ?_
    rintro e w2 ⟨rfl, hw2⟩
    have hb2 : Below (w.setCell ⟨gc, 0, none⟩ (.int .i64 k)).heap.size (w.setCell ⟨gc, 0, none⟩ (.int .i64 k)) w2 := by rw [hw2]; exact (Below.refl _ _).alloc (Nat.le_refl _) _
    have B2 := hide (show Blk w2 (w.setCell ⟨gc, 0, none⟩ (.int .i64 k)).heap.size #[.int .i64 k] 3 by rw [hw2]; exact blk_new _ _ _)
    generalize w.setCell ⟨gc, 0, none⟩ (.int .i64 k) = w1 at H1 C1 T1 hb2 B2 r0 g0 ⊢
    have H2 := hide (H1.out.below hb2 H1.out.lt)
    have C2 := hide (C1.out.below hb2 C1.out.lt)
    have T2 := hide (T1.out.trans (Two.of_below hb2))
    clear hw2 hb2 c0 f0 b0 r0 g0
    unfold vNum
    go_wp2_with fail
    refine (num1_any gr gc w1.heap.size k k N s f w2 hs H2.out C2.out B2.out hne (fun W h => HE.out W (T2.out.trans h))).mono ?_
    rintro e w3 ⟨⟨v3, rfl⟩, n, ok, hN, h3, c3, t3⟩
    have HD := hide (show NumDone gr gc k s f w w3 from ⟨n, ok, hN, h3, c3, T2.out.trans t3⟩)
    clear hN h3 c3 t3
    go_wp2
    go_end0
    exact ⟨⟨_, rfl⟩, .inr ⟨HZ.out, HD.out⟩⟩
end Go.Proofs.YtledlicandlekaaDoor
