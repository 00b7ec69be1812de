import Derived.Test.YtledlicandlekabInOrder2
import Derived.Test.YtledlicandlekabSpecRep
namespace Go.Proofs.Ytledlicandlekab
open Go.RowKit Go.Maps
def kS (s : ByteArray) : Lit := .string s.data.toList
def kN (n : Int) : Lit := .int .i64 n
theorem lawStr : Keyed Try.prog 9 := string_keyed Try.underlying9
theorem zeroInt (w : World) : (zeroValue 3).run Try.prog w = .ok (.int .i64 0) w := by kernel_rfl
theorem keyS (s : ByteArray) (h : s.size ≤ maxLen) : keyOf Try.prog 9 (.string s) = some (kS s) := by
  rw [keyOf_string Try.underlying9]
  simp [mapKey, Try.underlying9, h, kS]
theorem keyN (n : Int) (h : (Lit.int .i64 n).wf = true) : keyOf Try.prog 3 (.int .i64 n) = some (kN n) := keyOf_int_mk Try.underlying3 h
abbrev DU := DataW Unit
/-- A listing: its two maps, in blocks of their own. -/
structure Lst (w : World) (b1 b2 n : Nat) (D1 D2 : DU) : Prop where
  o1 : w.ownsMap Try.prog 9 (plainElem Try.prog 3) b1 n D1
  o2 : w.ownsMap Try.prog 3 unitElem b2 n D2
  ne : b1 ≠ b2
def lstV (b1 b2 : Nat) : Value := .agg #[.map (some b1), .map (some b2)]
theorem Lst.below {B : Nat} {w w' : World} {b1 b2 n : Nat} {D1 D2 : DU} (h : Lst w b1 b2 n D1 D2) (hb : Below B w w') (h1 : b1 < B) (h2 : b2 < B) : Lst w' b1 b2 n D1 D2 := ⟨ownsMap_below h.o1 hb h1, ownsMap_below h.o2 hb h2, h.ne⟩
/-- Nothing but two blocks may have changed. -/
structure Off (b1 b2 : Nat) (w w' : World) : Prop where
  os : w'.os = w.os
  tape : w'.tape = w.tape
  output : w'.output = w.output
  size : w.heap.size ≤ w'.heap.size
  block : ∀ k, k < w.heap.size → k ≠ b1 → k ≠ b2 → w'.heap[k]? = w.heap[k]?
theorem Off.trans {b1 b2 : Nat} {a b c : World} (h : Off b1 b2 a b) (k : Off b1 b2 b c) : Off b1 b2 a c :=
  ⟨k.os.trans h.os, k.tape.trans h.tape, k.output.trans h.output, Nat.le_trans h.size k.size, fun j hj h1 h2 => (k.block j (Nat.lt_of_lt_of_le hj h.size) h1 h2).trans (h.block j hj h1 h2)⟩
theorem Off.of_below {b1 b2 : Nat} {w w' : World} (h : Below w.heap.size w w') : Off b1 b2 w w' := ⟨h.os, h.tape, h.output, h.size, fun k hk _ _ => h.block k hk⟩
theorem Off.of_grown {b1 b2 b : Nat} {w w' : World} (h : w.grownBy w' (some b)) (hb : b = b1 ∨ b = b2) : Off b1 b2 w w' :=
  ⟨h.os, h.tape, h.output, h.size, fun k hk h1 h2 => h.block k hk (fun e => by simp only [Option.some.injEq] at e; rcases hb with rfl | rfl <;> omega)⟩
theorem Off.below {b1 b2 B : Nat} {w w' : World} (h : Off b1 b2 w w') (h1 : B ≤ b1) (h2 : B ≤ b2) (hB : B ≤ w.heap.size) : Below B w w' :=
  ⟨h.os, h.tape, h.output, h.size, fun k hk => h.block k (by omega) (by omega) (by omega)⟩
theorem Laid.off {b1 b2 g : Nat} {w w' : World} {cs : Array Value} {t : TypeId} (h : Laid w g cs t) (ho : Off b1 b2 w w') (h1 : g ≠ b1) (h2 : g ≠ b2) : Laid w' g cs t := (ho.block g h.lt h1 h2).trans h
/-- What drop leaves. -/
def DropPost (w : World) (b1 b2 n : Nat) (D1 D2 : DU) (s : ByteArray) (e : Ending) (w' : World) : Prop := ∃ v, e = .returned v ∧ ∃ D1' D2', Lst w' b1 b2 n D1' D2' ∧ Off b1 b2 w w' ∧
  ((Maps.has D1 (kS s) = false ∧ D1' = D1 ∧ D2' = D2) ∨ (Maps.has D1 (kS s) = true ∧ ∃ c : Int, D1.atKey (kS s) (.lit (.int .i64 0)) = .lit (.int .i64 c) ∧ D1' = D1.del (kS s) ∧ D2' = D2.del (kN c)))
set_option maxRecDepth 20000 in
theorem drop_any (b1 b2 n : Nat) (D1 D2 : DU) (s : ByteArray) (w : World) (hs : s.size ≤ 1048576) (hL : Lst w b1 b2 n D1 D2) :
    Calls Try.prog 75 #[lstV b1 b2, .string s] w (DropPost w b1 b2 n D1 D2 s) := by
  have hk := keyS s (by unfold maxLen; omega)
  have hA := (Below.refl w.heap.size w).alloc (Nat.le_refl _) (.cells #[.map (some b1), .map (some b2)] 80)
  have L0 := Laid.new w #[.map (some b1), .map (some b2)] 80
  have hLA := hL.below hA hL.o1.lt hL.o2.lt
  unfold lstV
  have HA := hide hA
  have HLA := hide hLA
  have HL := hide hL
  have HL0 := hide L0
  clear hA hLA hL L0
  have hb1 := HL.out.o1.lt
  have hb2 := HL.out.o2.lt
  cases hh : Maps.has D1 (kS s) with
  | false =>
    go_enter Try.func75, Try.ntmps75
    go_wp2_with (at_lookup; refine wpList_lookup_own_ok_int _ rfl _ _ 77 rfl 9 3 .i64 lawStr Try.underlying77 Try.underlying3 (zeroInt _) b1 n D1 rfl HLA.out.o1 _ _ rfl hk ?_; intro c hat hwc)
    go_end0
    exact ⟨_, rfl, D1, D2, HLA.out, Off.of_below HA.out, .inl ⟨hh, rfl, rfl⟩⟩
  | true =>
    have hmv : ∀ w3 : World, (w.alloc (.cells #[.map (some b1), .map (some b2)] 80)).mapTurned w3 b2 → w3.cell? ⟨w.heap.size, 0, none⟩ = some (.map (some b1)) := fun w3 ht => by
      have h : Laid w3 w.heap.size #[.map (some b1), .map (some b2)] 80 := (ht.grown.block w.heap.size HL0.out.lt (fun e => by simp at e; omega)).trans HL0.out
      exact h.cell 0
    have HMV := hide hmv
    have HH := hide hh
    clear hmv
    go_enter Try.func75, Try.ntmps75
    go_wp2_with (first
      | (at_lookup; refine wpList_lookup_own_ok_int _ rfl _ _ 77 rfl 9 3 .i64 lawStr Try.underlying77 Try.underlying3 (zeroInt _) b1 n D1 rfl HLA.out.o1 _ _ rfl hk ?_; intro c hat hwc; have HAT := hide hat; have hkc := keyN c hwc; clear hat)
      | (at_delete; refine wpList_delete_own _ rfl _ _ 78 3 rfl 113 lawInt Try.underlying78 unitElem b2 n D2 rfl HLA.out.o2 _ _ rfl hkc ?_; intro w3 ho3 ht3; have HO3 := hide ho3; have HT3 := hide ht3; have q0 := HMV.out w3 ht3; have HP3 := hide (HLA.out.o1.kept ht3.grown (fun e => HL.out.ne (by simpa using e))); clear ho3 ht3)
      | (at_delete; refine wpList_delete_own _ rfl _ _ 77 9 rfl 3 lawStr Try.underlying77 (plainElem Try.prog 3) b1 n D1 rfl HP3.out _ _ rfl hk ?_; intro w4 ho4 ht4; have HO4 := hide ho4; have HT4 := hide ht4; clear ho4 ht4))
    go_end0
    refine ⟨_, rfl, _, _, ⟨HO4.out, HO3.out.kept HT4.out.grown (fun e => HL.out.ne (by simpa using e.symm)), HL.out.ne⟩, ?_, .inr ⟨HH.out, c, HAT.out, rfl, rfl⟩⟩
    exact ((Off.of_below HA.out).trans (Off.of_grown HT3.out.grown (.inr rfl))).trans (Off.of_grown HT4.out.grown (.inl rfl))
end Go.Proofs.Ytledlicandlekab
