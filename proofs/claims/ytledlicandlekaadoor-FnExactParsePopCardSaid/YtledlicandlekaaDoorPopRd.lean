import Derived.Test.YtledlicandlekaaDoorImplRd
import Derived.Test.YtledlicandlekaaDoorCaseU
import Derived.Test.YtledlicandlekaaDoorBytL
namespace Go.Proofs.YtledlicandlekaaDoor
open Go.RowKit
/-- Nothing but two blocks may have changed. -/
structure Two (b1 b2 : Nat) (w w' : World) : Prop where
  os : w'.os = w.os
  tape : w'.tape = w.tape
  output : w'.output = w.output
  size : w.heap.size ≤ w'.heap.size
  block : ∀ k, k < w.heap.size → k ≠ b1 → k ≠ b2 → w'.heap[k]? = w.heap[k]?
theorem Two.refl (b1 b2 : Nat) (w : World) : Two b1 b2 w w := ⟨rfl, rfl, rfl, Nat.le_refl _, fun _ _ _ _ => rfl⟩
theorem Two.trans {b1 b2 : Nat} {a b c : World} (h : Two b1 b2 a b) (k : Two b1 b2 b c) : Two b1 b2 a c :=
  ⟨k.os.trans h.os, k.tape.trans h.tape, k.output.trans h.output, Nat.le_trans h.size k.size, fun j hj h1 h2 => (k.block j (Nat.lt_of_lt_of_le hj h.size) h1 h2).trans (h.block j hj h1 h2)⟩
theorem Two.of_below {b1 b2 : Nat} {w w' : World} (h : Below w.heap.size w w') : Two b1 b2 w w' := ⟨h.os, h.tape, h.output, h.size, fun k hk _ _ => h.block k hk⟩
theorem Two.below {b1 b2 B : Nat} {w w' : World} (h : Two b1 b2 w w') (h1 : B ≤ b1) (h2 : B ≤ b2) (hB : B ≤ w.heap.size) : Below B w w' :=
  ⟨h.os, h.tape, h.output, h.size, fun k hk => h.block k (by omega) (by omega) (by omega)⟩
theorem Two.set1 {b1 b2 j : Nat} {w w' : World} (h : Two b1 b2 w w') (u : Value) : Two b1 b2 w (w'.setCell ⟨b1, j, none⟩ u) :=
  ⟨h.os, h.tape, h.output, by simpa using h.size, fun k hk h1 h2 => (heap_setCell_other w' ⟨b1, j, none⟩ k u (by simpa using h1)).trans (h.block k hk h1 h2)⟩
theorem Two.set2 {b1 b2 j : Nat} {w w' : World} (h : Two b1 b2 w w') (u : Value) : Two b1 b2 w (w'.setCell ⟨b2, j, none⟩ u) :=
  ⟨h.os, h.tape, h.output, by simpa using h.size, fun k hk h1 h2 => (heap_setCell_other w' ⟨b2, j, none⟩ k u (by simpa using h2)).trans (h.block k hk h1 h2)⟩
/-- A block that holds just these cells. -/
def Blk (w : World) (g : Nat) (cs : Array Value) (t : TypeId) : Prop := w.heap[g]? = some (.cells cs t (0, 0))
theorem Blk.lt {w : World} {g : Nat} {cs : Array Value} {t : TypeId} (h : Blk w g cs t) : g < w.heap.size := lt_of_block h
theorem Blk.cell {w : World} {g : Nat} {cs : Array Value} {t : TypeId} (h : Blk w g cs t) (j : Nat) : w.cell? ⟨g, j, none⟩ = cs[j]? := cell_of_row w g j _ _ (0, 0) h
theorem Blk.fz {w : World} {g : Nat} {cs : Array Value} {t : TypeId} (h : Blk w g cs t) (j : Nat) : w.frozen? ⟨g, j, none⟩ = false := by unfold Blk at h; simp [World.frozen?, h]
theorem Blk.set {w : World} {g : Nat} {cs : Array Value} {t : TypeId} (h : Blk w g cs t) (j : Nat) (u : Value) : Blk (w.setCell ⟨g, j, none⟩ u) g (cs.setIfInBounds j u) t := heap_setCell_same w g j _ _ u h
theorem Blk.other {w : World} {g g' j : Nat} {cs : Array Value} {t : TypeId} (h : Blk w g cs t) (hne : g ≠ g') (u : Value) : Blk (w.setCell ⟨g', j, none⟩ u) g cs t := (heap_setCell_other w ⟨g', j, none⟩ g u (by simpa using hne)).trans h
theorem Blk.below {w w' : World} {B g : Nat} {cs : Array Value} {t : TypeId} (h : Blk w g cs t) (hb : Below B w w') (hg : g < B) : Blk w' g cs t := (hb.block g hg).trans h
theorem Blk.two {b1 b2 g : Nat} {w w' : World} {cs : Array Value} {t : TypeId} (h : Blk w g cs t) (ho : Two b1 b2 w w') (h1 : g ≠ b1) (h2 : g ≠ b2) : Blk w' g cs t := (ho.block g h.lt h1 h2).trans h
theorem blk_new (w : World) (cs : Array Value) (t : TypeId) : Blk (w.alloc (.cells cs t)) w.heap.size cs t := heap_alloc_new w _
/-- The reader: what is left to read, and whether it has failed. -/
abbrev RdB (w : World) (g : Nat) (s : ByteArray) (f : Bool) : Prop := Blk w g #[.string s, .bool f] 59
def ptr (g : Nat) : Value := .pointer (some ⟨g, 0, none⟩)
theorem need_any (g gc : Nat) (s : ByteArray) (f good : Bool) (w : World) (hr : RdB w g s f) :
    Calls Tryd.prog 64 #[.pointer (some ⟨g, 0, none⟩), .bool good] w fun e w' => (∃ v, e = .returned v) ∧ RdB w' g s (f || !good) ∧ Two g gc w w' := by
  have c1 : w.cell? ⟨g, 1, none⟩ = some (.bool f) := hr.cell 1
  have f1 := hr.fz 1
  have HR := hide (fun b : Bool => hr.set 1 (.bool b))
  clear hr
  go_enter Tryd.func64, Tryd.ntmps64
  cases f <;> cases good
  all_goals
    go_wp2
    go_end0
    exact ⟨⟨_, rfl⟩, HR.out _, (Two.refl g gc w).set1 _⟩
/-- The piece ahead of the next blank, and what is behind it. -/
def pcL : List UInt8 → List UInt8
  | [] => []
  | x :: r => if x = 32 then [] else x :: pcL r
def bhL : List UInt8 → List UInt8
  | [] => []
  | x :: r => if x = 32 then x :: r else bhL r
theorem pc_bh : ∀ t : List UInt8, pcL t ++ bhL t = t
  | [] => rfl
  | x :: r => by
    rw [pcL, bhL]
    split
    · rfl
    · rw [List.cons_append, pc_bh r]
theorem pc_no : ∀ {t : List UInt8}, (32 : UInt8) ∉ t → pcL t = t ∧ bhL t = []
  | [], _ => ⟨rfl, rfl⟩
  | x :: r, h => by
    have h1 : x ≠ 32 := fun e => h (by rw [e]; exact List.mem_cons_self)
    obtain ⟨h2, h3⟩ := pc_no (t := r) (fun hm => h (List.mem_cons_of_mem _ hm))
    rw [pcL, bhL, if_neg h1, if_neg h1, h2, h3]
    exact ⟨rfl, rfl⟩
theorem pc_at {c : List UInt8} : ∀ {a : List UInt8}, (32 : UInt8) ∉ a → pcL (a ++ 32 :: c) = a ∧ bhL (a ++ 32 :: c) = 32 :: c
  | [], _ => ⟨rfl, rfl⟩
  | x :: r, h => by
    have h1 : x ≠ 32 := fun e => h (by rw [e]; exact List.mem_cons_self)
    obtain ⟨h2, h3⟩ := pc_at (c := c) (a := r) (fun hm => h (List.mem_cons_of_mem _ hm))
    rw [List.cons_append, pcL, bhL, if_neg h1, if_neg h1, h2, h3]
    exact ⟨rfl, rfl⟩
theorem cut_piece (t : List UInt8) : (Lib.cut t [32]).1 = pcL t := by
  by_cases hm : (32 : UInt8) ∈ t
  · obtain ⟨a, c, e, hn⟩ := List.eq_append_cons_of_mem hm
    subst e
    have hc := cut_first a c 32 [] hn
    rw [show a ++ ([32] ++ c) = a ++ 32 :: c from rfl] at hc
    rw [hc, (pc_at hn).1]
  · have h1 : (Lib.cut t [32]).2.2 = false := by
      cases e : (Lib.cut t [32]).2.2 with
      | false => rfl
      | true => exact absurd (by rw [cut_true e]; simp) hm
    have h2 : (Lib.cut t [32]).1 = t := by
      unfold Lib.cut at h1 ⊢
      split at h1
      · cases h1
      · next hi => rw [if_neg hi]
    rw [h2, (pc_no hm).1]
def pcB (s : ByteArray) : ByteArray := ⟨(pcL s.data.toList).toArray⟩
def bhB (s : ByteArray) : ByteArray := ⟨(bhL s.data.toList).toArray⟩
theorem pcB_sz (s : ByteArray) : (pcB s).size = (pcL s.data.toList).length := by
  show (pcL s.data.toList).toArray.size = _
  rw [List.size_toArray]
theorem bhB_sz (s : ByteArray) : (bhB s).size = (bhL s.data.toList).length := by
  show (bhL s.data.toList).toArray.size = _
  rw [List.size_toArray]
theorem pc_sum (s : ByteArray) : (pcL s.data.toList).length + (bhL s.data.toList).length = s.size := by
  have h := congrArg List.length (pc_bh s.data.toList)
  rw [List.length_append] at h
  exact h
theorem pc_len (s : ByteArray) : (pcB s).size ≤ s.size := by
  rw [pcB_sz]; have := pc_sum s; omega
theorem bh_len (s : ByteArray) : (bhB s).size ≤ s.size := by
  rw [bhB_sz]; have := pc_sum s; omega
theorem bh_ext (s : ByteArray) : s.extract (pcB s).size s.size = bhB s := by
  apply ByteArray.ext
  rw [ByteArray.data_extract]
  apply Array.toList_inj.1
  rw [Array.toList_extract, pcB_sz]
  show (s.data.toList.drop (pcL s.data.toList).length).take (s.size - _) = bhL s.data.toList
  have hd : s.data.toList.drop (pcL s.data.toList).length = bhL s.data.toList := by
    have h := pc_bh s.data.toList
    generalize pcL s.data.toList = a at h ⊢
    generalize bhL s.data.toList = b at h ⊢
    rw [← h, List.drop_left]
  rw [hd, List.take_of_length_le]
  have := pc_sum s
  omega
set_option maxRecDepth 20000 in
theorem piece_any (g gc : Nat) (s : ByteArray) (f : Bool) (w : World) (hs : s.size ≤ 1048576) (hr : RdB w g s f) (hE : Env w) :
    Calls Tryd.prog 69 #[.pointer (some ⟨g, 0, none⟩)] w fun e w' => e = .returned (.string (pcB s)) ∧ RdB w' g (bhB s) f ∧ Two g gc w w' := by
  have c0 : w.cell? ⟨g, 0, none⟩ = some (.string s) := hr.cell 0
  obtain ⟨m, hm⟩ := hE.max
  have HC := hide (Tryd.strings_Cut s ⟨#[32]⟩ m w (by omega) hm)
  rw [show Lib.cut s.data.toList (⟨#[32]⟩ : ByteArray).data.toList = Lib.cut s.data.toList [32] from rfl, show (⟨(Lib.cut s.data.toList [32]).1.toArray⟩ : ByteArray) = pcB s from by rw [cut_piece]; rfl] at HC
  generalize (⟨(Lib.cut s.data.toList [32]).2.1.toArray⟩ : ByteArray) = x at HC
  generalize (Lib.cut s.data.toList [32]).2.2 = y at HC
  have hpl := pc_len s
  have HBE := hide (bh_ext s)
  have HR := hide hr
  generalize pcB s = p at HC hpl HBE
  clear hm hr hE
  go_enter Tryd.func69, Tryd.ntmps69
  go_wp2_with fail
  refine HC.out.mono ?_
  rintro e w1 ⟨rfl, n, hw1⟩
  have hb1 : Below w.heap.size w w1 := by rw [hw1]; exact below_drewN (Below.refl _ _) n
  have hr1 := HR.out.below hb1 HR.out.lt
  have d0 : w1.cell? ⟨g, 0, none⟩ = some (.string s) := hr1.cell 0
  have f0 := hr1.fz 0
  have HR2 := hide (fun u : Value => hr1.set 0 u)
  have HT := hide (Two.of_below (b1 := g) (b2 := gc) hb1)
  clear hw1 hb1 hr1 HC HR c0
  have hpi : (p.size : Int) ≤ (s.size : Int) := by omega
  go_wp2
  go_ret
  rw [HBE.out]
  exact ⟨rfl, HR2.out _, HT.out.set1 _⟩
end Go.Proofs.YtledlicandlekaaDoor
