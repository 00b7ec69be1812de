import Derived.Test.YtledlicandlekabImplValid
import Derived.Test.YtledlicandlekabEntries
import Derived.Test.YtledlicandlekabDiskEq4
namespace Go.Proofs.Ytledlicandlekab
open Go.RowKit Go.Maps
theorem mem_sumE : ∀ {es : List (ByteArray × Int)} {e : ByteArray × Int}, e ∈ es → e.1.size ≤ sumE es
  | x :: r, e, h => by
    rcases List.mem_cons.1 h with rfl | h
    · simp only [sumE]; omega
    · have := mem_sumE h; simp only [sumE]; omega
theorem mem_sumO : ∀ {es : List (Int × ByteArray × ByteArray × Int)} {e : Int × ByteArray × ByteArray × Int}, e ∈ es → e.2.1.size + e.2.2.1.size ≤ sumO es
  | x :: r, e, h => by
    rcases List.mem_cons.1 h with rfl | h
    · simp only [sumO]; omega
    · have := mem_sumO h; simp only [sumO]; omega
/-- What the readers ask of a disk that came in. -/
structure InDisk (w : World) (v : Value) (D : MDisk) : Prop where
  at_ : DiskAt w v D
  n1 : D.nodes.length ≤ 9223372036854775807
  n2 : D.names.length ≤ 9223372036854775807
  n3 : D.kept.length ≤ 9223372036854775807
  n4 : D.pend.length ≤ 9223372036854775807
  h1 : ∀ e ∈ D.nodes, e.1.length ≤ 9223372036854775807
  h2 : ∀ e ∈ D.names, e.1.size ≤ 9223372036854775807
  h3 : ∀ e ∈ D.kept, e.1.size ≤ 9223372036854775807
  h4 : ∀ e ∈ D.pend, e.2.1.size ≤ 9223372036854775807 ∧ e.2.2.1.size ≤ 9223372036854775807
  wf : ∀ o ∈ D.pend, (Lit.int .i64 o.2.2.2).wf = true
def szOf (D : MDisk) : Nat := szD D.nodes D.names D.kept D.pend
theorem modest_of {D : MDisk} (h : szOf D ≤ 1048576) : Modest D := by
  unfold szOf szD at h
  exact ⟨by omega, by omega, by omega, by omega, by omega, fun e he => by have := mem_sumE he; omega, fun e he => by have := mem_sumE he; omega, fun o ho => by have := mem_sumO ho; omega⟩
theorem nodes_small {D : MDisk} (h : szOf D ≤ 1048576) : ∀ e ∈ D.nodes, e.1.length ≤ 1048576 := fun e he => by
  have := node_le D.nodes e he
  unfold szOf szD at h
  omega
theorem szDisk_v {w : World} {v : Value} {D : MDisk} (h : InDisk w v D) :
    Calls Try.prog 5 #[v, .int .i64 1048576] w fun e w' => e = .returned (.int .i64 (szRest 1048576 (szOf D))) ∧ Below w.heap.size w w' := by
  obtain ⟨⟨a1, c1, a2, c2, a3, c3, a4, c4, rfl, r1, r2, r3, r4⟩, n1, n2, n3, n4, h1, h2, h3, h4, wf⟩ := h
  exact szDisk_any a1 a2 a3 a4 c1 c2 c3 c4 D.quota D.nodes D.names D.kept D.pend w n1 n2 n3 n4 h1 h2 h3 h4 r1 r2 r3 r4
theorem specValid_v {w : World} {v : Value} {D : MDisk} (h : DiskAt w v D) (hM : Modest D) : Calls Try.prog 23 #[v] w (ValPost w (ValidD D)) := by
  obtain ⟨a1, c1, a2, c2, a3, c3, a4, c4, rfl, r1, r2, r3, r4⟩ := h
  exact specValid_any a1 a2 a3 a4 c1 c2 c3 c4 D w hM r1 r2 r3 r4
theorem implValid_v {w : World} {v : Value} {D : MDisk} (h : DiskAt w v D) (hM : Modest D) (hw : ∀ o ∈ D.pend, (Lit.int .i64 o.2.2.2).wf = true) : Calls Try.prog 29 #[v] w (ValPost w (ValidD D)) := by
  obtain ⟨a1, c1, a2, c2, a3, c3, a4, c4, rfl, r1, r2, r3, r4⟩ := h
  exact implValid_any entries_holds a1 a2 a3 a4 c1 c2 c3 c4 D w hM hw r1 r2 r3 r4
theorem InDisk.below {w w' : World} {v : Value} {D : MDisk} (h : InDisk w v D) (hb : Below w.heap.size w w') : InDisk w' v D := { h with at_ := h.at_.below hb }
theorem InDisk.shape {w : World} {v : Value} {D : MDisk} (h : InDisk w v D) : ∃ a1 m1 c1 a2 m2 c2 a3 m3 c3 a4 m4 c4 q, v = .agg #[.slice a1 m1 c1, .slice a2 m2 c2, .slice a3 m3 c3, .slice a4 m4 c4, .int .i64 q] := by
  obtain ⟨⟨a1, c1, a2, c2, a3, c3, a4, c4, rfl, _⟩, _⟩ := h
  exact ⟨_, _, _, _, _, _, _, _, _, _, _, _, _, rfl⟩
theorem DiskAt.shape {w : World} {v : Value} {D : MDisk} (h : DiskAt w v D) : ∃ a1 m1 c1 a2 m2 c2 a3 m3 c3 a4 m4 c4 q, v = .agg #[.slice a1 m1 c1, .slice a2 m2 c2, .slice a3 m3 c3, .slice a4 m4 c4, .int .i64 q] := by
  obtain ⟨a1, c1, a2, c2, a3, c3, a4, c4, rfl, _⟩ := h
  exact ⟨_, _, _, _, _, _, _, _, _, _, _, _, _, rfl⟩
end Go.Proofs.Ytledlicandlekab
