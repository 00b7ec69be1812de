import Derived.Test.YtpbpidfjecejcaaGreatDoorPkd
import Derived.Test.YtpbpidfjecejcaaGreatDoorPka
import Derived.Deep.AppendSrc
import Derived.Laws.Concat
import Derived.Lib.ItoaMem
import Derived.Lib.Walk
import Derived.BigCall
import Derived.BigGuard
namespace Go.Proofs.YtpbpidfjecejcaaGreatDoor
open Go.RowKit
set_option linter.unusedVariables false
theorem below_cellsM {B b : Nat} {a : World} (hb : B ≤ b) : ∀ (vs : List Value) (o : Nat) (w : World), Below B a w → Below B a (w.setCells b o vs)
  | [], _, _, h => h
  | v :: vs, o, w, h => below_cellsM hb vs (o + 1) (w.setCell ⟨b, o, none⟩ v) (h.setCell (p := ⟨b, o, none⟩) hb v)
theorem size_cellsM (b : Nat) : ∀ (vs : List Value) (o : Nat) (w : World), (w.setCells b o vs).heap.size = w.heap.size
  | [], _, _ => rfl
  | v :: vs, o, w => by
    have h := size_cellsM b vs (o + 1) (w.setCell ⟨b, o, none⟩ v)
    exact h.trans (by simp)
/-- Bytes of the call's own, in a block of which nothing is frozen, whatever its mark. -/
structure OwM (w : World) (base : Nat) (v : Value) (l : List Nat) (g cap : Nat) : Prop where
  val : v = .slice (some ⟨g, 0, none⟩) l.length cap
  lo : base ≤ g
  le : l.length ≤ cap
  cells : ∀ j (h : j < l.length), w.cell? ⟨g, j, none⟩ = some (bv l[j])
  room : ∀ j, j < cap → (w.cell? ⟨g, j, none⟩).isSome = true ∧ w.frozen? ⟨g, j, none⟩ = false
theorem OwM.row {w : World} {base : Nat} {v : Value} {l : List Nat} {g cap : Nat} (h : OwM w base v l g cap) : RowAt w (some ⟨g, 0, none⟩) l := fun _ => ⟨g, 0, rfl, fun i hi => by rw [Nat.zero_add]; exact h.cells i hi⟩
theorem OwM.below {w w' : World} {base : Nat} {v : Value} {l : List Nat} {g cap : Nat} (h : OwM w base v l g cap) (hg : g < w.heap.size) (hb : Below w.heap.size w w') : OwM w' base v l g cap :=
  ⟨h.val, h.lo, h.le, fun j hj => (hb.cell (p := ⟨g, j, none⟩) hg).trans (h.cells j hj), fun j hj => by
    rw [hb.cell (p := ⟨g, j, none⟩) hg, hb.frozen (p := ⟨g, j, none⟩) hg]
    exact h.room j hj⟩
theorem map_bv_get (l : List Nat) (j : Nat) (h : j < l.length) : (l.map bv)[j]? = some (bv l[j]) := by simp [h]
/-- What append of bytes gives, upon bytes of the call's own. -/
theorem run_append_m {w : World} {base : Nat} {v : Value} {l : List Nat} {g cap : Nat} (tx ty : TypeId) (x : Value) (news : List Nat) (hs : Src Tryz.prog 1 tx x news.length (news.map bv) w) (h : OwM w base v l g cap) (hg : g < w.heap.size) (hb : base ≤ w.heap.size) (hlen : l.length + news.length ≤ 1099511627776) :
    ∃ v' w' g' cap', (Builtin.append_ #[52, tx] ty #[v, x]).run Tryz.prog w = .ok v' w' ∧ OwM w' base v' (l ++ news) g' cap' ∧ g' < w'.heap.size ∧ Below base w w' := by
  obtain ⟨i0, hi, hz0, hz1, hz2⟩ := info_parts Tryz.info5
  have hv := h.val
  subst hv
  have hnl : (news.map bv).length = news.length := List.length_map _
  by_cases hr : l.length + news.length ≤ cap
  · have hrm := run_append_room_src (P := Tryz.prog) w 52 tx ty 5 i0 Tryz.underlying52 hi g 0 l.length cap x news.length (news.map bv) (by rw [hz1]; exact hs) hr
      (fun j hj => by rw [hz1, show 0 + l.length * 1 + j = l.length + j from by omega]; exact (h.room (l.length + j) (by omega)).1)
      (fun j hj => by rw [hz1, show 0 + l.length * 1 + j = l.length + j from by omega]; exact (h.room (l.length + j) (by omega)).2)
    rw [hz1, show 0 + l.length * 1 = l.length from by omega] at hrm
    refine ⟨_, _, g, cap, hrm, ⟨by rw [List.length_append], h.lo, by rw [List.length_append]; exact hr, fun j hj => ?_, fun j hj => ?_⟩, by rw [size_cellsM]; exact hg, below_cellsM h.lo _ _ _ (Below.refl _ _)⟩
    · rw [List.length_append] at hj
      by_cases h1 : j < l.length
      · rw [World.cell?_setCells_out g _ _ _ _ (fun _ _ => .inl h1), h.cells j h1, List.getElem_append_left h1]
      · have h2 := World.cell?_setCells_in g (news.map bv) l.length w (fun k hk => (h.room (l.length + k) (by omega)).1) (j - l.length) (by omega)
        rw [show l.length + (j - l.length) = j from by omega] at h2
        rw [h2, List.getElem_append_right (by omega)]
        simp
    · rw [World.frozen?_setCells]
      refine ⟨?_, (h.room j hj).2⟩
      by_cases h1 : j < l.length ∨ l.length + news.length ≤ j
      · rw [World.cell?_setCells_out g _ _ _ _ (fun _ _ => by rw [hnl]; exact h1)]
        exact (h.room j hj).1
      · have h2 := World.cell?_setCells_in g (news.map bv) l.length w (fun k hk => (h.room (l.length + k) (by omega)).1) (j - l.length) (by omega)
        rw [show l.length + (j - l.length) = j from by omega] at h2
        rw [h2]
        rfl
  · have hold : (Builtin.firstCells i0.size l.length (.slice (some ⟨g, 0, none⟩) l.length cap)).run Tryz.prog w.drew = .ok (l.map bv).toArray w.drew := by
      rw [hz1]
      exact run_firstCells_some w.drew 1 l.length ⟨g, 0, none⟩ l.length cap (l.map bv) (by simp) (fun j u hj => by
        rw [addr_add, Nat.zero_add]
        have hjl : j < l.length := by
          rcases Nat.lt_or_ge j l.length with h' | h'
          · exact h'
          · rw [List.getElem?_eq_none (by simpa using h')] at hj; cases hj
        rw [map_bv_get l j hjl] at hj
        rw [← hj]
        simpa using h.cells j hjl)
    have hgr := run_append_grow_src (P := Tryz.prog) w 52 tx ty 5 i0 (.int .u8 0) Tryz.underlying52 hi hz0 (some ⟨g, 0, none⟩) l.length cap (l.map bv) hold x news.length (news.map bv) (by rw [hz1]; exact hs) (by omega) (by omega) (growslice_fits (by omega) (by rw [hz2]; omega))
    have hge := grownCap_ge w (l.length + news.length) cap 5
    have hsz : ((l.map bv ++ news.map bv).toArray ++ Builtin.zeroCells (Value.int .u8 0).cells (grownCap w (l.length + news.length) cap 5 - (l.length + news.length))).size = grownCap w (l.length + news.length) cap 5 := by
      simp only [Array.size_append, List.size_toArray, List.length_append, List.length_map, size_zeroCells]
      simp only [show (Value.int .u8 0).cells.size = 1 from rfl]
      omega
    have hh : (w.drew.alloc (.cells ((l.map bv ++ news.map bv).toArray ++ Builtin.zeroCells (Value.int .u8 0).cells (grownCap w (l.length + news.length) cap 5 - (l.length + news.length))) 5)).heap[w.heap.size]? = _ := heap_alloc_new w.drew (.cells ((l.map bv ++ news.map bv).toArray ++ Builtin.zeroCells (Value.int .u8 0).cells (grownCap w (l.length + news.length) cap 5 - (l.length + news.length))) 5)
    refine ⟨_, _, w.heap.size, _, hgr, ⟨by rw [List.length_append], hb, by rw [List.length_append]; exact hge, fun j hj => ?_, fun j hj => ?_⟩, by simp, (Below.refl _ _).drew.alloc hb _⟩
    · rw [cell_of_row _ _ _ _ _ _ hh]
      rw [List.length_append] at hj
      rw [Array.getElem?_append_left (by simp; omega)]
      simp only [List.getElem?_toArray, ← List.map_append]
      rw [map_bv_get _ j (by rw [List.length_append]; exact hj)]
    · refine ⟨?_, by simp only [World.frozen?, hh]; simp⟩
      rw [cell_of_row _ _ _ _ _ _ hh, Array.getElem?_eq_getElem (by rw [hsz]; exact hj)]
      rfl
theorem wpList_append_m {ops : Array Oper} {rest : List Oper} {o : Oper} {act : Act} {Q : Exit → Act → World → Prop} (w : World) (hgd : o.guard = none) (s x : Operand) (tx : TypeId)
    (ho : o.op = .call { callee := .builtin .append, args := #[s, x], argTypes := #[52, tx] })
    (base : Nat) (v : Value) (l : List Nat) (g cap : Nat) (hs : act.eval s = v) (hown : OwM w base v l g cap) (hg : g < w.heap.size) (xv : Value) (news : List Nat) (hx : act.eval x = xv) (hsrc : Src Tryz.prog 1 tx xv news.length (news.map bv) w) (hb : base ≤ w.heap.size) (hlen : l.length + news.length ≤ 1099511627776)
    (h : ∀ v' w' g' cap', OwM w' base v' (l ++ news) g' cap' → g' < w'.heap.size → Below base w w' → wpList Tryz.prog ops Q rest (act.put o.dst v') w') : wpList Tryz.prog ops Q (o :: rest) act w := by
  refine wpList_plain hgd fun K hK => ?_
  obtain ⟨v', w', g', cap', hrun, r1, r2, r3⟩ := run_append_m tx o.type xv news hsrc hown hg hb hlen
  unfold Oper.wp
  simp [execOp, ho, resolve, invoke, builtin, hs, hx, hrun, Result.andThen]
  exact hK _ _ (h v' w' g' cap' r1 r2 r3)
theorem byteCells_nat (s : List Nat) (h : ∀ x ∈ s, x < 256) : byteCells (strB s) = s.map bv := by
  unfold byteCells strB bv
  simp only [List.map_map]
  apply List.map_congr_left
  intro x hx
  have := h x hx
  simp
  omega
theorem strB_size (l : List Nat) : (strB l).size = l.length := by simp [strB, ByteArray.size]
/-- A string as what is appended. -/
theorem src_str (l : List Nat) (h : ∀ x ∈ l, x < 256) (w : World) : Src Tryz.prog 1 9 (.string (strB l)) l.length (l.map bv) w := by
  have := Src.ofString (P := Tryz.prog) w Tryz.underlying9 (strB l)
  rw [strB_size, byteCells_nat l h] at this
  exact this
/-- Bytes that lie in memory as what is appended. -/
theorem src_row (a : Addr) (c : Nat) (l : List Nat) (w : World) (h : ∀ j (hj : j < l.length), w.cell? (a.add j) = some (bv l[j])) : Src Tryz.prog 1 52 (.slice (some a) l.length c) l.length (l.map bv) w :=
  Src.ofSlice w Tryz.underlying52 a l.length c (l.map bv) (by simp) (fun j u hj => by
    have hjl : j < l.length := by
      rcases Nat.lt_or_ge j l.length with h' | h'
      · exact h'
      · rw [List.getElem?_eq_none (by simpa using h')] at hj; cases hj
    rw [map_bv_get l j hjl] at hj
    rw [← hj]
    exact h j hjl) (fun u hu => by
    obtain ⟨x, _, rfl⟩ := List.mem_map.1 hu
    rfl)
end Go.Proofs.YtpbpidfjecejcaaGreatDoor
namespace Go.Proofs.YtpbpidfjecejcaaGreatDoor
open Go.RowKit
theorem row_one (w : World) (x : Nat) : RowAt (w.alloc (.cells #[.int .u8 (x : Int)] 5)) (some ⟨w.heap.size, 0, none⟩) [x] := fun _ => by
  refine ⟨w.heap.size, 0, rfl, fun i hi => ?_⟩
  simp at hi
  subst hi
  rw [cell_of_row _ _ _ _ 5 (0, 0) (heap_alloc_new w _)]
  rfl
theorem OwnB.alloc1 {w : World} {base : Nat} {v : Value} {l : List Nat} (h : OwnB w base v l) (o : Obj) : OwnB (w.alloc o) base v l := h.below ((Below.refl _ _).alloc (Nat.le_refl _) _) (Nat.le_refl _)
end Go.Proofs.YtpbpidfjecejcaaGreatDoor
namespace Go.Proofs.YtpbpidfjecejcaaGreatDoor
open Go.RowKit Go.Sort Go.Lib
/-- The decimal of u, as a string. -/
def decS (u : Nat) : ByteArray := ⟨(Lib.decDigits u).toArray⟩
/-- What l1Dec still has to write, m ahead of t. -/
def decT (m : Nat) (t : List UInt8) : List UInt8 := if m = 0 then t else Lib.decDigits m ++ t
theorem decT_step (m : Nat) (t : List UInt8) (h : 0 < m) : decT (m / 10) (UInt8.ofNat (48 + m % 10) :: t) = decT m t := by
  by_cases h10 : m < 10
  · have h1 : m / 10 = 0 := by omega
    have h2 : m % 10 = m := by omega
    unfold decT
    rw [h1, h2, if_pos rfl, if_neg (by omega), Lib.decDigits_one h10]
    rfl
  · unfold decT
    rw [if_neg (by omega), if_neg (by omega)]
    conv => rhs; rw [Lib.decDigits, dif_neg h10]
    simp
theorem nd20 (u : Nat) (h : u < 18446744073709551616) : Lib.nDigits u ≤ 20 := by
  by_cases h0 : 1 ≤ u
  · have := Lib.numDigits_eq u h0 h
    split at this <;> omega
  · rw [Lib.nDigits_small (by omega)]; omega
theorem decT_len (m : Nat) (t : List UInt8) : t.length ≤ (decT m t).length := by
  unfold decT
  split
  · exact Nat.le_refl _
  · simp
theorem tabIs_below {w w' : World} {name : String} {k : IntKind} {zs : List Int} (h : TabIs Tryz.prog w name k zs) (hb : Below w.heap.size w w') : TabIs Tryz.prog w' name k zs := by
  unfold TabIs World.var? at *
  cases hg : Tryz.prog.globalNamed name with
  | none => simp [hg] at h
  | some g =>
    simp only [hg, Option.bind_some] at h ⊢
    have hlt : g < w.heap.size := by
      rcases Nat.lt_or_ge g w.heap.size with h' | h'
      · exact h'
      · rw [Array.getElem?_eq_none h'] at h; simp at h
    rw [hb.block g hlt]
    exact h
theorem below_grown (w : World) (k : Nat) (os : Array Obj) : Below w.heap.size w (grow (w.drewN k) os) := by
  refine ⟨rfl, rfl, rfl, ?_, fun j hj => ?_⟩
  · show w.heap.size ≤ (w.heap ++ os).size
    simp
  · show (w.heap ++ os)[j]? = w.heap[j]?
    rw [Array.getElem?_append_left hj]
theorem mk_add (a b : List UInt8) : (⟨a.toArray⟩ : ByteArray) ++ (⟨b.toArray⟩ : ByteArray) = ⟨(a ++ b).toArray⟩ := Go.ByteArray.mk_append_mk a b
theorem strB_one (x : Nat) : strB [x] = ⟨[UInt8.ofNat x].toArray⟩ := rfl
theorem decS_zero : decS 0 = ⟨#[48]⟩ := by unfold decS; rw [Lib.decDigits_one (by omega)]; rfl
set_option maxRecDepth 20000 in
theorem l1Dec_any (n : Nat) (w : World) (hn : n < 9223372036854775808) :
    Calls Tryz.prog 23 #[.int .i64 (n : Int)] w fun e w' => e = .returned (.string (decS n)) ∧ Below w.heap.size w w' := by
  by_cases h0 : n = 0
  · subst h0
    go_enter Tryz.func23, Tryz.ntmps23
    go_wp2
    go_ret
    exact ⟨by rw [decS_zero]; rfl, Below.refl _ _⟩
  · have hz : ¬ (n : Int) = 0 := by omega
    go_enter Tryz.func23, Tryz.ntmps23
    go_wp2
    go_loopw [0, 3] (fun v s wr => ∃ (m : Nat) (t : List UInt8), v = .int .i64 (m : Int) ∧ s = .string ⟨t.toArray⟩ ∧ m ≤ n ∧ Hid (decT m t = Lib.decDigits n) ∧ Below w.heap.size w wr) (fun v _ _ => (RowKit.intOf v).toNat)
    case atStart => exact ⟨n, [], rfl, rfl, Nat.le_refl _, by show _ = _; unfold decT; rw [if_neg h0, List.append_nil], Below.refl _ _⟩
    case round =>
      obtain ⟨m, t, rfl, rfl, hm, HT, hw⟩ := hrel
      have HW := hide hw
      have hle : t.length ≤ 20 := by
        have h1 := decT_len m t
        rw [HT.out, Lib.decDigits_length] at h1
        have h2 := nd20 n (by omega)
        omega
      clear hw
      by_cases h1 : 0 < m
      · have HS := hide ((decT_step m t h1).trans HT.out)
        have hi : (0 : Int) < (m : Int) := by omega
        clear HT
        have hcv : (convert 52 9 (.slice (some ⟨wr.heap.size, 0, none⟩) 1 1)).run Tryz.prog (wr.alloc (.cells #[.int .u8 (48 + (m : Int) % 10)] 5)) = .ok (.string ⟨[UInt8.ofNat (48 + m % 10)].toArray⟩) (wr.alloc (.cells #[.int .u8 (48 + (m : Int) % 10)] 5)) := by
          have h := run_string_of _ _ 1 [48 + m % 10] (row_one wr (48 + m % 10))
          rw [strB_one] at h
          have e : (((48 + m % 10 : Nat)) : Int) = 48 + (m : Int) % 10 := by omega
          rw [e] at h
          exact h
        have hb2 := hide (HW.out.alloc HW.out.size (.cells #[.int .u8 (48 + (m : Int) % 10)] 5))
        have hadd : (Op.stringOp .add ⟨[UInt8.ofNat (48 + m % 10)].toArray⟩ ⟨t.toArray⟩).run Tryz.prog (wr.alloc (.cells #[.int .u8 (48 + (m : Int) % 10)] 5)) = .ok (.string ⟨(UInt8.ofNat (48 + m % 10) :: t).toArray⟩) (wr.alloc (.cells #[.int .u8 (48 + (m : Int) % 10)] 5)) :=
          run_string_add_lists _ [UInt8.ofNat (48 + m % 10)] t (by simp) (by omega)
        generalize UInt8.ofNat (48 + m % 10) = x at HS hcv hadd
        generalize [x].toArray = xs at hcv hadd
        go_wp2
        go_roundw
        case rel => exact ⟨m / 10, x :: t, by congr 1, rfl, by omega, HS, hb2.out⟩
        case measure => simp [RowKit.intOf]; omega
      · have hi : ¬ (0 : Int) < (m : Int) := by omega
        have hm0 : m = 0 := by omega
        subst hm0
        go_wp2
        go_ret
        refine ⟨?_, HW.out⟩
        have h := HT.out
        unfold decT at h
        rw [if_pos rfl] at h
        unfold decS
        rw [← h]
        rfl
end Go.Proofs.YtpbpidfjecejcaaGreatDoor
