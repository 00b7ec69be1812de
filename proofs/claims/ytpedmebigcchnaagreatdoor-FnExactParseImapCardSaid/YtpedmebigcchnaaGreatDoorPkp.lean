import Derived.Test.YtpedmebigcchnaaGreatDoorPke
import Derived.Test.YtpedmebigcchnaaGreatDoorPkh
import Derived.Test.YtpedmebigcchnaaGreatDoorPkg
import Derived.Test.YtpedmebigcchnaaGreatDoorPkm
import Derived.Test.YtpedmebigcchnaaGreatDoorPkn
namespace Go.Proofs.YtpedmebigcchnaaGreatDoor
open Go.RowKit
/-- What l5Num answers. -/
def N5Is (t : List UInt8) (lo hi : Nat) (n : Nat) (ok : Bool) : Prop := (ok = true ∧ t = Lib.decDigits n ∧ lo ≤ n ∧ n ≤ hi) ∨ (ok = false ∧ ∀ m, lo ≤ m → m ≤ hi → t ≠ Lib.decDigits m)
def N5Post (s : ByteArray) (lo hi : Nat) (w : World) (e : Ending) (w' : World) : Prop := ∃ (n : Nat) (ok : Bool), e = .returned (.tuple #[.int .i64 (n : Int), .bool ok]) ∧ N5Is s.data.toList lo hi n ok ∧ Below w.heap.size w w'
set_option maxRecDepth 20000 in
theorem l5Num_any (s : ByteArray) (lo hi : Nat) (w : World) (hs : s.size ≤ 1048576) (hhi : hi < 10000000000000) :
    Calls Tryz.prog 56 #[.string s, .int .i64 (lo : Int), .int .i64 (hi : Int)] w (N5Post s lo hi w) := by
  go_enter Tryz.func56, Tryz.ntmps56
  go_wp2_with fail
  refine (l4Number_any s w hs).mono ?_
  rintro e w1 ⟨n, ok, rfl, hN, hb⟩
  have HB := hide hb
  clear hb
  cases ok with
  | false =>
    have HN := hide (show ∀ m, lo ≤ m → m ≤ hi → s.data.toList ≠ Lib.decDigits m from fun m _ h2 => by
      rcases hN with ⟨h, _⟩ | ⟨_, h⟩
      · cases h
      · exact h m (by omega))
    clear hN
    go_wp2
    go_ret2
    exact ⟨n, false, rfl, Or.inr ⟨rfl, HN.out⟩, HB.out⟩
  | true =>
    have hN2 : s.data.toList = Lib.decDigits n := by
      rcases hN with ⟨_, h, _⟩ | ⟨h, _⟩
      · exact h
      · cases h
    have HN := hide hN2
    clear hN hN2
    by_cases h1 : lo ≤ n
    · have h1' : (lo : Int) ≤ (n : Int) := by omega
      by_cases h2 : n ≤ hi
      · have h2' : (n : Int) ≤ (hi : Int) := by omega
        go_wp2
        go_ret2
        exact ⟨n, true, rfl, Or.inl ⟨rfl, HN.out, h1, h2⟩, HB.out⟩
      · have h2' : ¬ (n : Int) ≤ (hi : Int) := by omega
        go_wp2
        go_ret2
        refine ⟨n, false, rfl, Or.inr ⟨rfl, fun m _ hm e => ?_⟩, HB.out⟩
        have := dec_inj (HN.out.symm.trans e)
        omega
    · have h1' : ¬ (lo : Int) ≤ (n : Int) := by omega
      go_wp2
      go_ret2
      refine ⟨n, false, rfl, Or.inr ⟨rfl, fun m hm _ e => ?_⟩, HB.out⟩
      have := dec_inj (HN.out.symm.trans e)
      omega
end Go.Proofs.YtpedmebigcchnaaGreatDoor
namespace Go.Proofs.YtpedmebigcchnaaGreatDoor
open Go.RowKit
/-- What both readers of a place answer. -/
def PlPost (s : ByteArray) (w : World) (e : Ending) (w' : World) : Prop := ∃ (n : Nat) (ok : Bool), e = .returned (.tuple #[.int .u32 (n : Int), .bool ok]) ∧ ((ok = true ∧ plOf s.data.toList = some n) ∨ (ok = false ∧ plOf s.data.toList = none)) ∧ Below w.heap.size w w'
set_option maxRecDepth 20000 in
theorem l6Place_any (s : ByteArray) (w : World) (hs : s.size ≤ 1048576) :
    Calls Tryz.prog 47 #[.string s] w (PlPost s w) := by
  by_cases h0 : s.data.toList = [42]
  · have h0' : (s.toList == [42]) = true := by rw [ByteArray.toList_eq, h0]; rfl
    go_enter Tryz.func47, Tryz.ntmps47
    go_wp2
    go_ret2
    exact ⟨0, true, rfl, Or.inl ⟨rfl, by rw [h0]; rfl⟩, Below.refl _ _⟩
  · have h0' : (s.toList == [42]) = false := by rw [ByteArray.toList_eq]; exact beq_eq_false_iff_ne.2 h0
    have H0 := hide h0
    clear h0
    go_enter Tryz.func47, Tryz.ntmps47
    go_wp2_with fail
    refine (l5Num_any s 1 4294967295 w hs (by omega)).mono ?_
    rintro e w1 ⟨n, ok, rfl, hN, hb⟩
    have HB := hide hb
    have HN := hide hN
    clear hb hN
    go_wp2
    go_ret2
    refine ⟨n % 4294967296, ok, by simp, ?_, HB.out⟩
    rcases HN.out with ⟨rfl, h1, h2, h3⟩ | ⟨rfl, h⟩
    · refine Or.inl ⟨rfl, ?_⟩
      rw [Nat.mod_eq_of_lt (by omega)]
      exact plOf_num h1 h2 h3
    · exact Or.inr ⟨rfl, plOf_none H0.out h⟩
end Go.Proofs.YtpedmebigcchnaaGreatDoor
namespace Go.Proofs.YtpedmebigcchnaaGreatDoor
open Go.RowKit
/-- How the loop of spec.ReadSet stands. -/
structure SSL (w wr : World) (lo2 g3 : Nat) (ws : List ByteArray) (v : Value) (ps : List (Int × Int)) : Prop where
  b0 : BlkQ wr w.heap.size (.bool false) (.slice none 0 0)
  b1 : BlkQ wr (w.heap.size + 1) (.bool true) v
  wd : ∀ j (h : j < ws.length), wr.cell? ⟨g3, j, none⟩ = some (.string ws[j])
  g1 : w.heap.size + 2 ≤ g3
  g2 : g3 < lo2
  ow : OwnP wr lo2 v ps
  bel : Below w.heap.size w wr
  sz : lo2 ≤ wr.heap.size
theorem SSL.below {w wr W : World} {lo2 g3 : Nat} {ws : List ByteArray} {v : Value} {ps : List (Int × Int)} (h : SSL w wr lo2 g3 ws v ps) (hb : Below wr.heap.size wr W) : SSL w W lo2 g3 ws v ps :=
  ⟨h.b0.below hb h.b0.lt, h.b1.below hb h.b1.lt, fun j hj => by rw [hb.cell (p := ⟨g3, j, none⟩) (lt_of_cell0 (h.wd j hj))]; exact h.wd j hj, h.g1, h.g2, h.ow.below hb (Nat.le_refl _), h.bel.trans (hb.mono h.bel.size), Nat.le_trans h.sz hb.size⟩
theorem SSL.push {w wr W : World} {lo2 g3 : Nat} {ws : List ByteArray} {v v' : Value} {ps : List (Int × Int)} {e : Int × Int} (h : SSL w wr lo2 g3 ws v ps) (ho : OwnP W lo2 v' (ps ++ [e])) (hg : wr.grownBy W v.ownBlock) :
    SSL w (W.setCell ⟨w.heap.size + 1, 1, none⟩ v') lo2 g3 ws v' (ps ++ [e]) := by
  have h1 := h.g1
  have h2 := h.g2
  have hlo : ∀ b, v.ownBlock = some b → lo2 ≤ b := fun b hb => (World.ownsRow.lt h.ow b hb).1
  have ne : ∀ b, b < lo2 → some b ≠ v.ownBlock := fun b hb e => by have := hlo b e.symm; omega
  refine ⟨(h.b0.grown hg (ne _ (by omega))).other (by omega) _, (h.b1.grown hg (ne _ (by omega))).set1 _, fun j hj => ?_, h1, h2, ho.other (by omega) _, ?_, ?_⟩
  · rw [World.cell?_setCell_other _ _ _ _ (by intro e; simp only [Addr.mk.injEq] at e; omega)]
    have hc := h.wd j hj
    have hb : W.heap[g3]? = wr.heap[g3]? := hg.block g3 (lt_of_cell0 hc) (ne _ h2)
    rw [← hc]
    unfold World.cell?
    simp only [hb]
  · exact (h.bel.grown hg (by have := h.bel.size; omega) (fun k e => by have := hlo k e; omega)).setCell (p := ⟨w.heap.size + 1, 1, none⟩) (by simp) _
  · have := hg.size; have := h.sz; simp; omega
theorem mapP_next {parts : List (List UInt8)} {k : Nat} (h : k < parts.length) : (parts.take (k + 1)).map (fun x => prI (prV x)) = (parts.take k).map (fun x => prI (prV x)) ++ [prI (prV parts[k])] := by
  rw [List.take_succ_eq_append_getElem h, List.map_append]; rfl
theorem allP_next {parts : List (List UInt8)} {k : Nat} (h : k < parts.length) (ha : ∀ x ∈ parts.take k, isPr x = true) (hk : isPr parts[k] = true) : ∀ x ∈ parts.take (k + 1), isPr x = true := by
  rw [List.take_succ_eq_append_getElem h]
  intro x hx
  rcases List.mem_append.1 hx with hx | hx
  · exact ha x hx
  · rw [List.mem_singleton] at hx; rw [hx]; exact hk
/-- What the ends of a part bring. -/
theorem prOf_ends {t : List UInt8} {es : List (List UInt8)} (he : es = splitOf 58 t) (h0 : 0 < es.length) : prOf t = if es.length ≤ 2 then both (plOf es[0]) (plOf (es[es.length - 1]'(by omega))) else none := by
  unfold prOf
  rw [← he]
  match es, h0 with
  | [a], _ => rfl
  | [a, b], _ => rfl
  | a :: b :: c :: r, _ => simp
end Go.Proofs.YtpedmebigcchnaaGreatDoor
