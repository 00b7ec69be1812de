import Derived.Test.YtknnpgffdbkfnaaDoorDrawMath
import Derived.Test.YtknnpgffdbkfnaaDoorSmall
import Derived.Test.YtknnpgffdbkfnaaDoorLists
import Derived.Lib.Builder
namespace Go.Proofs.YtknnpgffdbkfnaaDoor
open Go.RowKit
/-- The reader over 'code' at place i (it stays at the code's end once there). -/
def Rd (w : World) (p : Nat) (v : Value) (code : List Nat) (i : Nat) : Prop := w.heap[p]? = some (.cells #[v, .int .i64 ((min i code.length : Nat) : Int)] 55 (0, 0))
theorem Rd.c0 {w : World} {p i : Nat} {v : Value} {code : List Nat} (h : Rd w p v code i) : w.cell? ⟨p, 0, none⟩ = some v := by rw [cell_of_row w p 0 _ _ (0, 0) h]; rfl
theorem Rd.c1 {w : World} {p i : Nat} {v : Value} {code : List Nat} (h : Rd w p v code i) : w.cell? ⟨p, 1, none⟩ = some (.int .i64 ((min i code.length : Nat) : Int)) := by rw [cell_of_row w p 1 _ _ (0, 0) h]; rfl
theorem Rd.fz {w : World} {p i : Nat} {v : Value} {code : List Nat} (h : Rd w p v code i) (j : Nat) : w.frozen? ⟨p, j, none⟩ = false := frozen_of_row w p j _ _ h
theorem Rd.lt {w : World} {p i : Nat} {v : Value} {code : List Nat} (h : Rd w p v code i) : p < w.heap.size := lt_of_block h
theorem Rd.below {w w' : World} {B p i : Nat} {v : Value} {code : List Nat} (h : Rd w p v code i) (hb : Below B w w') (hp : p < B) : Rd w' p v code i := (hb.block p hp).trans h
theorem Rd.grown {w w' : World} {p i : Nat} {v : Value} {code : List Nat} {row : Option Nat} (h : Rd w p v code i) (hg : w.grownBy w' row) (hne : some p ≠ row) : Rd w' p v code i := (hg.block p h.lt hne).trans h
theorem Rd.step {w : World} {p i : Nat} {v : Value} {code : List Nat} (h : Rd w p v code i) (hi : i < code.length) : Rd (w.setCell ⟨p, 1, none⟩ (.int .i64 ((i : Int) + 1))) p v code (i + 1) := by
  have h2 := heap_setCell_same w p 1 _ _ (.int .i64 ((i : Int) + 1)) h
  unfold Rd
  rw [h2]
  have e : ((min (i + 1) code.length : Nat) : Int) = (i : Int) + 1 := by omega
  rw [e]
  rfl
theorem grown_setCell (w : World) (p j : Nat) (u : Value) : w.grownBy (w.setCell ⟨p, j, none⟩ u) (some p) :=
  ⟨rfl, rfl, rfl, by simp, fun k _ hk => heap_setCell_other w ⟨p, j, none⟩ k u (fun e => hk (by simp [e]))⟩
theorem grown_drew {w w' : World} {row : Option Nat} (h : w.grownBy w' row) (n : Nat) : w.grownBy (w'.drewN n) row := ⟨h.os, h.tape, h.output, h.size, h.block⟩
theorem grown_drew0 {w w' : World} {row : Option Nat} {n : Nat} (h : (w.drewN n).grownBy w' row) : w.grownBy w' row := ⟨h.os, h.tape, h.output, h.size, h.block⟩
theorem next_any (p : Nat) (a : Option Addr) (cap : Nat) (code : List Nat) (i : Nat) (w : World) (hl : code.length ≤ 1048576) (hr : RowAt w a code) (hb : ∀ x ∈ code, x < 256) (hrd : Rd w p (.slice a code.length cap) code i) :
    Calls Tryd.prog 53 #[.pointer (some ⟨p, 0, none⟩)] w fun e w' => e = .returned (.int .i64 (nx code i : Int)) ∧ Rd w' p (.slice a code.length cap) code (i + 1) ∧ w.grownBy w' (some p) ∧ w'.heap.size = w.heap.size := by
  have c0 := hrd.c0
  have c1 := hrd.c1
  have f1 := hrd.fz 1
  by_cases hi : i < code.length
  · obtain ⟨b, off, rfl, hc⟩ := hr (by omega)
    have hck := hc i hi
    have hm : min i code.length = i := by omega
    rw [hm] at c1
    have hst := hrd.step hi
    have hnx : nx code i = code[i] := by simp [nx, hi]
    have HN := hide hnx
    have hx256 : code[i] < 256 := hb _ (List.getElem_mem hi)
    have HS := hide hst
    have hix : (i : Int) < (code.length : Int) := by omega
    have hdec : decide ((code.length : Int) ≤ (i : Int)) = false := by simp; omega
    clear hm hnx hst hc hr hrd
    go_enter Tryd.func53, Tryd.ntmps53
    go_wp2
    go_quiet (fail)
    go_wp2
    go_quiet (fail)
    go_wp2
    go_ret
    exact ⟨ret_int (by rw [unhide HN]), unhide HS, grown_drew0 (grown_setCell _ _ _ _), by simp⟩
  · have hm : min i code.length = code.length := by omega
    rw [hm] at c1
    go_enter Tryd.func53, Tryd.ntmps53
    go_wp2
    go_quiet (fail)
    go_wp2
    go_ret
    refine ⟨ret_int (by simp [nx, List.getElem?_eq_none (Nat.le_of_not_lt hi)]), ?_, grown_drew (grown_refl _ _) _, rfl⟩
    have e : min (i + 1) code.length = min i code.length := by omega
    have h2 : Rd w p (.slice a code.length cap) code (i + 1) := by unfold Rd; rw [e]; exact hrd
    exact h2
theorem grown_new {w wr w4 : World} {r r' : Option Nat} (h : w.grownBy wr r) (k : wr.grownBy w4 r') (hr : ∀ b, r' = some b → w.heap.size ≤ b) : w.grownBy w4 r :=
  ⟨k.os.trans h.os, k.tape.trans h.tape, k.output.trans h.output, Nat.le_trans h.size k.size, fun i hi ho => (k.block i (Nat.lt_of_lt_of_le hi h.size) (fun e => by have := hr i e.symm; omega)).trans (h.block i hi ho)⟩
theorem own_ne {w : World} {B p : Nat} {v : Value} {l : List Nat} (h : OwnB w B v l) (hp : p < B) : v.ownBlock = none ∨ v.ownBlock ≠ some p := .inr fun e => by have := (World.ownsRow.lt h p e).1; omega
theorem own_ne' {w : World} {B p : Nat} {v : Value} {l : List Nat} (h : OwnB w B v l) (hp : p < B) : some p ≠ v.ownBlock := fun e => by have := (World.ownsRow.lt h p e.symm).1; omega
end Go.Proofs.YtknnpgffdbkfnaaDoor
