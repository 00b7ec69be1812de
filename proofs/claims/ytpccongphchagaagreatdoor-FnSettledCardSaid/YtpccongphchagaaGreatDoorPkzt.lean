import Derived.Test.YtpccongphchagaaGreatDoorPkzr
import Derived.Test.YtpccongphchagaaGreatDoorPkzs
import Derived.Test.YtpccongphchagaaGreatDoorPkzc
namespace Go.Proofs.YtpccongphchagaaGreatDoor
open Go.RowKit
set_option linter.unusedVariables false
theorem set_quota (C : MDisk) : (setOf C).quota = C.quota := rfl
theorem set_names (C : MDisk) : (setOf C).names.length = C.names.length := by
  show (outE C.names C.names.length).length = _
  simp [outE]
/-- The node of a name, in memory. -/
theorem node_at {w : World} {a : Option Addr} {C : MDisk} (h : NodeAt w a C.nodes) (hV : ValidD C) (m : Nat) (hm : m < C.names.length) :
    ∃ k b off ai ci, C.names[m].2 = ((k : Nat) : Int) ∧ k < C.nodes.length ∧ a = some ⟨b, off, none⟩ ∧ w.cell? ⟨b, off + k * 2, none⟩ = some (.slice ai (nodeOf C.nodes C.names[m]).1.length ci) ∧ RowAt w ai (nodeOf C.nodes C.names[m]).1 := by
  have hb := (valid_wkd hV).fine.nd _ (List.getElem_mem hm)
  have hl : C.names[m].2.toNat < C.nodes.length := by omega
  obtain ⟨b, off, rfl, hc⟩ := h (by omega)
  obtain ⟨ai, ci, h1, h2, h3⟩ := hc _ hl
  have e : nodeOf C.nodes C.names[m] = C.nodes[C.names[m].2.toNat] := by
    unfold nodeOf
    rw [List.getD_eq_getElem?_getD, List.getElem?_eq_getElem hl]
    rfl
  rw [e]
  exact ⟨C.names[m].2.toNat, b, off, ai, ci, by omega, hl, rfl, h1, h3⟩
/-- What a read behind the crash gives. -/
theorem rd_settled {C : MDisk} (hV : ValidD C) (m : Nat) (hm : m < C.names.length) : rdOf (setOf C) C.names[m].1 = (true, (nodeOf C.nodes C.names[m]).1) := by
  rw [rdOf_yes (set_valid hV)]
  exact set_read hV m hm
theorem quiet_same0 {P : Program} {f : FuncId} {args : Array Value} {w : World} {x : Nat} {v : Value} (h : Calls P f args (w.drewN x) fun e w' => e = .returned v ∧ w' = w.drewN x) : Calls P f args (w.drewN x) fun e w'' => e = .returned v ∧ ∃ n, w'' = w.drewN n :=
  h.mono fun _ _ hh => ⟨hh.1, x, hh.2⟩
end Go.Proofs.YtpccongphchagaaGreatDoor
