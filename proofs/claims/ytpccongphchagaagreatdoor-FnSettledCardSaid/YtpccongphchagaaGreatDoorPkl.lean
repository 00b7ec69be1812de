import Derived.Test.YtpccongphchagaaGreatDoorPka
import Derived.Test.YtpccongphchagaaGreatDoorPkb
import Derived.Test.YtpccongphchagaaGreatDoorPkf
import Derived.Laws.BytesArg
import Derived.Deep.QuietTactic
import Derived.BigQuiet
namespace Go.Proofs.YtpccongphchagaaGreatDoor
open Go.RowKit
/-- append of bytes, perhaps none, with where the new row lies: in the old block, or in a new one. -/
theorem wpList_append_blk {ops : Array Oper} {rest : List Oper} {o : Oper} {act : Act} {Q : Exit → Act → World → Prop} (w : World) (hgd : o.guard = none) (s x : Operand)
    (ho : o.op = .call { callee := .builtin .append, args := #[s, x], argTypes := #[22, 22] })
    (base : Nat) (v : Value) (l m : List Nat) (hs : act.eval s = v) (hown : OwnB w base v l) (ad : Option Addr) (c : Nat) (hx : act.eval x = .slice ad m.length c) (hr : RowAt w ad m)
    (hlen : l.length + m.length ≤ 1099511627776) (hbase : base ≤ w.heap.size)
    (h : ∀ v' w', OwnB w' base v' (l ++ m) → w.grownBy w' v.ownBlock → (v'.ownBlock = v.ownBlock ∨ v'.ownBlock = some w.heap.size) → wpList Tryz.prog ops Q rest (act.put o.dst v') w') : wpList Tryz.prog ops Q (o :: rest) act w := by
  obtain ⟨i0, hi, hz0, hz1, hz2⟩ := info_parts Tryz.info5
  by_cases hm : 0 < m.length
  · obtain ⟨b, off, rfl, hc⟩ := hr hm
    have hnews : ∀ j u, (m.map bv)[j]? = some u → w.cell? ((⟨b, off, none⟩ : Addr).add j) = some u := by
      intro j u hj
      rw [addr_add]
      have hjm : j < m.length := by
        rcases Nat.lt_or_ge j m.length with h' | h'
        · exact h'
        · simp [List.getElem?_eq_none h'] at hj
      rw [hc j hjm]
      simp [hjm, bv] at hj
      rw [hj]
    have h1 : ∀ u ∈ m.map bv, u.oneCell' = true := by
      intro u hu
      simp only [List.mem_map] at hu
      obtain ⟨y, _, rfl⟩ := hu
      rfl
    obtain ⟨v', w', hr', h2, h3, _⟩ := run_append_own (P := Tryz.prog) w base 22 o.type 5 i0 (.int .u8 0) 1 1 Tryz.underlying22 hi hz0 hz1 hz2 rfl (by decide) v l.length (l.map bv) hown ⟨b, off, none⟩ m.length c (m.map bv) (by simp) hnews h1 (by unfold maxLen; omega) (by omega) hbase
    have hblk : v'.ownBlock = v.ownBlock ∨ v'.ownBlock = some w.heap.size := by
      rcases hown.2 with ⟨rfl, hn⟩ | ⟨g, cap, cur, rfl, hbg, hg, hnc, hcm, hcs, htake⟩
      · have hr2 := run_append_nil (P := Tryz.prog) w 22 o.type 5 i0 (.int .u8 0) Tryz.underlying22 hi hz0 ⟨b, off, none⟩ m.length c (m.map bv) (by rw [hz1]; simp) hnews (by omega) (by omega) (by rw [hz2]; omega)
        rw [hr'] at hr2
        simp only [Result.ok.injEq] at hr2
        rw [hr2.1]
        exact .inr rfl
      · by_cases hroom : l.length + m.length ≤ cap
        · have hr2 := run_append_room (P := Tryz.prog) w 22 o.type 5 i0 Tryz.underlying22 hi g l.length cap cur hg ⟨b, off, none⟩ m.length c (m.map bv) (by rw [hz1]; simp) hnews h1 hroom (by rw [hz1]; simp; omega)
          rw [hr'] at hr2
          simp only [Result.ok.injEq] at hr2
          rw [hr2.1]
          exact .inl rfl
        · have hr2 := run_append_grow (P := Tryz.prog) w 22 o.type 5 i0 (.int .u8 0) Tryz.underlying22 hi hz0 ⟨g, 0, none⟩ l.length cap (l.map bv) (by rw [hz1]; simp) (hown.cells (g := g) rfl) ⟨b, off, none⟩ m.length c (m.map bv) (by rw [hz1]; simp) hnews (by omega) (by omega) (growslice_fits (by omega) (by rw [hz2]; omega))
          rw [hr'] at hr2
          simp only [Result.ok.injEq] at hr2
          rw [hr2.1]
          exact .inr rfl
    refine wpList_plain hgd fun K hK => ?_
    unfold Oper.wp execOp
    simp only [ho, resolve, invoke, builtin, Sem.run_bind, Sem.run_pure, Result.andThen_ok, List.map_toArray, List.map_cons, List.map_nil, hs, hx, hr']
    refine hK _ _ (h v' w' ?_ h3 hblk)
    unfold OwnB
    rw [List.length_append, List.map_append]
    exact h2
  · have hm0 : m = [] := List.eq_nil_of_length_eq_zero (by omega)
    subst hm0
    have hr' : (Builtin.append_ #[22, 22] o.type #[v, .slice ad 0 c]).run Tryz.prog w = .ok v w := by
      rcases hown.2 with ⟨rfl, hn⟩ | ⟨g, cap, cur, rfl, hbg, hg, hnc, _⟩
      · cases ad <;> simp [Builtin.append_, run_underlying Tryz.underlying22, sizeOf, typeInfo, hi, Builtin.lenOf, Builtin.firstCells, loadCells, loadCellsFrom]
      · cases ad <;> simp [Builtin.append_, run_underlying Tryz.underlying22, sizeOf, typeInfo, hi, Builtin.lenOf, Builtin.firstCells, storeCells, loadCells, loadCellsFrom, hnc]
    refine wpList_plain hgd fun K hK => ?_
    unfold Oper.wp execOp
    simp only [List.length_nil] at hx
    simp only [ho, resolve, invoke, builtin, Sem.run_bind, Sem.run_pure, Result.andThen_ok, List.map_toArray, List.map_cons, List.map_nil, hs, hx, hr']
    exact hK _ _ (h v w (by rw [List.append_nil]; exact hown) (grown_refl _ _) (.inl rfl))
end Go.Proofs.YtpccongphchagaaGreatDoor
namespace Go.Proofs.YtpccongphchagaaGreatDoor
open Go.RowKit
def strN (l : List Nat) : ByteArray := strOfNums (l.map fun (n : Nat) => (n : Int))
theorem conv_str (w : World) (a : Option Addr) (cap : Nat) (l : List Nat) (hr : RowAt w a l) : (convert 22 9 (.slice a l.length cap)).run Tryz.prog w = .ok (.string (strN l)) w := by
  by_cases h : 0 < l.length
  · obtain ⟨b, off, rfl, hc⟩ := hr h
    refine run_convert_bytes_arg w 22 5 Tryz.underlying22 Tryz.underlying5 b off l.length cap (l.map fun (n : Nat) => (n : Int)) (by simp) (fun i hi => ?_) 9 Tryz.underlying9
    rw [hc i hi]
    simp [hi]
  · obtain rfl : l = [] := List.eq_nil_of_length_eq_zero (by omega)
    cases a with
    | none => exact run_convert_bytes_nil w 22 5 Tryz.underlying22 Tryz.underlying5 _ _ 9 Tryz.underlying9
    | some x =>
      rw [run_convert_bytes_string w 22 9 5 _ _ _ Tryz.underlying22 Tryz.underlying5 Tryz.underlying9]
      exact run_bytesToString w x 0 cap [] (run_loadCells_list (P := Tryz.prog) w x [] (fun j v hj => by simp at hj))
theorem sameBytes_any (a a' : Option Addr) (cap cap' : Nat) (l : List Nat) (w : World) (hr : RowAt w a l) (hr' : RowAt w a' l) :
    Calls Tryz.prog 12 #[.slice a l.length cap, .slice a' l.length cap'] w fun e w' => e = .returned (.bool true) ∧ w' = w := by
  have h1 := conv_str w a cap l hr
  have h2 := conv_str w a' cap' l hr'
  generalize strN l = s at h1 h2
  go_enter Tryz.func12, Tryz.ntmps12
  go_wp2
  go_ret
  exact ⟨rfl, rfl⟩
end Go.Proofs.YtpccongphchagaaGreatDoor
namespace Go.Proofs.YtpccongphchagaaGreatDoor
open Go.RowKit
set_option linter.unusedVariables false
set_option maxRecDepth 20000 in
set_option maxHeartbeats 2000000 in
theorem sameEntries_same (a a' : Option Addr) (cap cap' : Nat) (es : List (ByteArray × Int)) (w : World) (hl : es.length ≤ 9223372036854775807) (hr : EntAt w a es) (hr' : EntAt w a' es) :
    Calls Tryz.prog 24 #[.slice a es.length cap, .slice a' es.length cap'] w fun e w' => e = .returned (.bool true) ∧ ∃ n, w' = w.drewN n := by
  go_enter Tryz.func24, Tryz.ntmps24
  go_wp2
  go_loopw [5, 13] (fun _ i wr => ∃ k : Nat, k ≤ es.length ∧ i = .int .i64 k ∧ ∃ n, wr = w.drewN n) (fun _ i _ => es.length - (intOf i).toNat)
  case atStart => exact ⟨0, Nat.zero_le _, rfl, 0, rfl⟩
  case round =>
    obtain ⟨k, hk, rfl, n, rfl⟩ := hrel
    by_cases hlt : k < es.length
    · obtain ⟨b, off, rfl, hc⟩ := hr (by omega)
      obtain ⟨b', off', rfl, hc'⟩ := hr' (by omega)
      obtain ⟨hc0, hc1⟩ := hc k hlt
      obtain ⟨hd0, hd1⟩ := hc' k hlt
      clear hc hc' hr hr'
      generalize es[k].1 = s0 at hc0 hd0
      generalize es[k].2 = n0 at hc1 hd1
      go_wp2
      go_quiet (fail)
      go_wp2
      go_roundw
      case rel => exact ⟨k + 1, by omega, by go_num, _, rfl⟩
      case measure => simp [intOf]; omega
    · go_wp2
      go_ret
      exact ⟨rfl, n, rfl⟩
end Go.Proofs.YtpccongphchagaaGreatDoor
