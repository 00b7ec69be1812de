import Derived.Test.YtknnpgffdbkfnaaDoorNameTab
namespace Go.Proofs.YtknnpgffdbkfnaaDoor
open Go.RowKit
theorem run_index_nam (w : World) (k : Nat) (hk : k < 31) : (Instr.index 63 (.agg (namA 31)) (.int .i64 (k : Int))).run Tryd.prog w = .ok (nameV k) w := by
  have hu := run_underlying Tryd.underlying63
  have he : (namA 31)[k]? = some (nameV k) := by simp [namA, namL, hk]
  simp [Instr.index, asIntOf, hu, part, he, hk]
theorem wpList_index_nam {ops : Array Oper} {rest : List Oper} {o : Oper} {act : Act} {Q : Exit → Act → World → Prop} (w : World) (k : Nat) (hgd : o.guard = none) (x y : Operand) (ho : o.op = .index 63 x y)
    (hx : act.eval x = .agg (namA 31)) (hy : act.eval y = .int .i64 (k : Int)) (hk : k < 31)
    (h : wpList Tryd.prog ops Q rest (act.put o.dst (.string (strB (nameL k)))) w) : wpList Tryd.prog ops Q (o :: rest) act w := by
  refine wpList_plain hgd fun K hK => ?_
  unfold Oper.wp execOp
  simp only [ho, hx, hy, Sem.run_bind, run_index_nam w k hk, Result.andThen_ok]
  exact hK _ _ h
end Go.Proofs.YtknnpgffdbkfnaaDoor
