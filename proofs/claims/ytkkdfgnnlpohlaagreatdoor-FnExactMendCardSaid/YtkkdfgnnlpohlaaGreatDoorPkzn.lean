import Derived.Test.YtkkdfgnnlpohlaaGreatDoorPkzm
import Derived.Test.YtkkdfgnnlpohlaaGreatDoorPkd
namespace Go.Proofs.YtkkdfgnnlpohlaaGreatDoor.MnRow
set_option maxRecDepth 20000
open Go.ChangeShapes Go.WideShapes Go.ChangeAt Go.RowKit
set_option linter.unusedVariables false
theorem over:Rows.fnExactMendRow.holds Tryz.pinned (OpenSpec.ofChange Rows.fnExactMendSpec):=
 OpenClaim.holds_of_wide 3 Tryz.f3 rfl rfl rfl rfl rfl rfl rfl ⟨rfl,rfl,rfl,rfl,rfl⟩ rfl rfl rfl rfl rfl (by kernel_rfl) Tryz.func3 MW
  (OU (by kernel_rfl)) (by unfold Func.isWrapper;first|(rw[OS (by decide+kernel)];kernel_rfl)|(rw[OR (by decide+kernel)];exact⟨rfl,rfl⟩))
  (fun os z H enc _=>Nh os z H enc)
end Go.Proofs.YtkkdfgnnlpohlaaGreatDoor.MnRow
namespace Go.Proofs.YtkkdfgnnlpohlaaGreatDoor
theorem fnExactMend_holds:Rows.FnExactMendCardSaid:=
 Claim7.holds_tied_plain_at .later [] [.data,.data,.data,.data,.sentinel,.sentinel,.sentinel,.sentinel,.pinned] true Rows.fnExactMendCard.stood.harness true
  MnRow.over (fun _ h=>by cases h) (by kernel_rfl) (fun _ h=>by cases h) fnExactMend_row_tie rfl ⟨rfl,rfl⟩ (by kernel_rfl) rfl
  (fun f fn G E=>by
   obtain rfl:f=3:=PJ ((show Tryz.prog.funcNamed "loop.example/s02349/laws.FnExactMend" =some 3 by kernel_rfl).symm.trans G)|>.symm;obtain rfl:fn=Tryz.f3:=(PJ (Tryz.func3.symm.trans E)).symm;exact⟨by kernel_rfl,fun j t z=>by
    rw[Tryz.params3] at z;have I:t∈[26]:=(by simpa using Array.mem_of_getElem? z);have A:([26].all fun u=> !Tryz.prog.wantsStandIn u)=true:=(by kernel_rfl);exact(show Tryz.prog.wantsStandIn t=false by simpa using List.all_eq_true.1 A t I)⟩)
  (by kernel_rfl)
end Go.Proofs.YtkkdfgnnlpohlaaGreatDoor
