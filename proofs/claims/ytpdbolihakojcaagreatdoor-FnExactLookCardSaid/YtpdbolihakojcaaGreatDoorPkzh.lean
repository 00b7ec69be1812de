import Derived.Test.YtpdbolihakojcaaGreatDoorPkzg
import Derived.Test.YtpdbolihakojcaaGreatDoorPkd
namespace Go.Proofs.YtpdbolihakojcaaGreatDoor.LkRow
set_option maxRecDepth 20000
open Go.ChangeShapes Go.WideShapes Go.ChangeAt Go.RowKit
set_option linter.unusedVariables false
theorem over:Rows.fnExactLookRow.holds Tryz.pinned (OpenSpec.ofChange Rows.fnExactLookSpec):=
 OpenClaim.holds_of_wide 3 Tryz.f3 rfl rfl rfl rfl rfl rfl rfl ⟨rfl,rfl,rfl,rfl,rfl⟩ rfl rfl rfl rfl rfl (by kernel_rfl) Tryz.func3 KZ
  (of_decide_eq_true (by kernel_rfl)) (by unfold Func.isWrapper;first|(rw[if_pos (by decide+kernel)];kernel_rfl)|(rw[if_neg (by decide+kernel)];exact⟨rfl,rfl⟩))
  (fun os z H enc _=>Lh os z H enc)
end Go.Proofs.YtpdbolihakojcaaGreatDoor.LkRow
namespace Go.Proofs.YtpdbolihakojcaaGreatDoor
theorem fnExactLook_holds:Rows.FnExactLookCardSaid:=
 Claim7.holds_tied_plain_at .later [] [.data,.data,.data,.data,.handle,.sentinel,.sentinel,.sentinel,.sentinel,.pinned] true Rows.fnExactLookCard.stood.harness true
  LkRow.over (fun _ h=>by cases h) (by kernel_rfl) (fun _ h=>by cases h) fnExactLook_row_tie rfl ⟨rfl,rfl⟩ (by kernel_rfl) rfl
  (fun f fn G E=>by
   obtain rfl:f=3:=Nv ((show Tryz.prog.funcNamed "loop.example/s02349/laws.FnExactLook" =some 3 by kernel_rfl).symm.trans G)|>.symm;obtain rfl:fn=Tryz.f3:=(Nv (Tryz.func3.symm.trans E)).symm;exact⟨by kernel_rfl,fun j t z=>by
    rw[Tryz.params3] at z;have I:t∈[26]:=(by simpa using Array.mem_of_getElem? z);have A:([26].all fun u=> !Tryz.prog.wantsStandIn u)=true:=(by kernel_rfl);exact(show Tryz.prog.wantsStandIn t=false by simpa using List.all_eq_true.1 A t I)⟩)
  (by kernel_rfl)
end Go.Proofs.YtpdbolihakojcaaGreatDoor
