import Derived.Test.YtlnlhlefeokfjaaGreatDoorPYw
set_option linter.all false
set_option maxRecDepth 100000
set_option maxHeartbeats 200000
namespace Go.Proofs.YtlnlhlefeokfjaaGreatDoor
open Go
section
open Go.ChangeShapes Go.WideShapes Go.ChangeAt Go.WideMaps Go.WideElems Go.RowKit
def principal_named:Tryz.prog.funcNamed "assay/assaykeep.Principal" =some 3:=qkr
def AE:Tryz.f3.isInstance Tryz.prog Rows.principalRow.origin Rows.principalRow.targs:=of_decide_eq_true qkr
def AF:Tryz.f3.isWrapper Tryz.prog Rows.principalRow.wrapper Rows.principalRow.mainSum:=by
 rw[Func.isWrapper];first|(rw[if_pos<|by decide+kernel];kernel_rfl)|(rw[if_neg<|by decide+kernel];exact⟨rfl,rfl⟩)
def principal_row:Rows.PrincipalSaid:=
 OpenClaim.holds_of_wide 3 Tryz.f3 rfl rfl rfl rfl rfl rfl rfl ⟨rfl,rfl,rfl,rfl,rfl⟩ rfl rfl rfl rfl rfl principal_named Tryz.func3 vO AE AF
  (λos started H enc _=>vP os started H enc)
#print axioms principal_row
end
def CV:([22,3].all λu=> !Tryz.prog.wantsStandIn u)=true:=qkr
theorem principal_holds:Rows.PrincipalCardSaid:=
 Claim7.holds_tied_plain_at .later [] [.data,.data,.data,.sentinel,.sentinel,.data,.data] true Rows.principalCard.stood.harness true
  principal_row (λ_ h=>MO) CJ (λ_ h=>MO) principal_row_tie rfl ⟨rfl,rfl⟩ Vd rfl
  (λf fn hf hfn=>by
   obtain rfl:f=3:=(Option.some.inj<|principal_named.symm.trans hf).symm;obtain rfl:fn=Tryz.f3:=(Option.some.inj<|Tryz.func3.symm.trans hfn).symm
   exact⟨Ol,λj t ht=>by
    rw[Tryz.params3]at ht;have hm:t∈[22,3]:=by simpa using Array.mem_of_getElem? ht
    exact(show Tryz.prog.wantsStandIn t=false by simpa using List.all_eq_true.1 CV t hm)⟩)
  Aq
#print axioms principal_holds
end Go.Proofs.YtlnlhlefeokfjaaGreatDoor
