import Derived.SevenTiedAt
import Derived.Test.YtoceemjbcgmojaaGreatDoorVLg
import Derived.Test.YtoceemjbcgmojaaGreatDoorVLi
import Derived.Test.YtoceemjbcgmojaaGreatDoorVTyz
import Derived.Test.YtoceemjbcgmojaaGreatDoorVEg
set_option linter.all false
set_option maxRecDepth 100000
set_option maxHeartbeats 200000
namespace Go.Proofs.YtoceemjbcgmojaaGreatDoor
section
open Go Go.ChangeShapes Go.WideShapes Go.ChangeAt Go.WideMaps Go.WideElems Go.RowKit
theorem scopes_named:Tryz.prog.funcNamed "assay/assaylaw.Scopes" =some 4:=by kernel_rfl
theorem scopes_inst:Tryz.f4.isInstance Tryz.prog Rows.scopesRow.origin Rows.scopesRow.targs:=of_decide_eq_true (by kernel_rfl)
theorem scopes_wrap:Tryz.f4.isWrapper Tryz.prog Rows.scopesRow.wrapper Rows.scopesRow.mainSum:=by
 unfold Func.isWrapper;first|(rw [if_pos (by decide+kernel)];kernel_rfl)|(rw [if_neg (by decide+kernel)];exact ⟨rfl,rfl⟩)
theorem scopes_row:Rows.ScopesSaid:=
 OpenClaim.holds_of_wide 4 Tryz.f4 rfl rfl rfl rfl rfl rfl rfl ⟨rfl,rfl,rfl,rfl,rfl⟩ rfl rfl rfl rfl rfl scopes_named Tryz.func4 scopes_closed scopes_inst scopes_wrap
  (fun os started H enc _=>scopes_lifted os started H enc)
#print axioms scopes_row
end
section
open Go
theorem ops_stand:([22].all fun u=> !Tryz.prog.wantsStandIn u)=true:=by kernel_rfl
theorem scopes_holds:Rows.ScopesCardSaid:=
 Claim7.holds_tied_plain_at .later [] tieK true Rows.scopesCard.stood.harness true
  scopes_row (fun _ h=>by cases h) scopes_wfb (fun _ h=>by cases h) scopes_row_tie rfl ⟨rfl,rfl⟩ seat_main rfl
  (fun f fn hf hfn=>by
   obtain rfl:f=4:=(Option.some.inj (scopes_named.symm.trans hf)).symm
   obtain rfl:fn=Tryz.f4:=(Option.some.inj (Tryz.func4.symm.trans hfn)).symm
   exact ⟨seat_looks,fun j t ht=>by
    rw [Tryz.params4] at ht
    have hm:t∈[22]:=by simpa using Array.mem_of_getElem? ht
    exact (show Tryz.prog.wantsStandIn t=false by simpa using List.all_eq_true.1 ops_stand t hm)⟩)
  scopes_goes
#print axioms scopes_holds
end
end Go.Proofs.YtoceemjbcgmojaaGreatDoor
