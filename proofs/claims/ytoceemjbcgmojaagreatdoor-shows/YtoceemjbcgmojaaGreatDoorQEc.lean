import Derived.Test.YtoceemjbcgmojaaGreatDoorQLg
import Derived.Test.YtoceemjbcgmojaaGreatDoorQLi
import Derived.Test.YtoceemjbcgmojaaGreatDoorQEb
set_option linter.all false
set_option maxRecDepth 100000
set_option maxHeartbeats 200000
namespace Go.Proofs.YtoceemjbcgmojaaGreatDoor
section
open Go Go.ChangeShapes Go.WideShapes Go.ChangeAt Go.WideMaps Go.WideElems Go.RowKit
theorem shows_named:Tryz.prog.funcNamed "assay/assaylaw.Shows" =some 3:=by kernel_rfl
theorem shows_inst:Tryz.f3.isInstance Tryz.prog Rows.showsRow.origin Rows.showsRow.targs:=of_decide_eq_true (by kernel_rfl)
theorem shows_wrap:Tryz.f3.isWrapper Tryz.prog Rows.showsRow.wrapper Rows.showsRow.mainSum:=by
 unfold Func.isWrapper;first|(rw[if_pos (by decide+kernel)];kernel_rfl)|(rw[if_neg (by decide+kernel)];exact⟨rfl,rfl⟩)
theorem shows_row:Rows.ShowsSaid:=
 OpenClaim.holds_of_wide 3 Tryz.f3 rfl rfl rfl rfl rfl rfl rfl ⟨rfl,rfl,rfl,rfl,rfl⟩ rfl rfl rfl rfl rfl shows_named Tryz.func3 shows_closed shows_inst shows_wrap
  (fun os started H enc _=>shows_lifted os started H enc)
#print axioms shows_row
end
section
open Go
theorem ops_stand:([22].all fun u=> !Tryz.prog.wantsStandIn u)=true:=by kernel_rfl
theorem shows_holds:Rows.ShowsCardSaid:=
 Claim7.holds_tied_plain_at .later [] tieK true Rows.showsCard.stood.harness true
  shows_row (fun _ h=>by cases h) shows_wfb (fun _ h=>by cases h) shows_row_tie rfl ⟨rfl,rfl⟩ seat_main rfl
  (fun f fn hf hfn=>by
   obtain rfl:f=3:=(Option.some.inj (shows_named.symm.trans hf)).symm
   obtain rfl:fn=Tryz.f3:=(Option.some.inj (Tryz.func3.symm.trans hfn)).symm
   exact⟨seat_looks,fun j t ht=>by
    rw[Tryz.params3]at ht
    have hm:t∈[22]:=by simpa using Array.mem_of_getElem? ht
    exact(show Tryz.prog.wantsStandIn t=false by simpa using List.all_eq_true.1 ops_stand t hm)⟩)
  shows_goes
#print axioms shows_holds
end
end Go.Proofs.YtoceemjbcgmojaaGreatDoor
