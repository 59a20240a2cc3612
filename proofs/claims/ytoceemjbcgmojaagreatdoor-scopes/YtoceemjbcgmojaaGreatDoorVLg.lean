import Derived.JoinedOf
import Derived.KernelRfl
import Derived.Test.YtoceemjbcgmojaaGreatDoorRows
set_option linter.all false
set_option maxRecDepth 100000
set_option maxHeartbeats 200000
namespace Go.Proofs.YtoceemjbcgmojaaGreatDoor
section
open Go
theorem and2 {a b:Bool} (h:a=true) (k:b=true):(a&&b)=true:=by rw [h,k];rfl
theorem cp1:(laidOutB Tryz.prog)=true:=by kernel_rfl
theorem cp2:(mapsRowed Tryz.prog)=true:=by kernel_rfl
theorem cp6:((Tryz.prog.stops==[]))=true:=by kernel_rfl
theorem cp8:((Tryz.prog.stopKnobs==[]))=true:=by kernel_rfl
theorem cp24:(Tryz.prog.stopsHeard)=true:=by kernel_rfl
theorem cp25:(Tryz.prog.mayEnter)=true:=by kernel_rfl
end
section
open Go
theorem scopes_c0:(Rows.scopesRow.wf (OpenSpec.ofChange Rows.scopesSpec))=true:=by kernel_rfl
theorem scopes_c3:(Tryz.f4.params.all (Tryz.prog.readableRec ·))=true:=by kernel_rfl
theorem scopes_c4:(namedTie Tryz.prog Rows.scopesRow.named Rows.scopesSpec.vars)=true:=by kernel_rfl
theorem scopes_c5:((Rows.scopesRow.stops==[]))=true:=by kernel_rfl
theorem scopes_c7:((Rows.scopesRow.knobs==[]))=true:=by kernel_rfl
theorem scopes_c9:((Rows.scopesRow.inPlace==Tryz.prog.inPlace 4))=true:=by kernel_rfl
theorem scopes_c10:((Rows.scopesRow.unfollowed==Tryz.prog.unfollowed 4))=true:=by kernel_rfl
theorem scopes_c11:((Rows.scopesRow.recurses==Tryz.prog.recurses 4))=true:=by kernel_rfl
theorem scopes_c12:((Rows.scopesRow.named==Tryz.prog.varsNamed 4))=true:=by kernel_rfl
theorem scopes_c13:((Rows.scopesRow.maps==(Tryz.f4.params.toList++Rows.scopesSpec.plain.varTypes Tryz.prog).any (Tryz.prog.mapsRec ·)))=true:=by kernel_rfl
theorem scopes_c14:((Rows.scopesRow.ifaces==(Tryz.f4.params.toList++Rows.scopesSpec.plain.varTypes Tryz.prog).any (Tryz.prog.ifacesRec ·)))=true:=by kernel_rfl
theorem scopes_c15:((Rows.scopesRow.mapsOut==Tryz.prog.mapsAmong Tryz.f4.resultTypes.toList))=true:=by kernel_rfl
theorem scopes_c16:((Rows.scopesRow.loops==(Tryz.f4.params.toList++Rows.scopesSpec.plain.varTypes Tryz.prog).any (Tryz.prog.loopsFrom ·)))=true:=by kernel_rfl
theorem scopes_c17:((Rows.scopesRow.wideKeys==(Tryz.f4.params.toList++Rows.scopesSpec.plain.varTypes Tryz.prog++Tryz.f4.resultTypes.toList).any (Tryz.prog.wideKeysFrom ·)))=true:=by kernel_rfl
theorem scopes_c18:(Rows.scopesSpec.vars.all (Tryz.prog.varReadable ·))=true:=by kernel_rfl
theorem scopes_c19:(Tryz.f4.resultTypes.all (fun t=>Tryz.prog.readableRec t&&decide (t<Tryz.prog.types.size)))=true:=by kernel_rfl
theorem scopes_c20:((Rows.scopesRow.ifacesOut==Tryz.f4.resultTypes.toList.any (Tryz.prog.ifacesRec ·)))=true:=by kernel_rfl
theorem scopes_c21:((Rows.scopesRow.loopsOut==Tryz.f4.resultTypes.toList.any (Tryz.prog.loopsFrom ·)))=true:=by kernel_rfl
theorem scopes_c22:((Rows.scopesRow.plainKeys==Tryz.prog.plainKeys))=true:=by kernel_rfl
theorem scopes_c23:(Rows.scopesRow.shortTexts.isNone)=true:=by kernel_rfl
theorem scopes_c26:((Rows.scopesRow.lifted==Tryz.prog.liftsFinal))=true:=by kernel_rfl
theorem scopes_c27:((Tryz.prog.make==some Rows.scopesRow.make))=true:=by kernel_rfl
theorem scopes_c29:((Rows.scopesRow.pinned==Rows.scopesRow.pinnedBy))=true:=by kernel_rfl
theorem scopes_c30:((Rows.scopesRow.veiled==(Tryz.f4.params.toList++Rows.scopesSpec.plain.varTypes Tryz.prog++Tryz.f4.resultTypes.toList).any (Tryz.prog.veiledRec ·)))=true:=by kernel_rfl
theorem scopes_c31:(Rows.scopesRow.veiledFits Tryz.prog Tryz.f4.params.toList (Tryz.f4.params.toList++Rows.scopesSpec.plain.varTypes Tryz.prog++Tryz.f4.resultTypes.toList))=true:=by kernel_rfl
end
section
open Go
theorem scopes_closed:joinedFacts Tryz.prog 4 Tryz.f4 Rows.scopesSpec Rows.scopesRow=true:=by
 unfold joinedFacts
 exact (and2 (and2 (and2 (and2 (and2 (and2 (and2 (and2 (and2 (and2 (and2 (and2 (and2 (and2 (and2 (and2 (and2 (and2 (and2 (and2 (and2 (and2 (and2 (and2 (and2 (and2 (and2 (and2 (and2 (and2 (and2 scopes_c0 cp1) cp2) scopes_c3) scopes_c4) scopes_c5) cp6) scopes_c7) cp8) scopes_c9) scopes_c10) scopes_c11) scopes_c12) scopes_c13) scopes_c14) scopes_c15) scopes_c16) scopes_c17) scopes_c18) scopes_c19) scopes_c20) scopes_c21) scopes_c22) scopes_c23) cp24) cp25) scopes_c26) scopes_c27) (by kernel_rfl)) scopes_c29) scopes_c30) scopes_c31)
end
end Go.Proofs.YtoceemjbcgmojaaGreatDoor
