import Derived.JoinedOf
import Derived.Test.YtoceemjbcgmojaaGreatDoorRows
set_option linter.all false
set_option maxRecDepth 100000
set_option maxHeartbeats 200000
namespace Go.Proofs.YtoceemjbcgmojaaGreatDoor
section
open Go
theorem and2{a b:Bool}(h:a=true)(k:b=true):(a&&b)=true:=by rw[h,k];rfl
theorem cp1:(laidOutB Tryz.prog)=true:=by kernel_rfl
theorem cp2:(mapsRowed Tryz.prog)=true:=by kernel_rfl
theorem cp6:((Tryz.prog.stops==[]))=true:=by kernel_rfl
theorem cp8:((Tryz.prog.stopKnobs==[]))=true:=by kernel_rfl
theorem cp24:(Tryz.prog.stopsHeard)=true:=by kernel_rfl
theorem cp25:(Tryz.prog.mayEnter)=true:=by kernel_rfl
end
section
open Go
theorem shows_c0:(Rows.showsRow.wf (OpenSpec.ofChange Rows.showsSpec))=true:=by kernel_rfl
theorem shows_c3:(Tryz.f3.params.all (Tryz.prog.readableRec ·))=true:=by kernel_rfl
theorem shows_c4:(namedTie Tryz.prog Rows.showsRow.named Rows.showsSpec.vars)=true:=by kernel_rfl
theorem shows_c5:((Rows.showsRow.stops==[]))=true:=by kernel_rfl
theorem shows_c7:((Rows.showsRow.knobs==[]))=true:=by kernel_rfl
theorem shows_c9:((Rows.showsRow.inPlace==Tryz.prog.inPlace 3))=true:=by kernel_rfl
theorem shows_c10:((Rows.showsRow.unfollowed==Tryz.prog.unfollowed 3))=true:=by kernel_rfl
theorem shows_c11:((Rows.showsRow.recurses==Tryz.prog.recurses 3))=true:=by kernel_rfl
theorem shows_c12:((Rows.showsRow.named==Tryz.prog.varsNamed 3))=true:=by kernel_rfl
theorem shows_c13:((Rows.showsRow.maps==(Tryz.f3.params.toList++Rows.showsSpec.plain.varTypes Tryz.prog).any (Tryz.prog.mapsRec ·)))=true:=by kernel_rfl
theorem shows_c14:((Rows.showsRow.ifaces==(Tryz.f3.params.toList++Rows.showsSpec.plain.varTypes Tryz.prog).any (Tryz.prog.ifacesRec ·)))=true:=by kernel_rfl
theorem shows_c15:((Rows.showsRow.mapsOut==Tryz.prog.mapsAmong Tryz.f3.resultTypes.toList))=true:=by kernel_rfl
theorem shows_c16:((Rows.showsRow.loops==(Tryz.f3.params.toList++Rows.showsSpec.plain.varTypes Tryz.prog).any (Tryz.prog.loopsFrom ·)))=true:=by kernel_rfl
theorem shows_c17:((Rows.showsRow.wideKeys==(Tryz.f3.params.toList++Rows.showsSpec.plain.varTypes Tryz.prog++Tryz.f3.resultTypes.toList).any (Tryz.prog.wideKeysFrom ·)))=true:=by kernel_rfl
theorem shows_c18:(Rows.showsSpec.vars.all (Tryz.prog.varReadable ·))=true:=by kernel_rfl
theorem shows_c19:(Tryz.f3.resultTypes.all (fun t=>Tryz.prog.readableRec t&&decide (t<Tryz.prog.types.size)))=true:=by kernel_rfl
theorem shows_c20:((Rows.showsRow.ifacesOut==Tryz.f3.resultTypes.toList.any (Tryz.prog.ifacesRec ·)))=true:=by kernel_rfl
theorem shows_c21:((Rows.showsRow.loopsOut==Tryz.f3.resultTypes.toList.any (Tryz.prog.loopsFrom ·)))=true:=by kernel_rfl
theorem shows_c22:((Rows.showsRow.plainKeys==Tryz.prog.plainKeys))=true:=by kernel_rfl
theorem shows_c23:(Rows.showsRow.shortTexts.isNone)=true:=by kernel_rfl
theorem shows_c26:((Rows.showsRow.lifted==Tryz.prog.liftsFinal))=true:=by kernel_rfl
theorem shows_c27:((Tryz.prog.make==some Rows.showsRow.make))=true:=by kernel_rfl
theorem shows_c29:((Rows.showsRow.pinned==Rows.showsRow.pinnedBy))=true:=by kernel_rfl
theorem shows_c30:((Rows.showsRow.veiled==(Tryz.f3.params.toList++Rows.showsSpec.plain.varTypes Tryz.prog++Tryz.f3.resultTypes.toList).any (Tryz.prog.veiledRec ·)))=true:=by kernel_rfl
theorem shows_c31:(Rows.showsRow.veiledFits Tryz.prog Tryz.f3.params.toList (Tryz.f3.params.toList++Rows.showsSpec.plain.varTypes Tryz.prog++Tryz.f3.resultTypes.toList))=true:=by kernel_rfl
end
section
open Go
theorem shows_closed:joinedFacts Tryz.prog 3 Tryz.f3 Rows.showsSpec Rows.showsRow=true:=by
 unfold joinedFacts
 exact(and2 (and2 (and2 (and2 (and2 (and2 (and2 (and2 (and2 (and2 (and2 (and2 (and2 (and2 (and2 (and2 (and2 (and2 (and2 (and2 (and2 (and2 (and2 (and2 (and2 (and2 (and2 (and2 (and2 (and2 (and2 shows_c0 cp1) cp2) shows_c3) shows_c4) shows_c5) cp6) shows_c7) cp8) shows_c9) shows_c10) shows_c11) shows_c12) shows_c13) shows_c14) shows_c15) shows_c16) shows_c17) shows_c18) shows_c19) shows_c20) shows_c21) shows_c22) shows_c23) cp24) cp25) shows_c26) shows_c27) (by kernel_rfl)) shows_c29) shows_c30) shows_c31)
end
end Go.Proofs.YtoceemjbcgmojaaGreatDoor
