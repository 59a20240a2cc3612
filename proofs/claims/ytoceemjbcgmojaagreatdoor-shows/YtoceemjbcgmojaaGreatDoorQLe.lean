import Derived.LaidMore
import Derived.Test.YtoceemjbcgmojaaGreatDoorQTyz
import Derived.Test.YtoceemjbcgmojaaGreatDoorQLd0
import Derived.Test.YtoceemjbcgmojaaGreatDoorQTo
set_option linter.all false
set_option maxRecDepth 100000
set_option maxHeartbeats 200000
namespace Go.Proofs.YtoceemjbcgmojaaGreatDoor
section
open Go Go.ChangeShapes Go.WideShapes Go.ChangeAt Go.WideMaps Go.WideElems Go.RowKit
theorem own:ownKnob Tryz.prog.godebug=none:=by kernel_rfl
theorem laidOut:laidOutB Tryz.prog=true:=by kernel_rfl
theorem gWords:Tryz.prog.globalNamed "assay/reader.words" =some 1:=by kernel_rfl
theorem gSigns:Tryz.prog.globalNamed "assay/reader.signs" =some 0:=by kernel_rfl
theorem tWords:(Tryz.prog.globals[1]?).map (·.type)=some 518:=by kernel_rfl
theorem tSigns:(Tryz.prog.globals[0]?).map (·.type)=some 518:=by kernel_rfl
def laidAll:List (String×DataW Unit):=Rows.showsRow.laid
theorem door_met(os:Os)(args:Array Value):laidMetH Tryz.prog laidAll ((World.doorLaid Tryz.prog 72 os).forCall (fun _ _=>0) ⟨#[],args,[]⟩).memory:=
 laidMetH_of_parts3 (fuel:=8) (laidMet_of_run' 8 (by kernel_rfl) (by kernel_rfl)) (by kernel_rfl) (by kernel_rfl)
theorem of_laid{W:World}(h:laidMetH Tryz.prog laidAll W):Laid W:=by
 rw[MakeChecks.laidMetH_plain _ _ _ (by kernel_rfl)]at h
 obtain⟨ps,⟨g0,t0,cs0,f0,p0,q0,hg0,ht0,hv0,hd0,⟨g1,t1,cs1,f1,p1,q1,hg1,ht1,hv1,hd1,⟨g2,t2,cs2,f2,p2,q2,hg2,ht2,hv2,hd2,⟨g3,t3,cs3,f3,p3,q3,hg3,ht3,hv3,hd3,⟨g4,t4,cs4,f4,p4,q4,hg4,ht4,hv4,hd4,⟨g5,t5,cs5,f5,p5,q5,hg5,ht5,hv5,hd5,⟨g6,t6,cs6,f6,p6,q6,hg6,ht6,hv6,hd6,_,_⟩,_⟩,_⟩,_⟩,_⟩,_⟩,_⟩,_,_⟩:=h
 obtain rfl:=Option.some.inj (gWords.symm.trans hg0)
 obtain rfl:=Option.some.inj (gSigns.symm.trans hg1)
 obtain rfl:=Option.some.inj (tWords.symm.trans ht0)
 obtain rfl:=Option.some.inj (tSigns.symm.trans ht1)
 have hw:=strs_cells Pu.words Tryz.underlying518 Tryz.underlying9 strCells hd0
 have hs:=strs_cells signs Tryz.underlying518 Tryz.underlying9 strCells hd1
 have c1:∀j,j<13->W.cell? ⟨1,j,none⟩=some (.string (Pu.wordAt j)):=fun j hj=>by
  rw[World.var?_cell hg0 hv0 j]
  have:=hw j hj
  rw[Array.getElem?_toList]at this
  exact this
 have c0:∀j,j<13->W.cell? ⟨0,j,none⟩=some (.string (qac j)):=fun j hj=>by
  rw[World.var?_cell hg1 hv1 j]
  have:=hs j hj
  rw[Array.getElem?_toList]at this
  exact this
 exact⟨c1,c0,World.block_lt_of_cell? _ _ (c1 0 (by omega))⟩
theorem gPows:Tryz.prog.globalNamed "internal/strconv.uint64pow10" =some 2:=by kernel_rfl
theorem tPows:(Tryz.prog.globals[2]?).map (·.type)=some 542:=by kernel_rfl
def powsL:List Int:=[1,10,100,1000,10000,100000,1000000,10000000,100000000,1000000000,10000000000,100000000000,1000000000000,10000000000000,100000000000000,1000000000000000,10000000000000000,100000000000000000,1000000000000000000,10000000000000000000]
theorem pows_at(j:Nat)(hj:j<10):powsL.getD j 0=((10^j:Nat):Int):=by
 have hc:j=0\/j=1\/j=2\/j=3\/j=4\/j=5\/j=6\/j=7\/j=8\/j=9:=by omega
 rcases hc with rfl|rfl|rfl|rfl|rfl|rfl|rfl|rfl|rfl|rfl<;>decide
theorem u64Cells:Tryz.prog.cellsOf 453=1:=by kernel_rfl
theorem of_laid10{W:World}(h:laidMetH Tryz.prog laidAll W):P10 W:=by
 rw[MakeChecks.laidMetH_plain _ _ _ (by kernel_rfl)]at h
 obtain⟨ps,⟨g0,t0,cs0,f0,p0,q0,hg0,ht0,hv0,hd0,⟨g1,t1,cs1,f1,p1,q1,hg1,ht1,hv1,hd1,⟨g2,t2,cs2,f2,p2,q2,hg2,ht2,hv2,hd2,⟨g3,t3,cs3,f3,p3,q3,hg3,ht3,hv3,hd3,⟨g4,t4,cs4,f4,p4,q4,hg4,ht4,hv4,hd4,_,_⟩,_⟩,_⟩,_⟩,_⟩,_,_⟩:=h
 obtain rfl:=Option.some.inj (gPows.symm.trans hg4)
 obtain rfl:=Option.some.inj (tPows.symm.trans ht4)
 have hw:=nums_cells powsL Tryz.underlying542 Tryz.underlying453 u64Cells hd4
 have c2:∀j,j<10->W.cell? ⟨2,j,none⟩=some (.int .u64 ((10^j:Nat):Int)):=fun j hj=>by
  rw[World.var?_cell hg4 hv4 j]
  have:=hw j (by omega)
  rw[Array.getElem?_toList,pows_at j hj]at this
  exact this
 exact⟨c2,World.block_lt_of_cell? _ _ (c2 0 (by omega))⟩
end
end Go.Proofs.YtoceemjbcgmojaaGreatDoor
